/-
  Contracts of package table (allIn, Make) and of slices.Clone.
-/
import Derived.Test.YtepcijkmecoofaaEW
import Derived.Test.YtepcijkmecoofaaVA
namespace Go.Proofs.Ytepcijkmecoofaa
open Go.ChangeShapes Go.WideShapes Go.ChangeAt Go.RowKit
open WM EM
set_option maxRecDepth 100000

theorem allIn_yes {w : World} {s h n : Nat} {f : Nat → Nat} (H : St w s h n f) (a : Option Addr) (len cap : Nat) (l : Nat → Int) (hl : IntsAt w a len l) (h63 : len ≤ 9223372036854775807) (hall : ∀ i, i < len → 0 ≤ l i ∧ l i < n) :
    Calls Try.prog 28 #[.pointer (some ⟨s, 0, none⟩), .slice a len cap] w fun e w' => e = .returned (.bool true) ∧ w = w' := by
  have HI := Lib.hid (fun k h0 h1 => in_yes H k h0 h1)
  have HL := Lib.hid hl
  have HA := Lib.hid hall
  clear H hl hall
  go_enter Try.func28, Try.ntmps28
  go_wp2
  go_loop [9] (fun i => ∃ k : Nat, k ≤ len ∧ i = .int .i64 k) (fun i => len - (intOf i).toNat)
  case atStart => exact ⟨0, by omega, rfl⟩
  case round =>
    obtain ⟨k, hk, rfl⟩ := hrel
    by_cases hlt : k < len
    · obtain ⟨b, off, rfl, hbl, hc⟩ := HL.out k hlt
      obtain ⟨h0, h1⟩ := HA.out k hlt
      generalize l k = x at *
      have HX := Lib.hid (HI.out x h0 h1)
      clear h0 h1
      go_wp2_with (go_at_call 20; refine (HX.out).mono ?_; rintro e w' ⟨rfl, rfl⟩)
      go_round
      case rel => exact ⟨k + 1, by omega, by go_num⟩
      case measure => simp [intOf]; omega
    · obtain rfl : k = len := by omega
      go_wp2
      go_ret
      exact ⟨rfl, rfl⟩
theorem allIn_no {w : World} {s h n : Nat} {f : Nat → Nat} (H : St w s h n f) (a : Option Addr) (len cap : Nat) (l : Nat → Int) (hl : IntsAt w a len l) (h63 : len ≤ 9223372036854775807) (hno : ¬ ∀ i, i < len → 0 ≤ l i ∧ l i < n) :
    Calls Try.prog 28 #[.pointer (some ⟨s, 0, none⟩), .slice a len cap] w fun e w' => e = .returned (.bool false) ∧ w = w' := by
  have HI := Lib.hid (fun k h0 h1 => in_yes H k h0 h1)
  have HJ := Lib.hid (fun k h0 => in_no H k h0)
  have HL := Lib.hid hl
  have HN := Lib.hid hno
  clear H hl hno
  go_enter Try.func28, Try.ntmps28
  go_wp2
  go_loop [9] (fun i => ∃ k : Nat, k ≤ len ∧ i = .int .i64 k ∧ ∀ j, j < k → 0 ≤ l j ∧ l j < n) (fun i => len - (intOf i).toNat)
  case atStart => exact ⟨0, by omega, rfl, fun j hj => by omega⟩
  case round =>
    obtain ⟨k, hk, rfl, hall⟩ := hrel
    have HA := Lib.hid hall
    clear hall
    by_cases hlt : k < len
    · obtain ⟨b, off, rfl, hbl, hc⟩ := HL.out k hlt
      by_cases hin : 0 ≤ l k ∧ l k < n
      · have HK : Hid (∀ j, j < k + 1 → 0 ≤ l j ∧ l j < n) := Lib.hid (fun j hj => by
          by_cases e : j = k
          · subst e; exact hin
          · exact HA.out j (by omega))
        have HX := Lib.hid (HI.out (l k) hin.1 hin.2)
        clear hin HA
        generalize hx : l k = x at *
        clear hx
        go_wp2_with (go_at_call 20; refine (HX.out).mono ?_; rintro e w' ⟨rfl, rfl⟩)
        go_round
        case rel => exact ⟨k + 1, by omega, by go_num, HK.out⟩
        case measure => simp [intOf]; omega
      · have HX := Lib.hid (HJ.out (l k) hin)
        clear hin HA HN
        generalize hx : l k = x at *
        clear hx
        go_wp2_with (go_at_call 20; refine (HX.out).mono ?_; rintro e w' ⟨rfl, rfl⟩)
        go_ret
        exact ⟨rfl, rfl⟩
    · obtain rfl : k = len := by omega
      exact absurd (HA.out) (HN.out)

/-! ### slices.Clone -/
def intsV (l : Nat → Int) (n : Nat) : List Value := (List.range n).map fun j => .int .i64 (l j)
theorem intsV_length (l : Nat → Int) (n : Nat) : (intsV l n).length = n := by simp [intsV]
theorem intsV_some {l : Nat → Int} {n j : Nat} {u : Value} (h : (intsV l n)[j]? = some u) : j < n ∧ u = .int .i64 (l j) := by
  unfold intsV at h
  by_cases hj : j < n
  · simp [hj] at h; exact ⟨hj, h.symm⟩
  · simp [hj] at h
theorem intsV_get (l : Nat → Int) {n j : Nat} (h : j < n) : (intsV l n)[j]? = some (.int .i64 (l j)) := by simp [intsV, h]
theorem intsV_one (l : Nat → Int) (n : Nat) : ∀ u ∈ intsV l n, u.oneCell' = true := by
  intro u hu
  unfold intsV at hu
  simp only [List.mem_map] at hu
  obtain ⟨j, _, rfl⟩ := hu
  rfl
theorem IntsAt.src {w : World} {b off len : Nat} {l : Nat → Int} (h : IntsAt w (some ⟨b, off, none⟩) len l) (j : Nat) (u : Value) (hj : (intsV l len)[j]? = some u) : w.cell? ((⟨b, off, none⟩ : Addr).add j) = some u := by
  obtain ⟨hj2, rfl⟩ := intsV_some hj
  obtain ⟨b', off', e, _, hc⟩ := h j hj2
  injection e with e
  injection e with e1 e2
  subst e1 e2
  rw [← hc]
  congr 1
  unfold Addr.add
  split <;> simp_all
theorem owns0 (w : World) (e : TypeId) : (w.alloc (.cells #[] e)).ownsRow w.heap.size e 1 (.slice (some ⟨w.heap.size, 0, none⟩) 0 0) 0 [] :=
  ⟨rfl, .inr ⟨w.heap.size, 0, #[], rfl, Nat.le_refl _, heap_alloc_new w _, Nat.le_refl _, by unfold maxLen; omega, rfl, rfl⟩⟩
theorem clone_in {w : World} {b off len cap : Nat} {l : Nat → Int} (hl : IntsAt w (some ⟨b, off, none⟩) len l) (hlen : len ≤ 1000000) :
    Calls Try.prog 31 #[.slice (some ⟨b, off, none⟩) len cap] w fun e w' => ∃ g' cap', e = .returned (.slice (some ⟨g', 0, none⟩) len cap') ∧ w.heap.size ≤ g' ∧ IntsAt w' (some ⟨g', 0, none⟩) len l ∧ Below w.heap.size w w' := by
  have hi : (Try.prog.info? 3).map (fun i => (i.zero, i.size, i.bytes)) = some (some (.int .i64 0), 1, 8) := by kernel_rfl
  have hu : Try.prog.underlying 25 = some (.slice 3) := by kernel_rfl
  obtain ⟨i, hi, hz, h1, h2⟩ := info_parts hi
  have HI := Lib.hid (And.intro hi (And.intro hz (And.intro h1 h2)))
  have HR := Lib.hid hl
  clear hl hi hz h1 h2
  have hq : (binOp .eql 25 (.slice (some ⟨b, off, none⟩) len cap) (.slice none 0 0)).run Try.prog w = .ok (.bool false) w := by kernel_rfl
  go_enter Try.func31, Try.ntmps31
  go_wp2_with (
    at_builtin
    refine wpList_app rfl (.tmp 5) (.tmp 6) 25 3 rfl i (.int .i64 0) 1 8 hu (HI.out).1 (HI.out).2.1 (HI.out).2.2.1 (HI.out).2.2.2 rfl (by omega) w.heap.size (.slice (some ⟨w.heap.size, 0, none⟩) 0 0) 0 [] rfl
      (owns0 w 3) ⟨b, off, none⟩ len cap (intsV l len) rfl (by rw [intsV_length, Nat.mul_one]) ((HR.out).below (below_new w (.cells #[] 3))).src (intsV_one l len) (by unfold maxLen; omega) (by omega) (by simp) ?_
    intro v' w' k1 k2 k3 k4
    have K1 := Lib.hid k1
    have K2 := Lib.hid ((below_new w (.cells #[] 3)).grown k2 (below_new w _).size (fun y hy => by have hy' : some w.heap.size = some y := hy; injection hy' with hy'; omega))
    have K3 := Lib.hid (show v' ≠ .slice none 0 0 from fun e => by have := (k3.1 e).1; cases this)
    clear k1 k2 k3 k4)
  obtain ⟨g', cap', rfl, hg, hlt, hcell, _⟩ := owns_place (K1.out) (K3.out)
  go_ret
  refine ⟨g', cap', by simp, hg, fun j hj => ⟨g', 0, rfl, hlt, ?_⟩, K2.out⟩
  rw [Nat.zero_add]
  exact hcell j _ (by rw [List.nil_append, intsV_get l hj])
end Go.Proofs.Ytepcijkmecoofaa
