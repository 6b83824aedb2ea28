/-
  Contract of law05's awake: the document's example.
-/
import Derived.Test.YtfjkomglljcfjaaPN
namespace Go.Proofs.Ytfjkomglljcfjaa
open Go.ChangeShapes Go.WideShapes Go.ChangeAt Go.RowKit
open PM
set_option maxRecDepth 100000

theorem ch_below {F : Nat → Prop} {w a b : World} (h : Ch F a b) (hb : Below w.heap.size w a) (hF : ∀ x, F x → w.heap.size ≤ x) : Below w.heap.size w b :=
  h.to_below hb hb.size (fun x hx hf => by have := hF x hf; omega)
/-- Take, where it is known which frame is the least that is free. -/
theorem take_at {w : World} {B k : Nat} {F : Nat → Prop} {us : Nat → Bool} {well : Int} (H : Pl w B F k us well) (x : Nat) (h1 : x < k) (h2 : us x = false) (h3 : ∀ y, y < x → us y = true) (hw : well ≠ 0) :
    Calls Try.prog 10 #[.pointer (some ⟨B, 0, none⟩)] w fun e w' => e = .returned (.tuple #[.int .i64 (x : Nat), .int .i64 0]) ∧ Pl w' B F k (upd us x true) (wellN well) ∧ Ch F w w' := by
  have hc := cnt_pos h1 h2
  refine (take_in H (by omega) hw).mono ?_
  rintro e w' ⟨y, rfl, y1, y2, y3, p, c⟩
  have e1 : y = x := by
    have := y3 x h1 h2
    by_cases e : y = x
    · exact e
    · have := h3 y (by omega)
      rw [y2] at this; cases this
  subst e1
  exact ⟨rfl, p, c⟩
theorem wellN_neg : wellN (-1) = -1 := by decide
theorem awake_in (w : World) : Calls Try.prog 8 #[] w fun e w' => e = .returned (.bool true) ∧ Below w.heap.size w w' := by
  go_enter Try.func8, Try.ntmps8
  go_wp2_with fail
  refine (new_in 3 w).mono ?_
  rintro e w1 ⟨B, rfl, p1, b1⟩
  rw [show clampN 3 = 3 by decide] at p1
  have P1 := Lib.hid p1
  have B1 := Lib.hid b1
  clear p1 b1
  go_wp2_with fail
  refine (take_at P1.out 0 (by omega) rfl (fun y hy => by omega) (by omega)).mono ?_
  rintro e w2 ⟨rfl, p2, c2⟩
  rw [wellN_neg] at p2
  have P2 := Lib.hid p2
  have B2 := Lib.hid (ch_below c2 B1.out (fun _ h => h))
  clear p2 c2
  go_wp2_with fail
  refine (take_at P2.out 1 (by omega) rfl (fun y hy => by rw [show y = 0 by omega]; rfl) (by omega)).mono ?_
  rintro e w3 ⟨rfl, p3, c3⟩
  rw [wellN_neg] at p3
  have P3 := Lib.hid p3
  have B3 := Lib.hid (ch_below c3 B2.out (fun _ h => h))
  clear p3 c3
  go_wp2_with fail
  refine (give_in P3.out 0 (by omega) rfl).mono ?_
  rintro e w4 ⟨rfl, p4, c4⟩
  have P4 := Lib.hid (p4.back (fun x hx => by have := (B3.out).size; omega))
  have B4 := Lib.hid (ch_below c4 B3.out (fun _ h => h))
  clear p4 c4
  go_wp2_with fail
  refine (take_at P4.out 0 (by omega) rfl (fun y hy => by omega) (by omega)).mono ?_
  rintro e w5 ⟨rfl, p5, c5⟩
  have L5 := Lib.hid (left_in p5)
  have B5 := Lib.hid (ch_below c5 B4.out (fun _ h => h))
  clear p5 c5
  have L5 := Lib.hid (show Calls Try.prog 15 #[.pointer (some ⟨B, 0, none⟩)] w5 fun e w' => e = .returned (.int .i64 1) ∧ w5 = w' from L5.out)
  go_wp2_with fail
  (with_reducible refine (L5.out).mono ?_)
  rintro e w6 ⟨rfl, rfl⟩
  go_wp2
  go_ret
  exact ⟨rfl, B5.out⟩
/-- The slice's bytes, as far as its length goes. -/
def U8At (w : World) (a : Option Addr) (len : Nat) (x : Nat → Nat) : Prop := ∀ i, i < len → ∃ b off, a = some ⟨b, off, none⟩ ∧ b < w.heap.size ∧ w.cell? ⟨b, off + i, none⟩ = some (.int .u8 (x i : Nat))
theorem U8At.kept {w w' : World} {a : Option Addr} {len : Nat} {x : Nat → Nat} (h : U8At w a len x) (hb : Below w.heap.size w w') : U8At w' a len x := fun i hi => by
  obtain ⟨b, off, ha, hl, hc⟩ := h i hi
  exact ⟨b, off, ha, by have := hb.size; omega, (hb.cell hl).trans hc⟩
theorem left_eq {w : World} {B k n : Nat} {F : Nat → Prop} {us : Nat → Bool} {well : Int} (H : Pl w B F k us well) (hn : cnt us k = n) :
    Calls Try.prog 15 #[.pointer (some ⟨B, 0, none⟩)] w fun e w' => e = .returned (.int .i64 (n : Nat)) ∧ w = w' := by
  rw [← hn]; exact left_in H
theorem used_eq {w : World} {B k : Nat} {F : Nat → Prop} {us : Nat → Bool} {well : Int} (H : Pl w B F k us well) (x : Nat) (b : Bool) (hx : x < k) (hb : us x = b) :
    Calls Try.prog 14 #[.pointer (some ⟨B, 0, none⟩), .int .i64 (x : Nat)] w fun e w' => e = .returned (.bool b) ∧ w = w' := by
  have h := used_in H (x : Int)
  have e : usedN us k (x : Nat) = b := by unfold usedN; simp [hx, hb]
  rw [e] at h; exact h
theorem quiet_same {P : Program} {f : FuncId} {args : Array Value} {w : World} {n : Nat} {v : Value} (h : Calls P f args (w.drewN n) fun e w' => e = .returned v ∧ w.drewN n = w') : Calls P f args (w.drewN n) fun e w'' => e = .returned v ∧ ∃ m, w'' = w.drewN m :=
  h.mono fun _ _ ⟨he, hm⟩ => ⟨he, n, hm.symm⟩
theorem ge_base {w w1 : World} (h : Below w.heap.size w w1) : ∀ x, w1.heap.size ≤ x → w.heap.size ≤ x := fun _ hx => Nat.le_trans h.size hx
theorem rising_at {L : List Nat} (h : L.Pairwise (· < ·)) {j : Nat} (hj : j < L.length) (h0 : 0 < j) : at0 L (j - 1) < at0 L j := by
  have := List.pairwise_iff_getElem.1 h (j - 1) j (by omega) hj (by omega)
  unfold at0
  simpa [List.getD_eq_getElem?_getD, hj, show j - 1 < L.length by omega] using this
theorem cnt_tks {us : Nat → Bool} {k i : Nat} : i ≤ cnt us k → cnt (tks us (wl us k) i) k = cnt us k - i := by
  induction i with
  | zero => intro _; rw [tks_zero]; rfl
  | succ i ih =>
    intro h
    have hx := at0_get (L := wl us k) (j := i) (by rw [wl_length]; omega)
    rw [← tks_succ us _ i _ hx]
    have hm := (wl_mem us (at0 (wl us k) i) k).1 (List.mem_iff_getElem?.2 ⟨i, hx⟩)
    have hf : tks us (wl us k) i (at0 (wl us k) i) = false := by
      unfold tks
      have : at0 (wl us k) i ∉ (wl us k).take i := by
        intro hm2
        rw [List.mem_iff_getElem?] at hm2
        obtain ⟨j, hj⟩ := hm2
        rw [List.getElem?_take] at hj
        split at hj
        · rename_i hji
          have hl : i < (wl us k).length := by rw [wl_length]; omega
          have := List.pairwise_iff_getElem.1 (wl_rising us k) j i (by omega) hl hji
          rw [List.getElem?_eq_getElem (by omega)] at hj
          rw [List.getElem?_eq_getElem hl] at hx
          injection hj with hj
          injection hx with hx
          omega
        · cases hj
      simp [hm.2, this]
    have := cnt_take hm.1 hf
    have := ih (by omega)
    omega
end Go.Proofs.Ytfjkomglljcfjaa
