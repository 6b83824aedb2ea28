/-
  The document's Words of a seat, as a row of words of a call's own; Pack as such a row.
-/
import Derived.Test.YtjhiapailgbmkaaYB
namespace Go.Proofs.Ytjhiapailgbmkaa
open Go.ChangeShapes Go.WideShapes Go.ChangeAt Go.RowKit
set_option maxRecDepth 100000
set_option linter.unusedVariables false

/-- v is a slice of these n words, in memory from base on. -/
def W64 (w : World) (base : Nat) (v : Value) (f : Nat → Nat) (n : Nat) : Prop :=
  ∃ g cap, v = .slice (some ⟨g, 0, none⟩) n cap ∧ base ≤ g ∧ g < w.heap.size ∧ (∀ j, j < n → w.cell? ⟨g, j, none⟩ = some (.int .u64 (f j : Nat))) ∧ (∀ i, w.frozen? ⟨g, i, none⟩ = false) ∧ n ≤ cap ∧ cap ≤ maxLen
theorem W64.below {w w' : World} {base : Nat} {v : Value} {f : Nat → Nat} {n : Nat} (h : W64 w base v f n) (hb : Below w.heap.size w w') : W64 w' base v f n := by
  obtain ⟨g, cap, rfl, h1, h2, h3, h4, h5, h6⟩ := h
  exact ⟨g, cap, rfl, h1, Nat.lt_of_lt_of_le h2 hb.size, fun j hj => (hb.cell h2).trans (h3 j hj), fun i => (hb.frozen h2).trans (h4 i), h5, h6⟩
theorem W64.drewN {w : World} {base : Nat} {v : Value} {f : Nat → Nat} {n : Nat} (h : W64 w base v f n) (k : Nat) : W64 (w.drewN k) base v f n := h
def wordsV (f : Nat → Nat) (n : Nat) : List Value := (List.range n).map fun j => .int .u64 (f j : Nat)
theorem wordsV_len (f : Nat → Nat) (n : Nat) : (wordsV f n).length = n := by simp [wordsV]
theorem wordsV_get (f : Nat → Nat) {n j : Nat} (h : j < n) : (wordsV f n)[j]? = some (.int .u64 (f j : Nat)) := by simp [wordsV, h]
theorem wordsV_next (f : Nat → Nat) (n : Nat) : wordsV f (n + 1) = wordsV f n ++ [.int .u64 (f n : Nat)] := by simp [wordsV, List.range_succ]
theorem w64_owns {w : World} {base n : Nat} {v : Value} {f : Nat → Nat} (h : w.ownsRow base 22 1 v n (wordsV f n)) (h0 : v ≠ .slice none 0 0) : W64 w base v f n := by
  obtain ⟨g, cap, rfl, h1, h2, h3, h4, h5, h6⟩ := owns_place h h0
  exact ⟨g, cap, rfl, h1, h2, fun j hj => h3 j _ (wordsV_get f hj), h4, h5, h6⟩
theorem cases26 (j : Nat) (h : j < 26) : j = 0 ∨ j = 1 ∨ j = 2 ∨ j = 3 ∨ j = 4 ∨ j = 5 ∨ j = 6 ∨ j = 7 ∨ j = 8 ∨ j = 9 ∨ j = 10 ∨ j = 11 ∨ j = 12 ∨ j = 13 ∨ j = 14 ∨ j = 15 ∨ j = 16 ∨ j = 17 ∨ j = 18 ∨ j = 19 ∨ j = 20 ∨ j = 21 ∨ j = 22 ∨ j = 23 ∨ j = 24 ∨ j = 25 := by omega
theorem wordsA_at (s : SV) (j : Nat) (h : j < 26) : (wordsA s)[j]? = some (.int .u64 (wordF s j : Nat)) := by
  rcases cases26 j h with rfl | rfl | rfl | rfl | rfl | rfl | rfl | rfl | rfl | rfl | rfl | rfl | rfl | rfl | rfl | rfl | rfl | rfl | rfl | rfl | rfl | rfl | rfl | rfl | rfl | rfl <;> rfl
theorem pack_words (s : SV) (hs : s.ok) (w : World) : Calls Try.prog 10 #[s.agg] w fun e w' => ∃ v, e = .returned v ∧ W64 w' w.heap.size v (wordF s) 26 ∧ Below w.heap.size w w' :=
  (pack_in s hs w).mono fun e w' ⟨h1, h2, h3⟩ => ⟨_, h1, ⟨w.heap.size + 1, 26, rfl, by omega, (Array.getElem?_eq_some_iff.1 h2).1, fun j hj => by
    rw [← wordsA_at s j hj]
    simp [World.cell?, h2], fun i => by simp [World.frozen?, h2], by omega, by unfold maxLen; omega⟩, h3⟩
theorem reg_cell {w : World} {B : Nat} {s : SV} (h : LS w B s) (k : Nat) (hk : k < 16) : w.cell? ⟨B, k, none⟩ = some (.int .u64 (s.r k : Nat)) := by
  rw [h.cell]
  have h16 : k = 0 ∨ k = 1 ∨ k = 2 ∨ k = 3 ∨ k = 4 ∨ k = 5 ∨ k = 6 ∨ k = 7 ∨ k = 8 ∨ k = 9 ∨ k = 10 ∨ k = 11 ∨ k = 12 ∨ k = 13 ∨ k = 14 ∨ k = 15 := by omega
  rcases h16 with rfl | rfl | rfl | rfl | rfl | rfl | rfl | rfl | rfl | rfl | rfl | rfl | rfl | rfl | rfl | rfl <;> rfl
theorem wordF_reg (s : SV) (k : Nat) (hk : k < 16) : wordF s k = s.r k := by unfold wordF; rw [if_pos hk]
theorem srcOne (w : World) (v : Value) (t : TypeId) (n : Nat) (hn : n = w.heap.size) (j : Nat) (u : Value) (h : ([v] : List Value)[j]? = some u) : (w.alloc (.cells #[v] t)).cell? ((⟨n, 0, none⟩ : Addr).add j) = some u := by
  subst hn
  have hj : j = 0 := by
    have := (List.getElem?_eq_some_iff.1 h).1
    simp at this; omega
  subst hj
  simp at h
  subst h
  simp [Addr.add]
theorem srcMany (w : World) (vs : List Value) (t : TypeId) (n : Nat) (hn : n = w.heap.size) (j : Nat) (u : Value) (h : vs[j]? = some u) : (w.alloc (.cells vs.toArray t)).cell? ((⟨n, 0, none⟩ : Addr).add j) = some u := by
  subst hn
  rw [add_at]
  rw [cell_of_row _ _ j _ t (0, 0) (heap_alloc_new w (.cells vs.toArray t))]
  simpa using h
/-- What stands in the loop of Words. -/
structure WI (V wr : World) (s : SV) (B : Nat) (v : Value) (k : Nat) : Prop where
  own : wr.ownsRow V.heap.size 22 1 v k (wordsV (wordF s) k)
  bel : Below V.heap.size V wr
  ls : LS V B s
def tailV (s : SV) : List Value := [.int .u64 s.pc, .int .u64 s.ba, .int .u64 s.ve, .int .u64 s.ep, .int .u64 s.ca, .int .u64 s.ad, .int .u64 (oneN s.op : Nat), .int .u64 s.st, .int .u64 s.pd, .int .u64 s.ma]
theorem tail_words (s : SV) : wordsV (wordF s) 16 ++ tailV s = wordsV (wordF s) 26 := by
  have e : tailV s = [.int .u64 (wordF s 16 : Nat), .int .u64 (wordF s 17 : Nat), .int .u64 (wordF s 18 : Nat), .int .u64 (wordF s 19 : Nat), .int .u64 (wordF s 20 : Nat), .int .u64 (wordF s 21 : Nat), .int .u64 (wordF s 22 : Nat), .int .u64 (wordF s 23 : Nat), .int .u64 (wordF s 24 : Nat), .int .u64 (wordF s 25 : Nat)] := rfl
  rw [e]
  simp only [wordsV_next _ 25, wordsV_next _ 24, wordsV_next _ 23, wordsV_next _ 22, wordsV_next _ 21, wordsV_next _ 20, wordsV_next _ 19, wordsV_next _ 18, wordsV_next _ 17, wordsV_next _ 16, List.append_assoc, List.cons_append, List.nil_append]
set_option maxHeartbeats 2000000 in
theorem words_in (s : SV) (hs : s.ok) (w : World) : Calls Try.prog 11 #[s.agg] w fun e w' => ∃ v, e = .returned v ∧ W64 w' w.heap.size v (wordF s) 26 ∧ Below w.heap.size w w' := by
  have hi : (Try.prog.info? 22).map (fun i => (i.zero, i.size, i.bytes)) = some (some (.int .u64 0), 1, 8) := by kernel_rfl
  have hu : Try.prog.underlying 28 = some (.slice 22) := by kernel_rfl
  obtain ⟨i, hi, hz, h1, h2⟩ := info_parts hi
  have HI := Lib.hid (And.intro hi (And.intro hz (And.intro h1 h2)))
  have HV := Lib.hid (ls_new w s)
  have HB := Lib.hid (below_new w (.cells s.cells 26))
  have HZ : Hid ((w.alloc (.cells s.cells 26)).heap.size = w.heap.size + 1) := Lib.hid (by simp)
  have HU : Hid (IntKind.u64.wrap (s.st : Int) = s.st ∧ IntKind.u64.wrap (s.pd : Int) = s.pd ∧ IntKind.u64.wrap (s.ma : Int) = s.ma) := Lib.hid (by
    obtain ⟨_, _, _, _, _, _, _, b1, b2, b3⟩ := hs
    refine ⟨?_, ?_, ?_⟩ <;> (rw [IntKind.wrap_u64]; omega))
  clear hs hi hz h1 h2
  unfold SV.agg at *
  go_enter Try.func11, Try.ntmps11
  go_wp2_with fail
  generalize w.alloc (.cells s.cells 26) = V at *
  generalize s.cells = Z at *
  go_loopw [3, 4] (fun v i wr => ∃ k : Nat, k ≤ 16 ∧ i = .int .i64 k ∧ WI V wr s w.heap.size v k) (fun _ i _ => (16 - intOf i).toNat)
  case atStart => exact ⟨0, by omega, rfl, World.ownsRow_nil _ _ _ _, Below.refl _ _, HV.out⟩
  case round =>
    obtain ⟨k, hk, rfl, hA⟩ := hrel
    have HA := Lib.hid hA
    have hz := hA.bel.size
    have hvz := HZ.out
    clear hA
    by_cases hlt : k < 16
    · have kk : (k : Int) < 16 := by omega
      have c1 := reg_cell ((HA.out).ls.below (HA.out).bel) k hlt
      rw [← wordF_reg s k hlt] at c1
      go_wp2_with (
        at_builtin
        refine wpList_app rfl (.tmp 10) (.tmp 15) 28 22 rfl i (.int .u64 0) 1 8 hu (HI.out).1 (HI.out).2.1 (HI.out).2.2.1 (HI.out).2.2.2 rfl (by omega) V.heap.size u3 k (wordsV (wordF s) k) rfl
          ((HA.out).own.alloc _) ⟨wr.heap.size, 0, none⟩ 1 1 [.int .u64 (wordF s k : Nat)] rfl rfl (srcOne _ _ _ _ rfl) (by simp [Value.oneCell']) (by unfold maxLen; omega) (by omega) (by simp; omega) ?_
        intro v' w' k1 k2 k3 k4
        have HK : Hid (WI V w' s w.heap.size v' (k + 1)) := Lib.hid ⟨by rw [wordsV_next]; exact k1, (below_more (HA.out).bel _).grown k2 (by simp; omega) (fun j hj => ((HA.out).own.lt j hj).1), (HA.out).ls⟩
        clear k1 k2 k3 k4)
      go_roundw
      case rel => exact ⟨k + 1, by omega, by go_num, HK.out⟩
      case measure => simp [intOf]; omega
    · have kk : ¬ (k : Int) < 16 := by omega
      obtain rfl : k = 16 := by omega
      obtain ⟨u1, u2, u3'⟩ := HU.out
      have L := (HA.out).ls.below (HA.out).bel
      have c1 := L.pc'
      have c2 := L.ba'
      have c3 := L.ve'
      have c4 := L.ep'
      have c5 := L.ca'
      have c6 := L.ad'
      have c7 := L.op'
      have c8 := L.st'
      have c9 := L.pd'
      have c10 := L.ma'
      have HT : Hid (tailV s = [.int .u64 s.pc, .int .u64 s.ba, .int .u64 s.ve, .int .u64 s.ep, .int .u64 s.ca, .int .u64 s.ad, .int .u64 (oneN s.op : Nat), .int .u64 s.st, .int .u64 s.pd, .int .u64 s.ma]) := Lib.hid rfl
      have HTW := Lib.hid (tail_words s)
      clear L
      generalize tailV s = TV at *
      cases ho : s.op
      all_goals
        rw [ho] at c7 HT
        simp only [oneN] at HT
        clear ho
        go_wp2_with (
          at_builtin
          refine wpList_app rfl (.tmp 19) (.tmp 42) 28 22 rfl i (.int .u64 0) 1 8 hu (HI.out).1 (HI.out).2.1 (HI.out).2.2.1 (HI.out).2.2.2 rfl (by omega) V.heap.size u3 16 (wordsV (wordF s) 16) rfl
            ((HA.out).own.alloc _) ⟨wr.heap.size, 0, none⟩ 10 10 TV rfl (by rw [HT.out]; rfl) (by rw [HT.out]; exact srcMany _ _ _ _ rfl) (by rw [HT.out]; simp [Value.oneCell']) (by unfold maxLen; omega) (by omega) (by simp; omega) ?_
          intro v' w' k1 k2 k3 k4
          have K1 := Lib.hid (w64_owns (by rw [← HTW.out]; exact k1) (fun e => by have := (k3.1 e).2; omega))
          have K2 := Lib.hid ((below_more (HA.out).bel _).grown k2 (by simp; omega) (fun j hj => ((HA.out).own.lt j hj).1))
          clear k1 k2 k3 k4)
        go_ret
        refine ⟨v', rfl, ?_, below_up HB.out K2.out⟩
        obtain ⟨g, cap, e1, e2, e3⟩ := K1.out
        exact ⟨g, cap, e1, by omega, e3⟩
end Go.Proofs.Ytjhiapailgbmkaa
