/-
  Contracts of the document's answers for instructions (Fields, Right, Word): each returns what the plain text names; what was there is left alone.
-/
import Derived.Test.YtpbjfjedgcabhaaDoorCC
import Derived.Great.BuildSlice
namespace Go.Proofs.YtpbjfjedgcabhaaDoor
open Go.ChangeShapes Go.WideShapes Go.ChangeAt Go.RowKit
open WM CM
set_option maxRecDepth 100000

/-! ### Fields -/
def fldCells : Array Value := #[.int .i64 0, .int .i64 9, .int .i64 9, .int .i64 7, .int .i64 7, .int .i64 7, .int .i64 7, .int .i64 7, .int .i64 7, .int .i64 7, .int .i64 7, .int .i64 11, .int .i64 11, .int .i64 11, .int .i64 11, .int .i64 11, .int .i64 11, .int .i64 11, .int .i64 9, .int .i64 9, .int .i64 8, .int .i64 0, .int .i64 0]
theorem fldCells_at (c : Nat) (h : c < 23) : fldCells[c]? = some (.int .i64 (fldN c : Nat)) := by
  have hs : c = 0 ∨ c = 1 ∨ c = 2 ∨ c = 3 ∨ c = 4 ∨ c = 5 ∨ c = 6 ∨ c = 7 ∨ c = 8 ∨ c = 9 ∨ c = 10 ∨ c = 11 ∨ c = 12 ∨ c = 13 ∨ c = 14 ∨ c = 15 ∨ c = 16 ∨ c = 17 ∨ c = 18 ∨ c = 19 ∨ c = 20 ∨ c = 21 ∨ c = 22 := by omega
  rcases hs with rfl | rfl | rfl | rfl | rfl | rfl | rfl | rfl | rfl | rfl | rfl | rfl | rfl | rfl | rfl | rfl | rfl | rfl | rfl | rfl | rfl | rfl | rfl
  all_goals rfl
theorem reffields_in (c : Nat) (w : World) (h : c < 23) :
    Calls Tryd.prog 12 #[.int .u8 c] w fun e w' => e = .returned (.int .i64 (fldN c : Nat)) ∧ Below w.heap.size w w' := by
  have ht := fldCells_at c h
  have h' : (c : Int) < 23 := by omega
  clear h
  go_enter Tryd.func12, Tryd.ntmps12
  go_wp2_with (refine wpList_buildSlice rfl 60 3 23 _ rfl fldCells _ _ Tryd.underlying60 rfl rfl (by decide) (by decide) (by kernel_rfl) ?_)
  go_ret
  exact ⟨rfl, below_new _ _⟩

/-- The kinds of operations, by the document's number of their fields. -/
theorem kinds (c : Nat) (h : c < 23) :
    (fldN c = 0 ∧ hasA c = false ∧ hasB c = false ∧ hasC c = false ∧ hasN c = false ∧ c ≠ 18 ∧ c ≠ 19) ∨ (fldN c = 9 ∧ hasA c = true ∧ hasB c = false ∧ hasC c = false ∧ hasN c = true) ∨
    (fldN c = 8 ∧ hasA c = false ∧ hasB c = false ∧ hasC c = false ∧ hasN c = true ∧ c ≠ 18 ∧ c ≠ 19) ∨ (fldN c = 11 ∧ hasA c = true ∧ hasB c = true ∧ hasC c = false ∧ hasN c = true ∧ c ≠ 18 ∧ c ≠ 19) ∨
    (fldN c = 7 ∧ hasA c = true ∧ hasB c = true ∧ hasC c = true ∧ hasN c = false ∧ c ≠ 18 ∧ c ≠ 19) := by
  have hs : c = 0 ∨ c = 1 ∨ c = 2 ∨ c = 3 ∨ c = 4 ∨ c = 5 ∨ c = 6 ∨ c = 7 ∨ c = 8 ∨ c = 9 ∨ c = 10 ∨ c = 11 ∨ c = 12 ∨ c = 13 ∨ c = 14 ∨ c = 15 ∨ c = 16 ∨ c = 17 ∨ c = 18 ∨ c = 19 ∨ c = 20 ∨ c = 21 ∨ c = 22 := by omega
  rcases hs with rfl | rfl | rfl | rfl | rfl | rfl | rfl | rfl | rfl | rfl | rfl | rfl | rfl | rfl | rfl | rfl | rfl | rfl | rfl | rfl | rfl | rfl | rfl
  all_goals decide

/-! ### Right -/
theorem refright_far (c a b d : Nat) (n : Int) (w : World) (h : ¬ c < 23) :
    Calls Tryd.prog 27 #[.int .u8 c, .int .u8 a, .int .u8 b, .int .u8 d, .int .i16 n] w fun e w' => e = .returned (.bool (rightB c a b d n)) ∧ Below w.heap.size w w' := by
  have e : rightB c a b d n = false := by unfold rightB; simp [h]
  rw [e]
  have h' : 23 ≤ (c : Int) := by omega
  clear h e
  go_enter Tryd.func27, Tryd.ntmps27
  go_wp2
  go_ret
  exact ⟨rfl, Below.refl _ _⟩
set_option maxHeartbeats 2000000 in
theorem refright_0 (c a b d : Nat) (n : Int) (w : World) (h : c < 23) (hf : fldN c = 0) (hA : hasA c = false) (hB : hasB c = false) (hC : hasC c = false) (hN : hasN c = false) (h18 : c ≠ 18) (h19 : c ≠ 19) :
    Calls Tryd.prog 27 #[.int .u8 c, .int .u8 a, .int .u8 b, .int .u8 d, .int .i16 n] w fun e w' => e = .returned (.bool (rightB c a b d n)) ∧ Below w.heap.size w w' := by
  have e : rightB c a b d n = decide (a = 0 ∧ b = 0 ∧ d = 0 ∧ n = 0) := by
    unfold rightB regB numB numH; rw [hA, hB, hC, hN]; rw [Bool.eq_iff_iff]; simp [h] <;> omega
  obtain ⟨r, hr⟩ : ∃ r, rightB c a b d n = r := ⟨_, rfl⟩
  rw [hr] at e ⊢
  have HE := Lib.hid e
  have HF : Hid (∀ w, Calls Tryd.prog 12 #[.int .u8 c] w fun e w' => e = .returned (.int .i64 0) ∧ Below w.heap.size w w') := by
    intro w; have := reffields_in c w h; rw [hf] at this; exact this
  have h' : (c : Int) < 23 := by omega
  have k18 : ((c : Int) != 18) = true := by simp; omega
  have k19 : ((c : Int) != 19) = true := by simp; omega
  clear hf hA hB hC hN h e hr h18 h19
  by_cases hn : n = 0
  · have kn : (n != 0) = false := by simp [hn]
    have HN := Lib.hid hn
    clear hn
    go_enter Tryd.func27, Tryd.ntmps27
    go_wp2_with (go_at_call 12; refine (HF.out _).mono ?_; rintro e W1 ⟨rfl, hb1⟩)
    all_goals go_ret
    all_goals rw [HE.out]
    all_goals refine ⟨ret_bool (Bool.eq_iff_iff.2 ?_), hb1⟩
    all_goals (have := HN.out; simp <;> omega)
  · have kn : (n != 0) = true := by simp [hn]
    go_enter Tryd.func27, Tryd.ntmps27
    go_wp2_with (go_at_call 12; refine (HF.out _).mono ?_; rintro e W1 ⟨rfl, hb1⟩)
    all_goals go_ret
    all_goals rw [HE.out]
    all_goals refine ⟨ret_bool (Bool.eq_iff_iff.2 ?_), hb1⟩
    all_goals simp <;> omega
set_option maxHeartbeats 2000000 in
theorem refright_9 (c a b d : Nat) (n : Int) (w : World) (h : c < 23) (hf : fldN c = 9) (hA : hasA c = true) (hB : hasB c = false) (hC : hasC c = false) (hN : hasN c = true) (h18 : c ≠ 18) (h19 : c ≠ 19) :
    Calls Tryd.prog 27 #[.int .u8 c, .int .u8 a, .int .u8 b, .int .u8 d, .int .i16 n] w fun e w' => e = .returned (.bool (rightB c a b d n)) ∧ Below w.heap.size w w' := by
  have e : rightB c a b d n = decide (a < 16 ∧ b = 0 ∧ d = 0) := by
    unfold rightB regB numB numH; rw [hA, hB, hC, hN]; rw [Bool.eq_iff_iff]; simp [h, h18, h19] <;> omega
  obtain ⟨r, hr⟩ : ∃ r, rightB c a b d n = r := ⟨_, rfl⟩
  rw [hr] at e ⊢
  have HE := Lib.hid e
  have HF : Hid (∀ w, Calls Tryd.prog 12 #[.int .u8 c] w fun e w' => e = .returned (.int .i64 9) ∧ Below w.heap.size w w') := by
    intro w; have := reffields_in c w h; rw [hf] at this; exact this
  have h' : (c : Int) < 23 := by omega
  have k18 : ((c : Int) != 18) = true := by simp; omega
  have k19 : ((c : Int) != 19) = true := by simp; omega
  clear hf hA hB hC hN h e hr h18 h19
  go_enter Tryd.func27, Tryd.ntmps27
  go_wp2_with (go_at_call 12; refine (HF.out _).mono ?_; rintro e W1 ⟨rfl, hb1⟩)
  all_goals go_ret
  all_goals rw [HE.out]
  all_goals refine ⟨ret_bool (Bool.eq_iff_iff.2 ?_), hb1⟩
  all_goals simp <;> omega
set_option maxHeartbeats 2000000 in
theorem refright_18 (c a b d : Nat) (n : Int) (w : World) (h : c < 23) (hf : fldN c = 9) (hA : hasA c = true) (hB : hasB c = false) (hC : hasC c = false) (hN : hasN c = true) (h18 : c = 18 ∨ c = 19) :
    Calls Tryd.prog 27 #[.int .u8 c, .int .u8 a, .int .u8 b, .int .u8 d, .int .i16 n] w fun e w' => e = .returned (.bool (rightB c a b d n)) ∧ Below w.heap.size w w' := by
  have e : rightB c a b d n = decide (a < 16 ∧ b = 0 ∧ d = 0 ∧ 0 ≤ n ∧ n < 9) := by
    unfold rightB regB numB numH; rw [hA, hB, hC, hN]; rw [Bool.eq_iff_iff]; simp [h, h18] <;> omega
  obtain ⟨r, hr⟩ : ∃ r, rightB c a b d n = r := ⟨_, rfl⟩
  rw [hr] at e ⊢
  have HE := Lib.hid e
  have HF : Hid (∀ w, Calls Tryd.prog 12 #[.int .u8 c] w fun e w' => e = .returned (.int .i64 9) ∧ Below w.heap.size w w') := by
    intro w; have := reffields_in c w h; rw [hf] at this; exact this
  clear hf hA hB hC hN h e hr
  rcases h18 with rfl | rfl
  · by_cases hn : 0 ≤ n
    · go_enter Tryd.func27, Tryd.ntmps27
      go_wp2_with (go_at_call 12; refine (HF.out _).mono ?_; rintro e W1 ⟨rfl, hb1⟩)
      all_goals go_ret
      all_goals rw [HE.out]
      all_goals refine ⟨ret_bool (Bool.eq_iff_iff.2 ?_), hb1⟩
      all_goals simp <;> omega
    · have hn' : n < 0 := by omega
      go_enter Tryd.func27, Tryd.ntmps27
      go_wp2_with (go_at_call 12; refine (HF.out _).mono ?_; rintro e W1 ⟨rfl, hb1⟩)
      all_goals go_ret
      all_goals rw [HE.out]
      all_goals refine ⟨ret_bool (Bool.eq_iff_iff.2 ?_), hb1⟩
      all_goals simp <;> omega
  · by_cases hn : 0 ≤ n
    · go_enter Tryd.func27, Tryd.ntmps27
      go_wp2_with (go_at_call 12; refine (HF.out _).mono ?_; rintro e W1 ⟨rfl, hb1⟩)
      all_goals go_ret
      all_goals rw [HE.out]
      all_goals refine ⟨ret_bool (Bool.eq_iff_iff.2 ?_), hb1⟩
      all_goals simp <;> omega
    · have hn' : n < 0 := by omega
      go_enter Tryd.func27, Tryd.ntmps27
      go_wp2_with (go_at_call 12; refine (HF.out _).mono ?_; rintro e W1 ⟨rfl, hb1⟩)
      all_goals go_ret
      all_goals rw [HE.out]
      all_goals refine ⟨ret_bool (Bool.eq_iff_iff.2 ?_), hb1⟩
      all_goals simp <;> omega
set_option maxHeartbeats 2000000 in
theorem refright_8 (c a b d : Nat) (n : Int) (w : World) (h : c < 23) (hf : fldN c = 8) (hA : hasA c = false) (hB : hasB c = false) (hC : hasC c = false) (hN : hasN c = true) (h18 : c ≠ 18) (h19 : c ≠ 19) :
    Calls Tryd.prog 27 #[.int .u8 c, .int .u8 a, .int .u8 b, .int .u8 d, .int .i16 n] w fun e w' => e = .returned (.bool (rightB c a b d n)) ∧ Below w.heap.size w w' := by
  have e : rightB c a b d n = decide (a = 0 ∧ b = 0 ∧ d = 0) := by
    unfold rightB regB numB numH; rw [hA, hB, hC, hN]; rw [Bool.eq_iff_iff]; simp [h, h18, h19] <;> omega
  obtain ⟨r, hr⟩ : ∃ r, rightB c a b d n = r := ⟨_, rfl⟩
  rw [hr] at e ⊢
  have HE := Lib.hid e
  have HF : Hid (∀ w, Calls Tryd.prog 12 #[.int .u8 c] w fun e w' => e = .returned (.int .i64 8) ∧ Below w.heap.size w w') := by
    intro w; have := reffields_in c w h; rw [hf] at this; exact this
  have h' : (c : Int) < 23 := by omega
  have k18 : ((c : Int) != 18) = true := by simp; omega
  have k19 : ((c : Int) != 19) = true := by simp; omega
  clear hf hA hB hC hN h e hr h18 h19
  go_enter Tryd.func27, Tryd.ntmps27
  go_wp2_with (go_at_call 12; refine (HF.out _).mono ?_; rintro e W1 ⟨rfl, hb1⟩)
  all_goals go_ret
  all_goals rw [HE.out]
  all_goals refine ⟨ret_bool (Bool.eq_iff_iff.2 ?_), hb1⟩
  all_goals simp <;> omega
set_option maxHeartbeats 2000000 in
theorem refright_11 (c a b d : Nat) (n : Int) (w : World) (h : c < 23) (hf : fldN c = 11) (hA : hasA c = true) (hB : hasB c = true) (hC : hasC c = false) (hN : hasN c = true) (h18 : c ≠ 18) (h19 : c ≠ 19) :
    Calls Tryd.prog 27 #[.int .u8 c, .int .u8 a, .int .u8 b, .int .u8 d, .int .i16 n] w fun e w' => e = .returned (.bool (rightB c a b d n)) ∧ Below w.heap.size w w' := by
  have e : rightB c a b d n = decide (a < 16 ∧ b < 16 ∧ d = 0) := by
    unfold rightB regB numB numH; rw [hA, hB, hC, hN]; rw [Bool.eq_iff_iff]; simp [h, h18, h19] <;> omega
  obtain ⟨r, hr⟩ : ∃ r, rightB c a b d n = r := ⟨_, rfl⟩
  rw [hr] at e ⊢
  have HE := Lib.hid e
  have HF : Hid (∀ w, Calls Tryd.prog 12 #[.int .u8 c] w fun e w' => e = .returned (.int .i64 11) ∧ Below w.heap.size w w') := by
    intro w; have := reffields_in c w h; rw [hf] at this; exact this
  have h' : (c : Int) < 23 := by omega
  have k18 : ((c : Int) != 18) = true := by simp; omega
  have k19 : ((c : Int) != 19) = true := by simp; omega
  clear hf hA hB hC hN h e hr h18 h19
  go_enter Tryd.func27, Tryd.ntmps27
  go_wp2_with (go_at_call 12; refine (HF.out _).mono ?_; rintro e W1 ⟨rfl, hb1⟩)
  all_goals go_ret
  all_goals rw [HE.out]
  all_goals refine ⟨ret_bool (Bool.eq_iff_iff.2 ?_), hb1⟩
  all_goals simp <;> omega
set_option maxHeartbeats 2000000 in
theorem refright_7 (c a b d : Nat) (n : Int) (w : World) (h : c < 23) (hf : fldN c = 7) (hA : hasA c = true) (hB : hasB c = true) (hC : hasC c = true) (hN : hasN c = false) (h18 : c ≠ 18) (h19 : c ≠ 19) :
    Calls Tryd.prog 27 #[.int .u8 c, .int .u8 a, .int .u8 b, .int .u8 d, .int .i16 n] w fun e w' => e = .returned (.bool (rightB c a b d n)) ∧ Below w.heap.size w w' := by
  have e : rightB c a b d n = decide (a < 16 ∧ b < 16 ∧ d < 16 ∧ n = 0) := by
    unfold rightB regB numB numH; rw [hA, hB, hC, hN]; rw [Bool.eq_iff_iff]; simp [h] <;> omega
  obtain ⟨r, hr⟩ : ∃ r, rightB c a b d n = r := ⟨_, rfl⟩
  rw [hr] at e ⊢
  have HE := Lib.hid e
  have HF : Hid (∀ w, Calls Tryd.prog 12 #[.int .u8 c] w fun e w' => e = .returned (.int .i64 7) ∧ Below w.heap.size w w') := by
    intro w; have := reffields_in c w h; rw [hf] at this; exact this
  have h' : (c : Int) < 23 := by omega
  have k18 : ((c : Int) != 18) = true := by simp; omega
  have k19 : ((c : Int) != 19) = true := by simp; omega
  clear hf hA hB hC hN h e hr h18 h19
  by_cases hn : n = 0
  · have kn : (n != 0) = false := by simp [hn]
    have HN := Lib.hid hn
    clear hn
    go_enter Tryd.func27, Tryd.ntmps27
    go_wp2_with (go_at_call 12; refine (HF.out _).mono ?_; rintro e W1 ⟨rfl, hb1⟩)
    all_goals go_ret
    all_goals rw [HE.out]
    all_goals refine ⟨ret_bool (Bool.eq_iff_iff.2 ?_), hb1⟩
    all_goals (have := HN.out; simp <;> omega)
  · have kn : (n != 0) = true := by simp [hn]
    go_enter Tryd.func27, Tryd.ntmps27
    go_wp2_with (go_at_call 12; refine (HF.out _).mono ?_; rintro e W1 ⟨rfl, hb1⟩)
    all_goals go_ret
    all_goals rw [HE.out]
    all_goals refine ⟨ret_bool (Bool.eq_iff_iff.2 ?_), hb1⟩
    all_goals simp <;> omega
theorem refright_in (c a b d : Nat) (n : Int) (w : World) :
    Calls Tryd.prog 27 #[.int .u8 c, .int .u8 a, .int .u8 b, .int .u8 d, .int .i16 n] w fun e w' => e = .returned (.bool (rightB c a b d n)) ∧ Below w.heap.size w w' := by
  by_cases h : c < 23
  · rcases kinds c h with ⟨h1, h2, h3, h4, h5, h6, h7⟩ | ⟨h1, h2, h3, h4, h5⟩ | ⟨h1, h2, h3, h4, h5, h6, h7⟩ | ⟨h1, h2, h3, h4, h5, h6, h7⟩ | ⟨h1, h2, h3, h4, h5, h6, h7⟩
    · exact refright_0 c a b d n w h h1 h2 h3 h4 h5 h6 h7
    · by_cases h6 : c = 18 ∨ c = 19
      · exact refright_18 c a b d n w h h1 h2 h3 h4 h5 h6
      · exact refright_9 c a b d n w h h1 h2 h3 h4 h5 (fun e => h6 (.inl e)) (fun e => h6 (.inr e))
    · exact refright_8 c a b d n w h h1 h2 h3 h4 h5 h6 h7
    · exact refright_11 c a b d n w h h1 h2 h3 h4 h5 h6 h7
    · exact refright_7 c a b d n w h h1 h2 h3 h4 h5 h6 h7
  · exact refright_far c a b d n w h

/-! ### Word -/
theorem wrap16u (n : Int) : IntKind.u16.wrap n = n % 65536 := by simp [IntKind.wrap, IntKind.signed, IntKind.bits]
set_option maxHeartbeats 400000 in
theorem refword_in (c a b d : Nat) (n : Int) (w : World) (hc : c < 23) (ha : a < 16) (hb : b < 16) (hd : d < 16) :
    Calls Tryd.prog 13 #[.int .u8 c, .int .u8 a, .int .u8 b, .int .u8 d, .int .i16 n] w fun e w' => e = .returned (.int .u32 (wordN c a b d n : Nat)) ∧ Below w.heap.size w w' := by
  obtain ⟨f, hf⟩ : ∃ f, fldN c = f := ⟨_, rfl⟩
  have HF := Lib.hid (fun w => reffields_in c w hc)
  rw [hf] at HF
  have hq := (fldN_eq c).2.2.1
  rw [hf] at hq
  have hf16 : f < 16 := by
    have := kinds c hc; omega
  cases hC : hasC c
  · have hk : ((f : Int) / 4 % 2 == 1) = false := by rw [hC] at hq; simp only [Bool.toNat_false] at hq; simp; omega
    have HW := Lib.hid (show wordN c a b d n = c * 67108864 + a * 4194304 + b * 262144 + (n % 65536).toNat by unfold wordN lowN; rw [hC]; simp)
    clear hf hC hq
    go_enter Tryd.func13, Tryd.ntmps13
    go_wp2_with (go_at_call 12; refine (HF.out _).mono ?_; rintro e W1 ⟨rfl, hb1⟩)
    go_ret
    exact ⟨ret_int (by rw [HW.out, wrap16u]; omega), hb1⟩
  · have hk : ((f : Int) / 4 % 2 == 1) = true := by rw [hC] at hq; simp only [Bool.toNat_true] at hq; simp; omega
    have HW := Lib.hid (show wordN c a b d n = c * 67108864 + a * 4194304 + b * 262144 + d by unfold wordN lowN; rw [hC]; simp)
    clear hf hC hq
    go_enter Tryd.func13, Tryd.ntmps13
    go_wp2_with (go_at_call 12; refine (HF.out _).mono ?_; rintro e W1 ⟨rfl, hb1⟩)
    go_ret
    exact ⟨ret_int (by rw [HW.out]; omega), hb1⟩
end Go.Proofs.YtpbjfjedgcabhaaDoor
