/-
  Contracts of the laws' own functions near and awake: each returns what the plain text names; what was there is left alone.
-/
import Derived.Test.YtclieoeaknlfbaaDoorCE
import Derived.Test.YtclieoeaknlfbaaDoorCR
namespace Go.Proofs.YtclieoeaknlfbaaDoor
open Go.ChangeShapes Go.WideShapes Go.ChangeAt Go.RowKit
open WM CM
set_option maxRecDepth 100000

theorem reffields_mod (c : Nat) (f : Int) (w : World) (hf : ((fldN (nC c) : Nat) : Int) = f) :
    Calls Tryd.prog 11 #[.int .u8 ((c : Int) % 23)] w fun e w' => e = .returned (.int .i64 f) ∧ Below w.heap.size w w' := by
  have h := reffields_in (nC c) w (Nat.mod_lt _ (by omega))
  rw [hf] at h
  have e : ((nC c : Nat) : Int) = (c : Int) % 23 := by unfold nC; omega
  rw [e] at h
  exact h
theorem lies_zero_at (w : World) (o : Obj) (t : TypeId) : Lies ((w.alloc o).alloc (.cells #[.int .u8 0, .int .u8 0, .int .u8 0, .int .u8 0, .int .i16 0] t)) (w.heap.size + 1) 0 0 0 0 0 := by
  have h := lies_zero (w.alloc o) t
  rw [show (w.alloc o).heap.size = w.heap.size + 1 by simp] at h
  exact h
theorem set_far (U : World) (B B' i j : Nat) (v : Value) (h : B ≠ B') : (U.setCell ⟨B, i, none⟩ v).cell? ⟨B', j, none⟩ = U.cell? ⟨B', j, none⟩ := World.cell?_setCell_other _ _ _ _ (by simp)
theorem near_num (n : Int) : IntKind.i16.wrap ((n % 65536).tmod 9) = n % 65536 % 9 := by
  rw [Int.tmod_eq_emod_of_nonneg (by omega)]
  simp [IntKind.wrap, IntKind.signed, IntKind.bits]; omega
set_option maxHeartbeats 1000000 in
theorem near_0 (c a b d : Nat) (n : Int) (w : World) (hf : ((fldN (nC c) : Nat) : Int) = 0) (h18 : nC c ≠ 18) (h19 : nC c ≠ 19) :
    Calls Tryd.prog 5 #[opV c a b d n] w fun e w' => e = .returned (opV (nC c) 0 0 0 0) ∧ Below w.heap.size w w' := by
  have HF := Lib.hid (fun w => reffields_mod c 0 w hf)
  have hl := lies_new w (nC c) a b d n 27
  have ec : ((nC c : Nat) : Int) = (c : Int) % 23 := by unfold nC; omega
  rw [ec] at hl
  have k18 : ((c : Int) % 23 == 18) = false := by simp; unfold nC at h18; omega
  have k19 : ((c : Int) % 23 == 19) = false := by simp; unfold nC at h19; omega
  have EC := Lib.hid ec
  clear hf h18 h19 ec
  unfold opV
  go_enter Tryd.func5, Tryd.ntmps5
  go_wp2_with fail
  refine (HF.out _).mono ?_
  rintro e W1 ⟨rfl, hb1⟩
  obtain ⟨k0, k1, k2, k3, k4, kl, kf⟩ := (hl.later (below_new _ _)).later hb1
  obtain ⟨z0, z1, z2, z3, z4, zl, zf⟩ := (lies_zero_at w _ 27).later hb1
  rw [EC.out] at k0
  have hb : Below w.heap.size w W1 := below_up (below_more (below_new w _) _) hb1
  go_wp2
  refine ret5 (hr := rfl) (hp := rfl) (by simp [set_far, z0]) (by simp [set_far, z1]) (by simp [set_far, z2]) (by simp [set_far, z3]) (by simp [set_far, z4]) ⟨?_, ?_⟩
  · simp [EC.out]
  · repeat (first | with_reducible exact hb | with_reducible refine Below.setCell ?_ (by simp) _)
set_option maxHeartbeats 1000000 in
theorem near_9 (c a b d : Nat) (n : Int) (w : World) (hf : ((fldN (nC c) : Nat) : Int) = 9) (h18 : nC c ≠ 18) (h19 : nC c ≠ 19) :
    Calls Tryd.prog 5 #[opV c a b d n] w fun e w' => e = .returned (opV (nC c) (a % 16) 0 0 n) ∧ Below w.heap.size w w' := by
  have HF := Lib.hid (fun w => reffields_mod c 9 w hf)
  have hl := lies_new w (nC c) a b d n 27
  have ec : ((nC c : Nat) : Int) = (c : Int) % 23 := by unfold nC; omega
  rw [ec] at hl
  have k18 : ((c : Int) % 23 == 18) = false := by simp; unfold nC at h18; omega
  have k19 : ((c : Int) % 23 == 19) = false := by simp; unfold nC at h19; omega
  have EC := Lib.hid ec
  clear hf h18 h19 ec
  unfold opV
  go_enter Tryd.func5, Tryd.ntmps5
  go_wp2_with fail
  refine (HF.out _).mono ?_
  rintro e W1 ⟨rfl, hb1⟩
  obtain ⟨k0, k1, k2, k3, k4, kl, kf⟩ := (hl.later (below_new _ _)).later hb1
  obtain ⟨z0, z1, z2, z3, z4, zl, zf⟩ := (lies_zero_at w _ 27).later hb1
  rw [EC.out] at k0
  have hb : Below w.heap.size w W1 := below_up (below_more (below_new w _) _) hb1
  go_wp2
  refine ret5 (hr := rfl) (hp := rfl) (by simp [set_far, z0]) (by simp [set_far, z1]) (by simp [set_far, z2]) (by simp [set_far, z3]) (by simp [set_far, z4]) ⟨?_, ?_⟩
  · simp [EC.out]
  · repeat (first | with_reducible exact hb | with_reducible refine Below.setCell ?_ (by simp) _)
set_option maxHeartbeats 1000000 in
theorem near_18 (c a b d : Nat) (n : Int) (w : World) (hf : ((fldN (nC c) : Nat) : Int) = 9) (h18 : nC c = 18) :
    Calls Tryd.prog 5 #[opV c a b d n] w fun e w' => e = .returned (opV (nC c) (a % 16) 0 0 (n % 65536 % 9)) ∧ Below w.heap.size w w' := by
  have HF := Lib.hid (fun w => reffields_mod c 9 w hf)
  have hl := lies_new w (nC c) a b d n 27
  have ec : ((nC c : Nat) : Int) = (c : Int) % 23 := by unfold nC; omega
  rw [ec] at hl
  have k18 : ((c : Int) % 23 == 18) = true := by simp; unfold nC at h18; omega
  have EC := Lib.hid ec
  clear hf h18 ec
  unfold opV
  go_enter Tryd.func5, Tryd.ntmps5
  go_wp2_with fail
  refine (HF.out _).mono ?_
  rintro e W1 ⟨rfl, hb1⟩
  obtain ⟨k0, k1, k2, k3, k4, kl, kf⟩ := (hl.later (below_new _ _)).later hb1
  obtain ⟨z0, z1, z2, z3, z4, zl, zf⟩ := (lies_zero_at w _ 27).later hb1
  rw [EC.out] at k0
  have hb : Below w.heap.size w W1 := below_up (below_more (below_new w _) _) hb1
  go_wp2
  refine ret5 (hr := rfl) (hp := rfl) (by simp [set_far, z0]) (by simp [set_far, z1]) (by simp [set_far, z2]) (by simp [set_far, z3]) (by simp [set_far, z4]) ⟨?_, ?_⟩
  · simp [EC.out, wrap16u, near_num]
  · repeat (first | with_reducible exact hb | with_reducible refine Below.setCell ?_ (by simp) _)
set_option maxHeartbeats 1000000 in
theorem near_19 (c a b d : Nat) (n : Int) (w : World) (hf : ((fldN (nC c) : Nat) : Int) = 9) (h19 : nC c = 19) :
    Calls Tryd.prog 5 #[opV c a b d n] w fun e w' => e = .returned (opV (nC c) (a % 16) 0 0 (n % 65536 % 9)) ∧ Below w.heap.size w w' := by
  have HF := Lib.hid (fun w => reffields_mod c 9 w hf)
  have hl := lies_new w (nC c) a b d n 27
  have ec : ((nC c : Nat) : Int) = (c : Int) % 23 := by unfold nC; omega
  rw [ec] at hl
  have k18 : ((c : Int) % 23 == 18) = false := by simp; unfold nC at h19; omega
  have k19 : ((c : Int) % 23 == 19) = true := by simp; unfold nC at h19; omega
  have EC := Lib.hid ec
  clear hf h19 ec
  unfold opV
  go_enter Tryd.func5, Tryd.ntmps5
  go_wp2_with fail
  refine (HF.out _).mono ?_
  rintro e W1 ⟨rfl, hb1⟩
  obtain ⟨k0, k1, k2, k3, k4, kl, kf⟩ := (hl.later (below_new _ _)).later hb1
  obtain ⟨z0, z1, z2, z3, z4, zl, zf⟩ := (lies_zero_at w _ 27).later hb1
  rw [EC.out] at k0
  have hb : Below w.heap.size w W1 := below_up (below_more (below_new w _) _) hb1
  go_wp2
  refine ret5 (hr := rfl) (hp := rfl) (by simp [set_far, z0]) (by simp [set_far, z1]) (by simp [set_far, z2]) (by simp [set_far, z3]) (by simp [set_far, z4]) ⟨?_, ?_⟩
  · simp [EC.out, wrap16u, near_num]
  · repeat (first | with_reducible exact hb | with_reducible refine Below.setCell ?_ (by simp) _)
set_option maxHeartbeats 1000000 in
theorem near_8 (c a b d : Nat) (n : Int) (w : World) (hf : ((fldN (nC c) : Nat) : Int) = 8) (h18 : nC c ≠ 18) (h19 : nC c ≠ 19) :
    Calls Tryd.prog 5 #[opV c a b d n] w fun e w' => e = .returned (opV (nC c) 0 0 0 n) ∧ Below w.heap.size w w' := by
  have HF := Lib.hid (fun w => reffields_mod c 8 w hf)
  have hl := lies_new w (nC c) a b d n 27
  have ec : ((nC c : Nat) : Int) = (c : Int) % 23 := by unfold nC; omega
  rw [ec] at hl
  have k18 : ((c : Int) % 23 == 18) = false := by simp; unfold nC at h18; omega
  have k19 : ((c : Int) % 23 == 19) = false := by simp; unfold nC at h19; omega
  have EC := Lib.hid ec
  clear hf h18 h19 ec
  unfold opV
  go_enter Tryd.func5, Tryd.ntmps5
  go_wp2_with fail
  refine (HF.out _).mono ?_
  rintro e W1 ⟨rfl, hb1⟩
  obtain ⟨k0, k1, k2, k3, k4, kl, kf⟩ := (hl.later (below_new _ _)).later hb1
  obtain ⟨z0, z1, z2, z3, z4, zl, zf⟩ := (lies_zero_at w _ 27).later hb1
  rw [EC.out] at k0
  have hb : Below w.heap.size w W1 := below_up (below_more (below_new w _) _) hb1
  go_wp2
  refine ret5 (hr := rfl) (hp := rfl) (by simp [set_far, z0]) (by simp [set_far, z1]) (by simp [set_far, z2]) (by simp [set_far, z3]) (by simp [set_far, z4]) ⟨?_, ?_⟩
  · simp [EC.out]
  · repeat (first | with_reducible exact hb | with_reducible refine Below.setCell ?_ (by simp) _)
set_option maxHeartbeats 1000000 in
theorem near_11 (c a b d : Nat) (n : Int) (w : World) (hf : ((fldN (nC c) : Nat) : Int) = 11) (h18 : nC c ≠ 18) (h19 : nC c ≠ 19) :
    Calls Tryd.prog 5 #[opV c a b d n] w fun e w' => e = .returned (opV (nC c) (a % 16) (b % 16) 0 n) ∧ Below w.heap.size w w' := by
  have HF := Lib.hid (fun w => reffields_mod c 11 w hf)
  have hl := lies_new w (nC c) a b d n 27
  have ec : ((nC c : Nat) : Int) = (c : Int) % 23 := by unfold nC; omega
  rw [ec] at hl
  have k18 : ((c : Int) % 23 == 18) = false := by simp; unfold nC at h18; omega
  have k19 : ((c : Int) % 23 == 19) = false := by simp; unfold nC at h19; omega
  have EC := Lib.hid ec
  clear hf h18 h19 ec
  unfold opV
  go_enter Tryd.func5, Tryd.ntmps5
  go_wp2_with fail
  refine (HF.out _).mono ?_
  rintro e W1 ⟨rfl, hb1⟩
  obtain ⟨k0, k1, k2, k3, k4, kl, kf⟩ := (hl.later (below_new _ _)).later hb1
  obtain ⟨z0, z1, z2, z3, z4, zl, zf⟩ := (lies_zero_at w _ 27).later hb1
  rw [EC.out] at k0
  have hb : Below w.heap.size w W1 := below_up (below_more (below_new w _) _) hb1
  go_wp2
  refine ret5 (hr := rfl) (hp := rfl) (by simp [set_far, z0]) (by simp [set_far, z1]) (by simp [set_far, z2]) (by simp [set_far, z3]) (by simp [set_far, z4]) ⟨?_, ?_⟩
  · simp [EC.out]
  · repeat (first | with_reducible exact hb | with_reducible refine Below.setCell ?_ (by simp) _)
set_option maxHeartbeats 1000000 in
theorem near_7 (c a b d : Nat) (n : Int) (w : World) (hf : ((fldN (nC c) : Nat) : Int) = 7) (h18 : nC c ≠ 18) (h19 : nC c ≠ 19) :
    Calls Tryd.prog 5 #[opV c a b d n] w fun e w' => e = .returned (opV (nC c) (a % 16) (b % 16) (d % 16) 0) ∧ Below w.heap.size w w' := by
  have HF := Lib.hid (fun w => reffields_mod c 7 w hf)
  have hl := lies_new w (nC c) a b d n 27
  have ec : ((nC c : Nat) : Int) = (c : Int) % 23 := by unfold nC; omega
  rw [ec] at hl
  have k18 : ((c : Int) % 23 == 18) = false := by simp; unfold nC at h18; omega
  have k19 : ((c : Int) % 23 == 19) = false := by simp; unfold nC at h19; omega
  have EC := Lib.hid ec
  clear hf h18 h19 ec
  unfold opV
  go_enter Tryd.func5, Tryd.ntmps5
  go_wp2_with fail
  refine (HF.out _).mono ?_
  rintro e W1 ⟨rfl, hb1⟩
  obtain ⟨k0, k1, k2, k3, k4, kl, kf⟩ := (hl.later (below_new _ _)).later hb1
  obtain ⟨z0, z1, z2, z3, z4, zl, zf⟩ := (lies_zero_at w _ 27).later hb1
  rw [EC.out] at k0
  have hb : Below w.heap.size w W1 := below_up (below_more (below_new w _) _) hb1
  go_wp2
  refine ret5 (hr := rfl) (hp := rfl) (by simp [set_far, z0]) (by simp [set_far, z1]) (by simp [set_far, z2]) (by simp [set_far, z3]) (by simp [set_far, z4]) ⟨?_, ?_⟩
  · simp [EC.out]
  · repeat (first | with_reducible exact hb | with_reducible refine Below.setCell ?_ (by simp) _)
theorem near_in (c a b d : Nat) (n : Int) (w : World) :
    Calls Tryd.prog 5 #[opV c a b d n] w fun e w' => e = .returned (opV (nC c) (nA c a) (nB c b) (nD c d) (nN c n)) ∧ Below w.heap.size w w' := by
  have hc : nC c < 23 := Nat.mod_lt _ (by omega)
  unfold nA nB nD nN
  rcases kinds (nC c) hc with ⟨h1, h2, h3, h4, h5, h6, h7⟩ | ⟨h1, h2, h3, h4, h5⟩ | ⟨h1, h2, h3, h4, h5, h6, h7⟩ | ⟨h1, h2, h3, h4, h5, h6, h7⟩ | ⟨h1, h2, h3, h4, h5, h6, h7⟩
  · simp only [h2, h3, h4, h5, h6, h7, or_self, if_false, Bool.false_eq_true]
    exact near_0 c a b d n w (by rw [h1]; rfl) h6 h7
  · simp only [h2, h3, h4, h5, if_true, if_false, Bool.false_eq_true]
    by_cases h6 : nC c = 18
    · rw [if_pos (.inl h6)]; exact near_18 c a b d n w (by rw [h1]; rfl) h6
    · by_cases h7 : nC c = 19
      · rw [if_pos (.inr h7)]; exact near_19 c a b d n w (by rw [h1]; rfl) h7
      · rw [if_neg (by omega)]; exact near_9 c a b d n w (by rw [h1]; rfl) h6 h7
  · simp only [h2, h3, h4, h5, h6, h7, or_self, if_false, if_true, Bool.false_eq_true]
    exact near_8 c a b d n w (by rw [h1]; rfl) h6 h7
  · simp only [h2, h3, h4, h5, h6, h7, or_self, if_false, if_true, Bool.false_eq_true]
    exact near_11 c a b d n w (by rw [h1]; rfl) h6 h7
  · simp only [h2, h3, h4, h5, h6, h7, or_self, if_false, if_true, Bool.false_eq_true]
    exact near_7 c a b d n w (by rw [h1]; rfl) h6 h7

/-! ### awake -/
end Go.Proofs.YtclieoeaknlfbaaDoor
