/-
  Contracts of package text's way from an instruction to a text: fieldsOf, showRegister, Show.
-/
import Derived.Test.YtclieoeaknlfbaaDoorTX
import Derived.Test.YtclieoeaknlfbaaDoorCR
namespace Go.Proofs.YtclieoeaknlfbaaDoor
open Go.ChangeShapes Go.WideShapes Go.ChangeAt Go.RowKit
open WM CM
set_option maxRecDepth 100000
set_option linter.unusedVariables false
set_option linter.unusedSimpArgs false

theorem str_app (a b : List UInt8) : str a ++ str b = str (a ++ b) := by
  unfold str
  apply ByteArray.ext
  simp [ByteArray.data_append]
theorem str_size (l : List UInt8) : (str l).size = l.length := by simp [str, ByteArray.size]
theorem nd5 (u : Nat) (h : u < 100000) : Lib.nDigits u ≤ 5 := by
  by_cases h1 : u < 10
  · rw [Lib.nDigits_small h1]; omega
  · rw [Lib.nDigits_big h1]
    by_cases h2 : u / 10 < 10
    · rw [Lib.nDigits_small h2]; omega
    · rw [Lib.nDigits_big h2]
      by_cases h3 : u / 10 / 10 < 10
      · rw [Lib.nDigits_small h3]; omega
      · rw [Lib.nDigits_big h3]
        by_cases h4 : u / 10 / 10 / 10 < 10
        · rw [Lib.nDigits_small h4]; omega
        · rw [Lib.nDigits_big h4, Lib.nDigits_small (by omega)]; omega
theorem itoa_len (n : Int) (h0 : -100000 < n) (h1 : n < 100000) : (Lib.itoa n).length ≤ 6 := by
  unfold Lib.itoa
  split
  · have := nd5 n.natAbs (by omega)
    rw [List.length_cons, Lib.decDigits_length]; omega
  · have := nd5 n.toNat (by omega)
    rw [Lib.decDigits_length]; omega
theorem itoa_size (n : Int) (h0 : -100000 < n) (h1 : n < 100000) : (str (Lib.itoa n)).size ≤ 6 := by rw [str_size]; exact itoa_len n h0 h1
/-- A register, as a text. -/
def regL (r : Nat) : List UInt8 := 32 :: 114 :: Lib.itoa r
/-- An instruction, as a text. -/
def showL (c a b d : Nat) (n : Int) : List UInt8 :=
  nameL c ++ (if hasA c then regL a else []) ++ (if hasB c then regL b else []) ++ (if hasC c then regL d else []) ++ (if hasN c then 32 :: Lib.itoa n else [])

/-! ### which fields -/
theorem right_a (c : Nat) : rightB c 1 0 0 0 = hasA c := by
  by_cases h : c < 23
  · exact (by decide : ∀ c : Fin 23, rightB c.val 1 0 0 0 = hasA c.val) ⟨c, h⟩
  · have h1 : hasA c = false := by unfold hasA; simp; omega
    rw [h1]; unfold rightB; simp [h]
theorem right_b (c : Nat) : rightB c 0 1 0 0 = hasB c := by
  by_cases h : c < 23
  · exact (by decide : ∀ c : Fin 23, rightB c.val 0 1 0 0 = hasB c.val) ⟨c, h⟩
  · have h1 : hasB c = false := by unfold hasB; simp; omega
    rw [h1]; unfold rightB; simp [h]
theorem right_c (c : Nat) : rightB c 0 0 1 0 = hasC c := by
  by_cases h : c < 23
  · exact (by decide : ∀ c : Fin 23, rightB c.val 0 0 1 0 = hasC c.val) ⟨c, h⟩
  · have h1 : hasC c = false := by unfold hasC; simp; omega
    rw [h1]; unfold rightB; simp [h]
theorem right_n (c : Nat) : rightB c 0 0 0 1 = hasN c := by
  by_cases h : c < 23
  · exact (by decide : ∀ c : Fin 23, rightB c.val 0 0 0 1 = hasN c.val) ⟨c, h⟩
  · have h1 : hasN c = false := by unfold hasN; simp; omega
    rw [h1]; unfold rightB; simp [h]
/-- Four truths in a block. -/
structure Four (w : World) (B : Nat) (x y z u : Bool) : Prop where
  c0 : w.cell? ⟨B, 0, none⟩ = some (.bool x)
  c1 : w.cell? ⟨B, 1, none⟩ = some (.bool y)
  c2 : w.cell? ⟨B, 2, none⟩ = some (.bool z)
  c3 : w.cell? ⟨B, 3, none⟩ = some (.bool u)
  fz : ∀ i, w.frozen? ⟨B, i, none⟩ = false
theorem four_new (w : World) (x y z u : Bool) (t : TypeId) : Four (w.alloc (.cells #[.bool x, .bool y, .bool z, .bool u] t)) w.heap.size x y z u := ⟨by simp, by simp, by simp, by simp, fun i => by simp⟩
theorem Four.later {w w' : World} {B : Nat} {x y z u : Bool} (h : Four w B x y z u) (hb : Below w.heap.size w w') : Four w' B x y z u :=
  ⟨(hb.cell (World.block_lt_of_cell? _ _ h.c0)).trans h.c0, (hb.cell (World.block_lt_of_cell? _ _ h.c1)).trans h.c1, (hb.cell (World.block_lt_of_cell? _ _ h.c2)).trans h.c2, (hb.cell (World.block_lt_of_cell? _ _ h.c3)).trans h.c3, fun i => (hb.frozen (p := ⟨B, i, none⟩) (World.block_lt_of_cell? w ⟨B, 0, none⟩ h.c0)).trans (h.fz i)⟩
theorem set4 (U : World) (B : Nat) (v0 v1 v2 v3 : Value) (h0 : (U.cell? ⟨B, 0, none⟩).isSome = true) (h1 : (U.cell? ⟨B, 1, none⟩).isSome = true) (h2 : (U.cell? ⟨B, 2, none⟩).isSome = true) (h3 : (U.cell? ⟨B, 3, none⟩).isSome = true) :
    ((((U.setCell ⟨B, 0, none⟩ v0).setCell ⟨B, 1, none⟩ v1).setCell ⟨B, 2, none⟩ v2).setCell ⟨B, 3, none⟩ v3).cell? ⟨B, 0, none⟩ = some v0 ∧ ((((U.setCell ⟨B, 0, none⟩ v0).setCell ⟨B, 1, none⟩ v1).setCell ⟨B, 2, none⟩ v2).setCell ⟨B, 3, none⟩ v3).cell? ⟨B, 1, none⟩ = some v1 ∧ ((((U.setCell ⟨B, 0, none⟩ v0).setCell ⟨B, 1, none⟩ v1).setCell ⟨B, 2, none⟩ v2).setCell ⟨B, 3, none⟩ v3).cell? ⟨B, 2, none⟩ = some v2 ∧ ((((U.setCell ⟨B, 0, none⟩ v0).setCell ⟨B, 1, none⟩ v1).setCell ⟨B, 2, none⟩ v2).setCell ⟨B, 3, none⟩ v3).cell? ⟨B, 3, none⟩ = some v3 := by
  simp [set_other, set_same, h0, h1, h2, h3]
theorem results4 {fn : Func} {p : Tmp} (hr : fn.results = #[.cell p 68]) {tmps : Array Value} {W : World} {B : Nat} {v0 v1 v2 v3 : Value} (hp : tmps.getD p undef = .pointer (some ⟨B, 0, none⟩))
    (h0 : W.cell? ⟨B, 0, none⟩ = some v0) (h1 : W.cell? ⟨B, 1, none⟩ = some v1) (h2 : W.cell? ⟨B, 2, none⟩ = some v2) (h3 : W.cell? ⟨B, 3, none⟩ = some v3) :
    (results fn tmps).run Tryd.prog W = .ok (.agg #[v0, v1, v2, v3]) W := by
  have hl : (loadVar 68 ⟨B, 0, none⟩).run Tryd.prog W = .ok (.agg #[v0, v1, v2, v3]) W := by simp [go_sem, h0, h1, h2, h3]
  clear h0 h1 h2 h3
  have hp' : tmps[p]?.getD undef = .pointer (some ⟨B, 0, none⟩) := by simpa using hp
  simp only [results, hr]
  simp [hp', asAddr, hl]
theorem ret4 {fn : Func} {p : Tmp} {R : Ending → World → Prop} {tmps : Array Value} {U : World} {B : Nat} {v0 v1 v2 v3 : Value} (hr : fn.results = #[.cell p 68]) (hp : tmps.getD p undef = .pointer (some ⟨B, 0, none⟩))
    (h0 : (U.cell? ⟨B, 0, none⟩).isSome = true) (h1 : (U.cell? ⟨B, 1, none⟩).isSome = true) (h2 : (U.cell? ⟨B, 2, none⟩).isSome = true) (h3 : (U.cell? ⟨B, 3, none⟩).isSome = true)
    (hR : R (.returned (.agg #[v0, v1, v2, v3])) ((((U.setCell ⟨B, 0, none⟩ v0).setCell ⟨B, 1, none⟩ v1).setCell ⟨B, 2, none⟩ v2).setCell ⟨B, 3, none⟩ v3)) : bodyPost Tryd.prog fn R .ret ⟨tmps, []⟩ ((((U.setCell ⟨B, 0, none⟩ v0).setCell ⟨B, 1, none⟩ v1).setCell ⟨B, 2, none⟩ v2).setCell ⟨B, 3, none⟩ v3) := by
  obtain ⟨r0, r1, r2, r3⟩ := set4 U B v0 v1 v2 v3 h0 h1 h2 h3
  exact bodyPost_ret (results4 hr hp r0 r1 r2 r3) rfl hR
theorem ra_in (c : Nat) (w : World) : Calls Tryd.prog 20 #[.agg #[.int .u8 c, .int .u8 1, .int .u8 0, .int .u8 0, .int .i16 0]] w fun e w' => e = .returned (.bool (hasA c)) ∧ Below w.heap.size w w' := by
  have h := right_in c 1 0 0 0 w
  rw [right_a] at h; exact h
theorem rb_in (c : Nat) (w : World) : Calls Tryd.prog 20 #[.agg #[.int .u8 c, .int .u8 0, .int .u8 1, .int .u8 0, .int .i16 0]] w fun e w' => e = .returned (.bool (hasB c)) ∧ Below w.heap.size w w' := by
  have h := right_in c 0 1 0 0 w
  rw [right_b] at h; exact h
theorem rc_in (c : Nat) (w : World) : Calls Tryd.prog 20 #[.agg #[.int .u8 c, .int .u8 0, .int .u8 0, .int .u8 1, .int .i16 0]] w fun e w' => e = .returned (.bool (hasC c)) ∧ Below w.heap.size w w' := by
  have h := right_in c 0 0 1 0 w
  rw [right_c] at h; exact h
theorem rn_in (c : Nat) (w : World) : Calls Tryd.prog 20 #[.agg #[.int .u8 c, .int .u8 0, .int .u8 0, .int .u8 0, .int .i16 1]] w fun e w' => e = .returned (.bool (hasN c)) ∧ Below w.heap.size w w' := by
  have h := right_in c 0 0 0 1 w
  rw [right_n] at h; exact h
theorem tfields_in (c : Nat) (w : World) :
    Calls Tryd.prog 32 #[.int .u8 c] w fun e w' => e = .returned (.agg #[.bool (hasA c), .bool (hasB c), .bool (hasC c), .bool (hasN c)]) ∧ Below w.heap.size w w' := by
  have h0 := four_new w false false false false 68
  have b0 := below_new w (.cells #[.bool false, .bool false, .bool false, .bool false] 68)
  go_enter Tryd.func32, Tryd.ntmps32
  go_wp2_with fail
  refine (ra_in c _).mono ?_
  rintro e w1 ⟨rfl, b1⟩
  go_wp2_with fail
  refine (rb_in c _).mono ?_
  rintro e w2 ⟨rfl, b2⟩
  go_wp2_with fail
  refine (rc_in c _).mono ?_
  rintro e w3 ⟨rfl, b3⟩
  go_wp2_with fail
  refine (rn_in c _).mono ?_
  rintro e w4 ⟨rfl, b4⟩
  have b5 := below_up (below_up (below_up b1 b2) b3) b4
  obtain ⟨k0, k1, k2, k3, kf⟩ := h0.later b5
  have b6 := below_up b0 b5
  clear h0 b0 b1 b2 b3 b4 b5
  go_wp2
  refine ret4 (hr := rfl) (hp := rfl) (by simp [k0]) (by simp [k1]) (by simp [k2]) (by simp [k3]) ⟨rfl, ?_⟩
  repeat (first | with_reducible exact b6 | with_reducible refine Below.setCell ?_ (by simp) _)
theorem showreg_in (r : Nat) (w : World) (hr : r < 256) (hT : TW w) :
    Calls Tryd.prog 33 #[.int .u8 r] w fun e w' => e = .returned (.string (str (regL r))) ∧ Below w.heap.size w w' := by
  have e : str [32, 114] ++ str (Lib.itoa r) = str (regL r) := str_app _ _
  have HE := Lib.hid e
  have HT := Lib.hid hT
  have hz := itoa_size r (by omega) (by omega)
  clear e hT
  go_enter Tryd.func33, Tryd.ntmps33
  go_wp2_with fail
  refine (itoa_in r _ (by omega) (by omega) HT.out).mono ?_
  rintro e w1 ⟨rfl, b1⟩
  go_wp2
  go_ret
  refine ⟨?_, b1⟩
  rw [← HE.out]; rfl
theorem reg_size (r : Nat) (h : r < 256) : (str (regL r)).size ≤ 8 := by
  have := itoa_len r (by omega) (by omega)
  rw [str_size]; unfold regL; rw [List.length_cons, List.length_cons]; omega
theorem name_size (c : Nat) (h : c < 23) : (str (nameL c)).size ≤ 4 := by
  rw [str_size]
  exact (by decide : ∀ c : Fin 23, (nameL c.val).length ≤ 4) ⟨c, h⟩

/-! ### Show -/
theorem show_no (c a b d : Nat) (n : Int) (w : World) (hr : rightB c a b d n = false) :
    Calls Tryd.prog 18 #[opV c a b d n] w fun e w' => e = .returned (.string (str [])) ∧ Below w.heap.size w w' := by
  have hR := fun W => right_in c a b d n W
  rw [hr] at hR
  have HR := Lib.hid hR
  have b0 := below_new w (.cells #[.int .u8 c, .int .u8 a, .int .u8 b, .int .u8 d, .int .i16 n] 27)
  clear hR hr
  unfold opV at HR ⊢
  go_enter Tryd.func18, Tryd.ntmps18
  go_wp2_with fail
  refine (HR.out _).mono ?_
  rintro e w1 ⟨rfl, b1⟩
  go_wp2
  go_ret
  exact ⟨rfl, below_up b0 b1⟩
set_option maxHeartbeats 1000000 in
theorem show_0 (c a b d : Nat) (n : Int) (w : World) (hc : c < 23) (ha : a < 16) (hb : b < 16) (hd : d < 16) (hn : -32768 ≤ n ∧ n ≤ 32767) (hr : rightB c a b d n = true) (hA : hasA c = false) (hB : hasB c = false) (hC : hasC c = false) (hN : hasN c = false) (hT : TW w) :
    Calls Tryd.prog 18 #[opV c a b d n] w fun e w' => e = .returned (.string (str (showL c a b d n))) ∧ Below w.heap.size w w' := by
  have hR := fun W => right_in c a b d n W
  rw [hr] at hR
  have HR := Lib.hid hR
  have hF := fun W => tfields_in c W
  rw [hA, hB, hC, hN] at hF
  have HF := Lib.hid hF
  have b0 := below_new w (.cells #[.int .u8 c, .int .u8 a, .int .u8 b, .int .u8 d, .int .i16 n] 27)
  have L0 := lies_new w c a b d n 27
  have e : showL c a b d n = nameL c := by unfold showL; rw [hA, hB, hC, hN]; simp
  have HE := Lib.hid e
  have HT := Lib.hid hT
  have z1 := name_size c hc
  have z2 := reg_size a (by omega)
  have z3 := reg_size b (by omega)
  have z4 := reg_size d (by omega)
  have z5 := itoa_size n (by omega) (by omega)
  have hc' : (c : Int) < 23 := by omega
  clear hR hF hr hA hB hC hN e hT
  unfold opV at HR ⊢
  go_enter Tryd.func18, Tryd.ntmps18
  go_wp2_with fail
  refine (HR.out _).mono ?_
  rintro e w1 ⟨rfl, b1⟩
  obtain ⟨k0, k1, k2, k3, k4, kl, kf⟩ := L0.later b1
  go_wp2_with fail
  refine (HF.out _).mono ?_
  rintro e w2 ⟨rfl, b2⟩
  have F2 := four_new w2 false false false false 68
  have b4 := below_new w2 (.cells #[.bool false, .bool false, .bool false, .bool false] 68)
  have L3 := ((L0.later b1).later b2).later b4
  have b5 := below_up (below_up (below_up b0 b1) b2) b4
  have T5 := (HT.out).later b5
  have hnm := T5.name c hc
  clear k0 k1 k2 k3 k4 kl kf L0 b0 b1 b2 b4
  have L3' := Lib.hid L3
  have F2' := Lib.hid F2
  obtain ⟨j0, j1, j2, j3, j4, jl, jf⟩ := L3
  obtain ⟨f0, f1, f2, f3, f4⟩ := F2
  go_wp2
  go_ret
  refine ⟨?_, b5⟩
  rw [HE.out]
  simp only [← str_app]
  rfl
set_option maxHeartbeats 1000000 in
theorem show_9 (c a b d : Nat) (n : Int) (w : World) (hc : c < 23) (ha : a < 16) (hb : b < 16) (hd : d < 16) (hn : -32768 ≤ n ∧ n ≤ 32767) (hr : rightB c a b d n = true) (hA : hasA c = true) (hB : hasB c = false) (hC : hasC c = false) (hN : hasN c = true) (hT : TW w) :
    Calls Tryd.prog 18 #[opV c a b d n] w fun e w' => e = .returned (.string (str (showL c a b d n))) ∧ Below w.heap.size w w' := by
  have hR := fun W => right_in c a b d n W
  rw [hr] at hR
  have HR := Lib.hid hR
  have hF := fun W => tfields_in c W
  rw [hA, hB, hC, hN] at hF
  have HF := Lib.hid hF
  have b0 := below_new w (.cells #[.int .u8 c, .int .u8 a, .int .u8 b, .int .u8 d, .int .i16 n] 27)
  have L0 := lies_new w c a b d n 27
  have e : showL c a b d n = nameL c ++ regL a ++ (32 :: Lib.itoa n) := by unfold showL; rw [hA, hB, hC, hN]; simp
  have HE := Lib.hid e
  have HT := Lib.hid hT
  have z1 := name_size c hc
  have z2 := reg_size a (by omega)
  have z3 := reg_size b (by omega)
  have z4 := reg_size d (by omega)
  have z5 := itoa_size n (by omega) (by omega)
  have hc' : (c : Int) < 23 := by omega
  clear hR hF hr hA hB hC hN e hT
  unfold opV at HR ⊢
  go_enter Tryd.func18, Tryd.ntmps18
  go_wp2_with fail
  refine (HR.out _).mono ?_
  rintro e w1 ⟨rfl, b1⟩
  obtain ⟨k0, k1, k2, k3, k4, kl, kf⟩ := L0.later b1
  go_wp2_with fail
  refine (HF.out _).mono ?_
  rintro e w2 ⟨rfl, b2⟩
  have F2 := four_new w2 true false false true 68
  have b4 := below_new w2 (.cells #[.bool true, .bool false, .bool false, .bool true] 68)
  have L3 := ((L0.later b1).later b2).later b4
  have b5 := below_up (below_up (below_up b0 b1) b2) b4
  have T5 := (HT.out).later b5
  have hnm := T5.name c hc
  clear k0 k1 k2 k3 k4 kl kf L0 b0 b1 b2 b4
  have L3' := Lib.hid L3
  have F2' := Lib.hid F2
  obtain ⟨j0, j1, j2, j3, j4, jl, jf⟩ := L3
  obtain ⟨f0, f1, f2, f3, f4⟩ := F2
  go_wp2_with fail
  refine (showreg_in a _ (by omega) T5).mono ?_
  rintro e v0 ⟨rfl, c0⟩
  have L4 := (L3'.out).later c0
  have F4 := (F2'.out).later c0
  have B5 := below_up b5 c0
  have U5 := T5.later c0
  clear T5 b5 L3' F2' j0 j1 j2 j3 j4 jl jf f0 f1 f2 f3 f4 c0
  have T5 := U5
  have b5 := B5
  have L3' := Lib.hid L4
  have F2' := Lib.hid F4
  clear U5 B5
  obtain ⟨j0, j1, j2, j3, j4, jl, jf⟩ := L4
  obtain ⟨f0, f1, f2, f3, f4⟩ := F4
  go_wp2_with fail
  refine (itoa_in n _ (by omega) (by omega) T5).mono ?_
  rintro e v1 ⟨rfl, c1⟩
  have L5 := (L3'.out).later c1
  have F5 := (F2'.out).later c1
  have B5 := below_up b5 c1
  have U5 := T5.later c1
  clear T5 b5 L3' F2' j0 j1 j2 j3 j4 jl jf f0 f1 f2 f3 f4 c1
  have T5 := U5
  have b5 := B5
  have L3' := Lib.hid L5
  have F2' := Lib.hid F5
  clear U5 B5
  obtain ⟨j0, j1, j2, j3, j4, jl, jf⟩ := L5
  obtain ⟨f0, f1, f2, f3, f4⟩ := F5
  go_wp2
  go_ret
  refine ⟨?_, b5⟩
  rw [HE.out]
  simp only [← str_app]
  rfl
set_option maxHeartbeats 1000000 in
theorem show_8 (c a b d : Nat) (n : Int) (w : World) (hc : c < 23) (ha : a < 16) (hb : b < 16) (hd : d < 16) (hn : -32768 ≤ n ∧ n ≤ 32767) (hr : rightB c a b d n = true) (hA : hasA c = false) (hB : hasB c = false) (hC : hasC c = false) (hN : hasN c = true) (hT : TW w) :
    Calls Tryd.prog 18 #[opV c a b d n] w fun e w' => e = .returned (.string (str (showL c a b d n))) ∧ Below w.heap.size w w' := by
  have hR := fun W => right_in c a b d n W
  rw [hr] at hR
  have HR := Lib.hid hR
  have hF := fun W => tfields_in c W
  rw [hA, hB, hC, hN] at hF
  have HF := Lib.hid hF
  have b0 := below_new w (.cells #[.int .u8 c, .int .u8 a, .int .u8 b, .int .u8 d, .int .i16 n] 27)
  have L0 := lies_new w c a b d n 27
  have e : showL c a b d n = nameL c ++ (32 :: Lib.itoa n) := by unfold showL; rw [hA, hB, hC, hN]; simp
  have HE := Lib.hid e
  have HT := Lib.hid hT
  have z1 := name_size c hc
  have z2 := reg_size a (by omega)
  have z3 := reg_size b (by omega)
  have z4 := reg_size d (by omega)
  have z5 := itoa_size n (by omega) (by omega)
  have hc' : (c : Int) < 23 := by omega
  clear hR hF hr hA hB hC hN e hT
  unfold opV at HR ⊢
  go_enter Tryd.func18, Tryd.ntmps18
  go_wp2_with fail
  refine (HR.out _).mono ?_
  rintro e w1 ⟨rfl, b1⟩
  obtain ⟨k0, k1, k2, k3, k4, kl, kf⟩ := L0.later b1
  go_wp2_with fail
  refine (HF.out _).mono ?_
  rintro e w2 ⟨rfl, b2⟩
  have F2 := four_new w2 false false false true 68
  have b4 := below_new w2 (.cells #[.bool false, .bool false, .bool false, .bool true] 68)
  have L3 := ((L0.later b1).later b2).later b4
  have b5 := below_up (below_up (below_up b0 b1) b2) b4
  have T5 := (HT.out).later b5
  have hnm := T5.name c hc
  clear k0 k1 k2 k3 k4 kl kf L0 b0 b1 b2 b4
  have L3' := Lib.hid L3
  have F2' := Lib.hid F2
  obtain ⟨j0, j1, j2, j3, j4, jl, jf⟩ := L3
  obtain ⟨f0, f1, f2, f3, f4⟩ := F2
  go_wp2_with fail
  refine (itoa_in n _ (by omega) (by omega) T5).mono ?_
  rintro e v0 ⟨rfl, c0⟩
  have L4 := (L3'.out).later c0
  have F4 := (F2'.out).later c0
  have B5 := below_up b5 c0
  have U5 := T5.later c0
  clear T5 b5 L3' F2' j0 j1 j2 j3 j4 jl jf f0 f1 f2 f3 f4 c0
  have T5 := U5
  have b5 := B5
  have L3' := Lib.hid L4
  have F2' := Lib.hid F4
  clear U5 B5
  obtain ⟨j0, j1, j2, j3, j4, jl, jf⟩ := L4
  obtain ⟨f0, f1, f2, f3, f4⟩ := F4
  go_wp2
  go_ret
  refine ⟨?_, b5⟩
  rw [HE.out]
  simp only [← str_app]
  rfl
set_option maxHeartbeats 1000000 in
theorem show_11 (c a b d : Nat) (n : Int) (w : World) (hc : c < 23) (ha : a < 16) (hb : b < 16) (hd : d < 16) (hn : -32768 ≤ n ∧ n ≤ 32767) (hr : rightB c a b d n = true) (hA : hasA c = true) (hB : hasB c = true) (hC : hasC c = false) (hN : hasN c = true) (hT : TW w) :
    Calls Tryd.prog 18 #[opV c a b d n] w fun e w' => e = .returned (.string (str (showL c a b d n))) ∧ Below w.heap.size w w' := by
  have hR := fun W => right_in c a b d n W
  rw [hr] at hR
  have HR := Lib.hid hR
  have hF := fun W => tfields_in c W
  rw [hA, hB, hC, hN] at hF
  have HF := Lib.hid hF
  have b0 := below_new w (.cells #[.int .u8 c, .int .u8 a, .int .u8 b, .int .u8 d, .int .i16 n] 27)
  have L0 := lies_new w c a b d n 27
  have e : showL c a b d n = nameL c ++ regL a ++ regL b ++ (32 :: Lib.itoa n) := by unfold showL; rw [hA, hB, hC, hN]; simp
  have HE := Lib.hid e
  have HT := Lib.hid hT
  have z1 := name_size c hc
  have z2 := reg_size a (by omega)
  have z3 := reg_size b (by omega)
  have z4 := reg_size d (by omega)
  have z5 := itoa_size n (by omega) (by omega)
  have hc' : (c : Int) < 23 := by omega
  clear hR hF hr hA hB hC hN e hT
  unfold opV at HR ⊢
  go_enter Tryd.func18, Tryd.ntmps18
  go_wp2_with fail
  refine (HR.out _).mono ?_
  rintro e w1 ⟨rfl, b1⟩
  obtain ⟨k0, k1, k2, k3, k4, kl, kf⟩ := L0.later b1
  go_wp2_with fail
  refine (HF.out _).mono ?_
  rintro e w2 ⟨rfl, b2⟩
  have F2 := four_new w2 true true false true 68
  have b4 := below_new w2 (.cells #[.bool true, .bool true, .bool false, .bool true] 68)
  have L3 := ((L0.later b1).later b2).later b4
  have b5 := below_up (below_up (below_up b0 b1) b2) b4
  have T5 := (HT.out).later b5
  have hnm := T5.name c hc
  clear k0 k1 k2 k3 k4 kl kf L0 b0 b1 b2 b4
  have L3' := Lib.hid L3
  have F2' := Lib.hid F2
  obtain ⟨j0, j1, j2, j3, j4, jl, jf⟩ := L3
  obtain ⟨f0, f1, f2, f3, f4⟩ := F2
  go_wp2_with fail
  refine (showreg_in a _ (by omega) T5).mono ?_
  rintro e v0 ⟨rfl, c0⟩
  have L4 := (L3'.out).later c0
  have F4 := (F2'.out).later c0
  have B5 := below_up b5 c0
  have U5 := T5.later c0
  clear T5 b5 L3' F2' j0 j1 j2 j3 j4 jl jf f0 f1 f2 f3 f4 c0
  have T5 := U5
  have b5 := B5
  have L3' := Lib.hid L4
  have F2' := Lib.hid F4
  clear U5 B5
  obtain ⟨j0, j1, j2, j3, j4, jl, jf⟩ := L4
  obtain ⟨f0, f1, f2, f3, f4⟩ := F4
  go_wp2_with fail
  refine (showreg_in b _ (by omega) T5).mono ?_
  rintro e v1 ⟨rfl, c1⟩
  have L5 := (L3'.out).later c1
  have F5 := (F2'.out).later c1
  have B5 := below_up b5 c1
  have U5 := T5.later c1
  clear T5 b5 L3' F2' j0 j1 j2 j3 j4 jl jf f0 f1 f2 f3 f4 c1
  have T5 := U5
  have b5 := B5
  have L3' := Lib.hid L5
  have F2' := Lib.hid F5
  clear U5 B5
  obtain ⟨j0, j1, j2, j3, j4, jl, jf⟩ := L5
  obtain ⟨f0, f1, f2, f3, f4⟩ := F5
  go_wp2_with fail
  refine (itoa_in n _ (by omega) (by omega) T5).mono ?_
  rintro e v2 ⟨rfl, c2⟩
  have L6 := (L3'.out).later c2
  have F6 := (F2'.out).later c2
  have B5 := below_up b5 c2
  have U5 := T5.later c2
  clear T5 b5 L3' F2' j0 j1 j2 j3 j4 jl jf f0 f1 f2 f3 f4 c2
  have T5 := U5
  have b5 := B5
  have L3' := Lib.hid L6
  have F2' := Lib.hid F6
  clear U5 B5
  obtain ⟨j0, j1, j2, j3, j4, jl, jf⟩ := L6
  obtain ⟨f0, f1, f2, f3, f4⟩ := F6
  go_wp2
  go_ret
  refine ⟨?_, b5⟩
  rw [HE.out]
  simp only [← str_app]
  rfl
set_option maxHeartbeats 1000000 in
theorem show_7 (c a b d : Nat) (n : Int) (w : World) (hc : c < 23) (ha : a < 16) (hb : b < 16) (hd : d < 16) (hn : -32768 ≤ n ∧ n ≤ 32767) (hr : rightB c a b d n = true) (hA : hasA c = true) (hB : hasB c = true) (hC : hasC c = true) (hN : hasN c = false) (hT : TW w) :
    Calls Tryd.prog 18 #[opV c a b d n] w fun e w' => e = .returned (.string (str (showL c a b d n))) ∧ Below w.heap.size w w' := by
  have hR := fun W => right_in c a b d n W
  rw [hr] at hR
  have HR := Lib.hid hR
  have hF := fun W => tfields_in c W
  rw [hA, hB, hC, hN] at hF
  have HF := Lib.hid hF
  have b0 := below_new w (.cells #[.int .u8 c, .int .u8 a, .int .u8 b, .int .u8 d, .int .i16 n] 27)
  have L0 := lies_new w c a b d n 27
  have e : showL c a b d n = nameL c ++ regL a ++ regL b ++ regL d := by unfold showL; rw [hA, hB, hC, hN]; simp
  have HE := Lib.hid e
  have HT := Lib.hid hT
  have z1 := name_size c hc
  have z2 := reg_size a (by omega)
  have z3 := reg_size b (by omega)
  have z4 := reg_size d (by omega)
  have z5 := itoa_size n (by omega) (by omega)
  have hc' : (c : Int) < 23 := by omega
  clear hR hF hr hA hB hC hN e hT
  unfold opV at HR ⊢
  go_enter Tryd.func18, Tryd.ntmps18
  go_wp2_with fail
  refine (HR.out _).mono ?_
  rintro e w1 ⟨rfl, b1⟩
  obtain ⟨k0, k1, k2, k3, k4, kl, kf⟩ := L0.later b1
  go_wp2_with fail
  refine (HF.out _).mono ?_
  rintro e w2 ⟨rfl, b2⟩
  have F2 := four_new w2 true true true false 68
  have b4 := below_new w2 (.cells #[.bool true, .bool true, .bool true, .bool false] 68)
  have L3 := ((L0.later b1).later b2).later b4
  have b5 := below_up (below_up (below_up b0 b1) b2) b4
  have T5 := (HT.out).later b5
  have hnm := T5.name c hc
  clear k0 k1 k2 k3 k4 kl kf L0 b0 b1 b2 b4
  have L3' := Lib.hid L3
  have F2' := Lib.hid F2
  obtain ⟨j0, j1, j2, j3, j4, jl, jf⟩ := L3
  obtain ⟨f0, f1, f2, f3, f4⟩ := F2
  go_wp2_with fail
  refine (showreg_in a _ (by omega) T5).mono ?_
  rintro e v0 ⟨rfl, c0⟩
  have L4 := (L3'.out).later c0
  have F4 := (F2'.out).later c0
  have B5 := below_up b5 c0
  have U5 := T5.later c0
  clear T5 b5 L3' F2' j0 j1 j2 j3 j4 jl jf f0 f1 f2 f3 f4 c0
  have T5 := U5
  have b5 := B5
  have L3' := Lib.hid L4
  have F2' := Lib.hid F4
  clear U5 B5
  obtain ⟨j0, j1, j2, j3, j4, jl, jf⟩ := L4
  obtain ⟨f0, f1, f2, f3, f4⟩ := F4
  go_wp2_with fail
  refine (showreg_in b _ (by omega) T5).mono ?_
  rintro e v1 ⟨rfl, c1⟩
  have L5 := (L3'.out).later c1
  have F5 := (F2'.out).later c1
  have B5 := below_up b5 c1
  have U5 := T5.later c1
  clear T5 b5 L3' F2' j0 j1 j2 j3 j4 jl jf f0 f1 f2 f3 f4 c1
  have T5 := U5
  have b5 := B5
  have L3' := Lib.hid L5
  have F2' := Lib.hid F5
  clear U5 B5
  obtain ⟨j0, j1, j2, j3, j4, jl, jf⟩ := L5
  obtain ⟨f0, f1, f2, f3, f4⟩ := F5
  go_wp2_with fail
  refine (showreg_in d _ (by omega) T5).mono ?_
  rintro e v2 ⟨rfl, c2⟩
  have L6 := (L3'.out).later c2
  have F6 := (F2'.out).later c2
  have B5 := below_up b5 c2
  have U5 := T5.later c2
  clear T5 b5 L3' F2' j0 j1 j2 j3 j4 jl jf f0 f1 f2 f3 f4 c2
  have T5 := U5
  have b5 := B5
  have L3' := Lib.hid L6
  have F2' := Lib.hid F6
  clear U5 B5
  obtain ⟨j0, j1, j2, j3, j4, jl, jf⟩ := L6
  obtain ⟨f0, f1, f2, f3, f4⟩ := F6
  go_wp2
  go_ret
  refine ⟨?_, b5⟩
  rw [HE.out]
  simp only [← str_app]
  rfl
theorem show_in (c a b d : Nat) (n : Int) (w : World) (hn : -32768 ≤ n ∧ n ≤ 32767) (hr : rightB c a b d n = true) (hT : TW w) :
    Calls Tryd.prog 18 #[opV c a b d n] w fun e w' => e = .returned (.string (str (showL c a b d n))) ∧ Below w.heap.size w w' := by
  obtain ⟨hc, ha, hb, hd⟩ := right_lt hr
  rcases kinds c hc with ⟨_, k1, k2, k3, k4, _⟩ | ⟨_, k1, k2, k3, k4⟩ | ⟨_, k1, k2, k3, k4, _⟩ | ⟨_, k1, k2, k3, k4, _⟩ | ⟨_, k1, k2, k3, k4, _⟩
  · exact show_0 c a b d n w hc ha hb hd hn hr k1 k2 k3 k4 hT
  · exact show_9 c a b d n w hc ha hb hd hn hr k1 k2 k3 k4 hT
  · exact show_8 c a b d n w hc ha hb hd hn hr k1 k2 k3 k4 hT
  · exact show_11 c a b d n w hc ha hb hd hn hr k1 k2 k3 k4 hT
  · exact show_7 c a b d n w hc ha hb hd hn hr k1 k2 k3 k4 hT
end Go.Proofs.YtclieoeaknlfbaaDoor
