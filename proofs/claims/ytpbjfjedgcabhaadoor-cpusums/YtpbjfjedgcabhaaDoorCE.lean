/-
  Contracts of package code (parts, Decode): each returns what the plain text names; what was there is left alone.
-/
import Derived.Test.YtpbjfjedgcabhaaDoorCD
namespace Go.Proofs.YtpbjfjedgcabhaaDoor
open Go.ChangeShapes Go.WideShapes Go.ChangeAt Go.RowKit
open WM CM
set_option maxRecDepth 100000

/-! ### a result that lies in a block of five cells -/
theorem set_other (U : World) (B i j : Nat) (v : Value) (h : i ≠ j) : (U.setCell ⟨B, i, none⟩ v).cell? ⟨B, j, none⟩ = U.cell? ⟨B, j, none⟩ :=
  World.cell?_setCell_other _ _ _ _ (by simp)
theorem set_same (U : World) (B i : Nat) (v : Value) (h : (U.cell? ⟨B, i, none⟩).isSome = true) : (U.setCell ⟨B, i, none⟩ v).cell? ⟨B, i, none⟩ = some v := World.cell?_setCell_same' U _ v h
theorem set5 (U : World) (B : Nat) (v0 v1 v2 v3 v4 : Value) (h0 : (U.cell? ⟨B, 0, none⟩).isSome = true) (h1 : (U.cell? ⟨B, 1, none⟩).isSome = true) (h2 : (U.cell? ⟨B, 2, none⟩).isSome = true) (h3 : (U.cell? ⟨B, 3, none⟩).isSome = true) (h4 : (U.cell? ⟨B, 4, none⟩).isSome = true) :
    (((((U.setCell ⟨B, 0, none⟩ v0).setCell ⟨B, 1, none⟩ v1).setCell ⟨B, 2, none⟩ v2).setCell ⟨B, 3, none⟩ v3).setCell ⟨B, 4, none⟩ v4).cell? ⟨B, 0, none⟩ = some v0 ∧ (((((U.setCell ⟨B, 0, none⟩ v0).setCell ⟨B, 1, none⟩ v1).setCell ⟨B, 2, none⟩ v2).setCell ⟨B, 3, none⟩ v3).setCell ⟨B, 4, none⟩ v4).cell? ⟨B, 1, none⟩ = some v1 ∧ (((((U.setCell ⟨B, 0, none⟩ v0).setCell ⟨B, 1, none⟩ v1).setCell ⟨B, 2, none⟩ v2).setCell ⟨B, 3, none⟩ v3).setCell ⟨B, 4, none⟩ v4).cell? ⟨B, 2, none⟩ = some v2 ∧ (((((U.setCell ⟨B, 0, none⟩ v0).setCell ⟨B, 1, none⟩ v1).setCell ⟨B, 2, none⟩ v2).setCell ⟨B, 3, none⟩ v3).setCell ⟨B, 4, none⟩ v4).cell? ⟨B, 3, none⟩ = some v3 ∧ (((((U.setCell ⟨B, 0, none⟩ v0).setCell ⟨B, 1, none⟩ v1).setCell ⟨B, 2, none⟩ v2).setCell ⟨B, 3, none⟩ v3).setCell ⟨B, 4, none⟩ v4).cell? ⟨B, 4, none⟩ = some v4 := by
  simp [set_other, set_same, h0, h1, h2, h3, h4]
theorem load5 (W : World) (B : Nat) (v0 v1 v2 v3 v4 : Value) (h0 : W.cell? ⟨B, 0, none⟩ = some v0) (h1 : W.cell? ⟨B, 1, none⟩ = some v1) (h2 : W.cell? ⟨B, 2, none⟩ = some v2) (h3 : W.cell? ⟨B, 3, none⟩ = some v3) (h4 : W.cell? ⟨B, 4, none⟩ = some v4) :
    (loadVar 74 ⟨B, 0, none⟩).run Tryd.prog W = .ok (.agg #[v0, v1, v2, v3, v4]) W := by
  simp [go_sem, h0, h1, h2, h3, h4]
theorem results5 {fn : Func} {p : Tmp} (hr : fn.results = #[.cell p 74]) {tmps : Array Value} {W : World} {B : Nat} {v0 v1 v2 v3 v4 : Value} (hp : tmps.getD p undef = .pointer (some ⟨B, 0, none⟩))
    (h0 : W.cell? ⟨B, 0, none⟩ = some v0) (h1 : W.cell? ⟨B, 1, none⟩ = some v1) (h2 : W.cell? ⟨B, 2, none⟩ = some v2) (h3 : W.cell? ⟨B, 3, none⟩ = some v3) (h4 : W.cell? ⟨B, 4, none⟩ = some v4) :
    (results fn tmps).run Tryd.prog W = .ok (.agg #[v0, v1, v2, v3, v4]) W := by
  have hl := load5 W B v0 v1 v2 v3 v4 h0 h1 h2 h3 h4
  clear h0 h1 h2 h3 h4
  have hp' : tmps[p]?.getD undef = .pointer (some ⟨B, 0, none⟩) := by simpa using hp
  simp only [results, hr]
  simp [hp', asAddr, hl]
/-- The end of a function whose one result was stored, cell by cell, into its own block. -/
theorem ret5 {fn : Func} {p : Tmp} {R : Ending → World → Prop} {tmps : Array Value} {U : World} {B : Nat} {v0 v1 v2 v3 v4 : Value} (hr : fn.results = #[.cell p 74]) (hp : tmps.getD p undef = .pointer (some ⟨B, 0, none⟩))
    (h0 : (U.cell? ⟨B, 0, none⟩).isSome = true) (h1 : (U.cell? ⟨B, 1, none⟩).isSome = true) (h2 : (U.cell? ⟨B, 2, none⟩).isSome = true) (h3 : (U.cell? ⟨B, 3, none⟩).isSome = true) (h4 : (U.cell? ⟨B, 4, none⟩).isSome = true)
    (hR : R (.returned (.agg #[v0, v1, v2, v3, v4])) (((((U.setCell ⟨B, 0, none⟩ v0).setCell ⟨B, 1, none⟩ v1).setCell ⟨B, 2, none⟩ v2).setCell ⟨B, 3, none⟩ v3).setCell ⟨B, 4, none⟩ v4)) : bodyPost Tryd.prog fn R .ret ⟨tmps, []⟩ (((((U.setCell ⟨B, 0, none⟩ v0).setCell ⟨B, 1, none⟩ v1).setCell ⟨B, 2, none⟩ v2).setCell ⟨B, 3, none⟩ v3).setCell ⟨B, 4, none⟩ v4) := by
  obtain ⟨r0, r1, r2, r3, r4⟩ := set5 U B v0 v1 v2 v3 v4 h0 h1 h2 h3 h4
  exact bodyPost_ret (results5 hr hp r0 r1 r2 r3 r4) rfl hR
theorem field_C (x : Nat) (w : World) (hx : x < 18446744073709551616) : Calls Tryd.prog 57 #[.int .u64 x, .int .i64 26, .int .i64 6] w fun e w' => e = .returned (.int .u64 (pC x : Nat)) ∧ ∃ q, w' = w.drewN q := by
  have h := field_yes x 26 6 w hx (by omega) (by omega)
  rw [fieldN_div x 26 6 hx (by omega)] at h
  exact h
theorem field_A (x : Nat) (w : World) (hx : x < 18446744073709551616) : Calls Tryd.prog 57 #[.int .u64 x, .int .i64 22, .int .i64 4] w fun e w' => e = .returned (.int .u64 (pA x : Nat)) ∧ ∃ q, w' = w.drewN q := by
  have h := field_yes x 22 4 w hx (by omega) (by omega)
  rw [fieldN_div x 22 4 hx (by omega)] at h
  exact h
theorem field_B (x : Nat) (w : World) (hx : x < 18446744073709551616) : Calls Tryd.prog 57 #[.int .u64 x, .int .i64 18, .int .i64 4] w fun e w' => e = .returned (.int .u64 (pB x : Nat)) ∧ ∃ q, w' = w.drewN q := by
  have h := field_yes x 18 4 w hx (by omega) (by omega)
  rw [fieldN_div x 18 4 hx (by omega)] at h
  exact h
/-- The lowest four bits. -/
def low4 (x : Nat) : Nat := x % 16
theorem field_D (x : Nat) (w : World) (hx : x < 18446744073709551616) : Calls Tryd.prog 57 #[.int .u64 x, .int .i64 0, .int .i64 4] w fun e w' => e = .returned (.int .u64 (low4 x : Nat)) ∧ ∃ q, w' = w.drewN q := by
  have h := field_yes x 0 4 w hx (by omega) (by omega)
  rw [fieldN_div x 0 4 hx (by omega), Nat.pow_zero, Nat.div_one] at h
  exact h
theorem sign_16 (x : Nat) (w : World) : Calls Tryd.prog 59 #[.int .u64 x, .int .i64 16] w fun e w' => e = .returned (.int .u64 (signN x 16 : Nat)) ∧ w = w' :=
  sign_yes x 16 w (by omega) (by omega)
theorem sign_i16 (x : Nat) : IntKind.i16.wrap ((signN x 16 : Nat) : Int) = sgn (x % 65536) := by
  have h := signN16 x
  have e : ∀ z : Int, IntKind.i16.wrap z = (z + 32768) % 65536 - 32768 := fun z => by
    simp [IntKind.wrap, IntKind.signed, IntKind.bits]
    split <;> omega
  rw [e]; unfold sgn; split <;> omega

theorem fields_c (A B C N : Bool) (w : World) : (Instr.field 112 (.agg #[.bool A, .bool B, .bool C, .bool N]) 2).run Tryd.prog w = .ok (.bool C) w := by kernel_rfl
theorem parts_yes (x : Nat) (w : World) (hx : x < 4294967296) (hc : hasC (pC x) = true) :
    Calls Tryd.prog 34 #[.int .u64 x] w fun e w' => e = .returned (opV (pC x) (pA x) (pB x) (low4 x) 0) ∧ Below w.heap.size w w' := by
  have hx' : x < 18446744073709551616 := by omega
  have h1 : pC x < 64 := by unfold pC; omega
  have h2 : pA x < 16 := by unfold pA; omega
  have h3 : pB x < 16 := by unfold pB; omega
  have h4 : low4 x < 16 := by unfold low4; omega
  have HX := Lib.hid hx'
  have hF := fun A B C N w => fields_c A B C N w
  clear hx hx'
  unfold opV
  go_enter Tryd.func34, Tryd.ntmps34
  go_wp2_with fail
  refine (field_C x _ HX.out).mono ?_
  rintro e w' ⟨rfl, q1, rfl⟩
  go_wp2_with fail
  refine (field_A x _ HX.out).mono ?_
  rintro e w' ⟨rfl, q2, rfl⟩
  go_wp2_with fail
  refine (field_B x _ HX.out).mono ?_
  rintro e w' ⟨rfl, q3, rfl⟩
  go_wp2_with fail
  refine (fieldsOf_eq _ _).mono ?_
  rintro e w' ⟨rfl, rfl⟩
  go_wp2_with fail
  refine (field_D x _ HX.out).mono ?_
  rintro e w' ⟨rfl, q4, rfl⟩
  go_wp2
  refine ret5 (hr := rfl) (hp := rfl) (by simp [go_sem]) (by simp [go_sem]) (by simp [go_sem]) (by simp [go_sem]) (by simp [go_sem]) ⟨rfl, ?_⟩
  repeat (first | with_reducible exact Below.refl _ _ | with_reducible refine Below.setCell ?_ (by simp) _ | with_reducible refine below_more ?_ _ | with_reducible refine below_draws ?_ _)

theorem parts_no (x : Nat) (w : World) (hx : x < 4294967296) (hc : hasC (pC x) = false) :
    Calls Tryd.prog 34 #[.int .u64 x] w fun e w' => e = .returned (opV (pC x) (pA x) (pB x) 0 (sgn (x % 65536))) ∧ Below w.heap.size w w' := by
  have hx' : x < 18446744073709551616 := by omega
  have h1 : pC x < 64 := by unfold pC; omega
  have h2 : pA x < 16 := by unfold pA; omega
  have h3 : pB x < 16 := by unfold pB; omega
  have HX := Lib.hid hx'
  have HS := Lib.hid (sign_i16 x)
  obtain ⟨s16, hs16⟩ : ∃ s, sgn (x % 65536) = s := ⟨_, rfl⟩
  rw [hs16]
  have H16 := Lib.hid hs16
  have hF := fun A B C N w => fields_c A B C N w
  clear hx hx' hs16
  unfold opV
  go_enter Tryd.func34, Tryd.ntmps34
  go_wp2_with fail
  refine (field_C x _ HX.out).mono ?_
  rintro e w' ⟨rfl, q1, rfl⟩
  go_wp2_with fail
  refine (field_A x _ HX.out).mono ?_
  rintro e w' ⟨rfl, q2, rfl⟩
  go_wp2_with fail
  refine (field_B x _ HX.out).mono ?_
  rintro e w' ⟨rfl, q3, rfl⟩
  go_wp2_with fail
  refine (fieldsOf_eq _ _).mono ?_
  rintro e w' ⟨rfl, rfl⟩
  go_wp2_with fail
  refine (sign_16 x _).mono ?_
  rintro e w' ⟨rfl, rfl⟩
  go_wp2
  rw [HS.out, H16.out]
  refine bodyPost_ret (v := .agg #[.int .u8 (pC x), .int .u8 (pA x), .int .u8 (pB x), .int .u8 0, .int .i16 s16]) (by simp [results, Tryd.results34, go_sem]) rfl ⟨rfl, ?_⟩
  repeat (first | with_reducible exact Below.refl _ _ | with_reducible refine Below.setCell ?_ (by simp) _ | with_reducible refine below_more ?_ _ | with_reducible refine below_draws ?_ _)

theorem parts_in (x : Nat) (w : World) (hx : x < 4294967296) :
    Calls Tryd.prog 34 #[.int .u64 x] w fun e w' => e = .returned (opV (pC x) (pA x) (pB x) (pD x) (pN x)) ∧ Below w.heap.size w w' := by
  cases hc : hasC (pC x)
  · have e1 : pD x = 0 := by unfold pD; rw [hc]; rfl
    have e2 : pN x = sgn (x % 65536) := by unfold pN; rw [hc]; rfl
    rw [e1, e2]; exact parts_no x w hx hc
  · have e1 : pD x = low4 x := by unfold pD; rw [hc]; rfl
    have e2 : pN x = 0 := by unfold pN; rw [hc]; rfl
    rw [e1, e2]; exact parts_yes x w hx hc

/-! ### Decode -/
theorem parts_32 (x : Nat) (w : World) (hx : x < 4294967296) :
    Calls Tryd.prog 34 #[.int .u64 (IntKind.u64.wrap x)] w fun e w' => e = .returned (opV (pC x) (pA x) (pB x) (pD x) (pN x)) ∧ Below w.heap.size w w' := by
  rw [wrapN x (by omega)]; exact parts_in x w hx
/-- What Encode comes to. -/
def encW (c a b d : Nat) (n : Int) : Nat := if rightB c a b d n then wordN c a b d n else 0
theorem encode_in (c a b d : Nat) (n : Int) (w : World) :
    Calls Tryd.prog 35 #[.agg #[.int .u8 c, .int .u8 a, .int .u8 b, .int .u8 d, .int .i16 n]] w fun e w' => e = .returned (.tuple #[.int .u32 (encW c a b d n : Nat), .bool (rightB c a b d n)]) ∧ Below w.heap.size w w' := by
  unfold encW
  cases h : rightB c a b d n
  · exact encode_no c a b d n w h
  · exact encode_yes c a b d n w h
theorem results52 {fn : Func} {p u : Tmp} (hr : fn.results = #[.cell p 74, .tmp u]) {tmps : Array Value} {W : World} {B : Nat} {v0 v1 v2 v3 v4 : Value} (hp : tmps.getD p undef = .pointer (some ⟨B, 0, none⟩))
    (h0 : W.cell? ⟨B, 0, none⟩ = some v0) (h1 : W.cell? ⟨B, 1, none⟩ = some v1) (h2 : W.cell? ⟨B, 2, none⟩ = some v2) (h3 : W.cell? ⟨B, 3, none⟩ = some v3) (h4 : W.cell? ⟨B, 4, none⟩ = some v4) :
    (results fn tmps).run Tryd.prog W = .ok (.tuple #[.agg #[v0, v1, v2, v3, v4], tmps.getD u undef]) W := by
  have hl := load5 W B v0 v1 v2 v3 v4 h0 h1 h2 h3 h4
  clear h0 h1 h2 h3 h4
  have hp' : tmps[p]?.getD undef = .pointer (some ⟨B, 0, none⟩) := by simpa using hp
  simp only [results, hr]
  simp [hp', asAddr, hl]
theorem ret52 {fn : Func} {p u : Tmp} {R : Ending → World → Prop} {tmps : Array Value} {U : World} {B : Nat} {v0 v1 v2 v3 v4 : Value} (hr : fn.results = #[.cell p 74, .tmp u]) (hp : tmps.getD p undef = .pointer (some ⟨B, 0, none⟩))
    (h0 : (U.cell? ⟨B, 0, none⟩).isSome = true) (h1 : (U.cell? ⟨B, 1, none⟩).isSome = true) (h2 : (U.cell? ⟨B, 2, none⟩).isSome = true) (h3 : (U.cell? ⟨B, 3, none⟩).isSome = true) (h4 : (U.cell? ⟨B, 4, none⟩).isSome = true)
    (hR : R (.returned (.tuple #[.agg #[v0, v1, v2, v3, v4], tmps.getD u undef])) (((((U.setCell ⟨B, 0, none⟩ v0).setCell ⟨B, 1, none⟩ v1).setCell ⟨B, 2, none⟩ v2).setCell ⟨B, 3, none⟩ v3).setCell ⟨B, 4, none⟩ v4)) : bodyPost Tryd.prog fn R .ret ⟨tmps, []⟩ (((((U.setCell ⟨B, 0, none⟩ v0).setCell ⟨B, 1, none⟩ v1).setCell ⟨B, 2, none⟩ v2).setCell ⟨B, 3, none⟩ v3).setCell ⟨B, 4, none⟩ v4) := by
  obtain ⟨r0, r1, r2, r3, r4⟩ := set5 U B v0 v1 v2 v3 v4 h0 h1 h2 h3 h4
  exact bodyPost_ret (results52 hr hp r0 r1 r2 r3 r4) rfl hR
theorem decode_yes (x : Nat) (w : World) (hx : x < 4294967296) (h : isW x = true) :
    Calls Tryd.prog 23 #[.int .u32 x] w fun e w' => e = .returned (.tuple #[opV (pC x) (pA x) (pB x) (pD x) (pN x), .bool true]) ∧ Below w.heap.size w w' := by
  have HP := Lib.hid (fun W => parts_32 x W hx)
  unfold isW at h
  simp only [Bool.and_eq_true, beq_iff_eq] at h
  obtain ⟨hr, he⟩ := h
  have hE : encW (pC x) (pA x) (pB x) (pD x) (pN x) = x := by unfold encW; rw [hr]; exact he
  have HE := Lib.hid (fun W => encode_in (pC x) (pA x) (pB x) (pD x) (pN x) W)
  rw [hE, hr] at HE
  clear he hr hE hx
  have hne : ((x : Int) != (x : Int)) = false := by simp
  unfold opV at HP ⊢
  generalize pC x = c at *
  generalize pA x = a at *
  generalize pB x = b at *
  generalize pD x = d at *
  generalize pN x = n at *
  go_enter Tryd.func23, Tryd.ntmps23
  go_wp2_with fail
  refine (HP.out _).mono ?_
  rintro e W1 ⟨rfl, hb1⟩
  have hl := lies_new W1 c a b d n 74
  go_wp2_with fail
  refine (HE.out _).mono ?_
  rintro e W2 ⟨rfl, hb2⟩
  obtain ⟨k0, k1, k2, k3, k4, kl, kf⟩ := hl.later hb2
  obtain ⟨z0, z1, z2, z3, z4, zl, zf⟩ := (((lies_zero w 74).later hb1).later (below_new _ _)).later hb2
  have hb : Below w.heap.size w W2 := below_up (below_more (below_up (below_new w _) hb1) _) hb2
  go_wp2
  refine ret52 (hr := rfl) (hp := rfl) (by simp [z0]) (by simp [z1]) (by simp [z2]) (by simp [z3]) (by simp [z4]) ⟨rfl, ?_⟩
  repeat (first | with_reducible exact hb | with_reducible refine Below.setCell ?_ (by simp) _)
theorem decode_no (x : Nat) (w : World) (hx : x < 4294967296) (h : isW x = false) :
    Calls Tryd.prog 23 #[.int .u32 x] w fun e w' => e = .returned (.tuple #[opV 0 0 0 0 0, .bool false]) ∧ Below w.heap.size w w' := by
  have HP := Lib.hid (fun W => parts_32 x W hx)
  have hE : rightB (pC x) (pA x) (pB x) (pD x) (pN x) = false ∨ (rightB (pC x) (pA x) (pB x) (pD x) (pN x) = true ∧ (((encW (pC x) (pA x) (pB x) (pD x) (pN x) : Nat) : Int) != (x : Int)) = true) := by
    unfold isW at h
    cases hr : rightB (pC x) (pA x) (pB x) (pD x) (pN x)
    · exact .inl rfl
    · refine .inr ⟨rfl, ?_⟩
      unfold encW
      rw [hr] at h ⊢
      simp only [Bool.true_and, beq_eq_false_iff_ne, ne_eq] at h
      simp only [if_true, bne_iff_ne, ne_eq]
      omega
  have HE := Lib.hid (fun W => encode_in (pC x) (pA x) (pB x) (pD x) (pN x) W)
  clear h hx
  generalize encW (pC x) (pA x) (pB x) (pD x) (pN x) = v at *
  generalize rightB (pC x) (pA x) (pB x) (pD x) (pN x) = r at *
  unfold opV at HP ⊢
  generalize pC x = c at *
  generalize pA x = a at *
  generalize pB x = b at *
  generalize pD x = d at *
  generalize pN x = n at *
  rcases hE with rfl | ⟨rfl, hne⟩
  all_goals
    go_enter Tryd.func23, Tryd.ntmps23
    go_wp2_with fail
    refine (HP.out _).mono ?_
    rintro e W1 ⟨rfl, hb1⟩
    have hl := lies_new W1 c a b d n 74
    go_wp2_with fail
    refine (HE.out _).mono ?_
    rintro e W2 ⟨rfl, hb2⟩
    obtain ⟨k0, k1, k2, k3, k4, kl, kf⟩ := hl.later hb2
    obtain ⟨z0, z1, z2, z3, z4, zl, zf⟩ := (((lies_zero w 74).later hb1).later (below_new _ _)).later hb2
    have hb : Below w.heap.size w W2 := below_up (below_more (below_up (below_new w _) hb1) _) hb2
    go_wp2
    refine ret52 (hr := rfl) (hp := rfl) (by simp [z0]) (by simp [z1]) (by simp [z2]) (by simp [z3]) (by simp [z4]) ⟨rfl, ?_⟩
    repeat (first | with_reducible exact hb | with_reducible refine Below.setCell ?_ (by simp) _)
end Go.Proofs.YtpbjfjedgcabhaaDoor
