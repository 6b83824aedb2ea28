/-
  Contract of table.Unpack: what any word is read as, in either form.
-/
import Derived.Test.YtepcijkmecoofaaEP
namespace Go.Proofs.Ytepcijkmecoofaa
open Go.ChangeShapes Go.WideShapes Go.ChangeAt Go.RowKit
open WM EM
set_option maxRecDepth 100000

theorem unpack_zero (form : Nat) (w : World) (hform : form = 1 ∨ form = 2) :
    Calls Try.prog 14 #[.int .i64 form, .int .u64 0] w fun e w' => e = .returned (.tuple #[.agg #[.bool false, .int .i64 0, .bool false], .bool true]) ∧ Below w.heap.size w w' := by
  have HL : ∃ a b c d, ∀ W, Calls Try.prog 23 #[.int .i64 form] W fun e w' => e = .returned (.tuple #[.agg #[.int .i64 a, .int .i64 b, .int .i64 c, .int .u64 d], .bool true]) ∧ Below W.heap.size W w' := by
    rcases hform with rfl | rfl
    · exact ⟨_, _, _, _, layout1⟩
    · exact ⟨_, _, _, _, layout2⟩
  obtain ⟨a, b, c, d, HL⟩ := HL
  have HL' := Lib.hid HL
  clear HL hform
  have hl := l3_new w (.bool false) (.int .i64 0) (.bool false) 31
  have hw := below_new w (.cells #[.bool false, .int .i64 0, .bool false] 31)
  go_enter Try.func14, Try.ntmps14
  go_wp2_with fail
  refine (HL'.out _).mono ?_
  rintro e W1 ⟨rfl, hb1⟩
  obtain ⟨k0, k1, k2, kl, kf⟩ := (hl.later hb1).later (below_new _ (.cells #[.int .i64 a, .int .i64 b, .int .i64 c, .int .u64 d] 64))
  have b1 := below_more (below_up hw hb1) (.cells #[.int .i64 a, .int .i64 b, .int .i64 c, .int .u64 d] 64)
  clear hl hw hb1
  go_wp2
  refine ret32 (hr := rfl) (hp := rfl) (by simp [k0]) (by simp [k1]) (by simp [k2]) ⟨rfl, ?_⟩
  repeat (first | with_reducible exact b1 | with_reducible refine Below.setCell ?_ (by simp) _)
theorem unpack_form (form : Int) (h1 : form ≠ 1) (h2 : form ≠ 2) (x : Int) (w : World) :
    Calls Try.prog 14 #[.int .i64 form, .int .u64 x] w fun e w' => e = .returned (.tuple #[.agg #[.bool false, .int .i64 0, .bool false], .bool false]) ∧ Below w.heap.size w w' := by
  have HL' := Lib.hid (fun W => layoutX form h1 h2 W)
  clear h1 h2
  have hl := l3_new w (.bool false) (.int .i64 0) (.bool false) 31
  have hw := below_new w (.cells #[.bool false, .int .i64 0, .bool false] 31)
  go_enter Try.func14, Try.ntmps14
  go_wp2_with fail
  refine (HL'.out _).mono ?_
  rintro e W1 ⟨rfl, hb1⟩
  obtain ⟨k0, k1, k2, kl, kf⟩ := (hl.later hb1).later (below_new _ (.cells #[.int .i64 0, .int .i64 0, .int .i64 0, .int .u64 0] 64))
  have b1 := below_more (below_up hw hb1) (.cells #[.int .i64 0, .int .i64 0, .int .i64 0, .int .u64 0] 64)
  clear hl hw hb1
  go_wp2
  refine ret32 (hr := rfl) (hp := rfl) (by simp [k0]) (by simp [k1]) (by simp [k2]) ⟨rfl, ?_⟩
  repeat (first | with_reducible exact b1 | with_reducible refine Below.setCell ?_ (by simp) _)

/-- The two calls of Field. -/
structure Two (fa wa : Int) (t : Int) (x : Nat) (f : Nat) (wr : Bool) : Prop where
  ex : ∃ p q : Nat, (∀ W, Calls Try.prog 24 #[.int .u64 x, .int .i64 fa, .int .i64 16] W fun e w' => e = .returned (.int .u64 (p : Nat)) ∧ ∃ n, w' = W.drewN n) ∧
    (∀ W, Calls Try.prog 24 #[.int .u64 x, .int .i64 wa, .int .i64 1] W fun e w' => e = .returned (.int .u64 (q : Nat)) ∧ ∃ n, w' = W.drewN n) ∧
    bits .xor .u64 (p : Int) t = (f : Int) ∧ ((q : Int) == 1) = wr
theorem two1 (x : Nat) (hx : x < 18446744073709551616) : Two 8 1 0 x (fr 1 x) (wrB 1 x) := by
  refine ⟨x / 256 % 65536, x / 2 % 2, fun W => ?_, fun W => ?_, ?_, ?_⟩
  · have h := field_yes x 8 16 W hx (by omega) (by omega)
    rw [field_div x 8 16 hx (by omega)] at h
    exact h
  · have h := field_yes x 1 1 W hx (by omega) (by omega)
    rw [field_div x 1 1 hx (by omega)] at h
    exact h
  · rw [xor0 _ (by omega)]; rfl
  · unfold wrB
    rw [if_pos rfl]
    by_cases h : x / 2 % 2 = 1
    · simp [h]
    · rw [beq_eq_false_iff_ne.2 h, beq_eq_false_iff_ne.2 (by omega)]
theorem two2 (x : Nat) (hx : x < 18446744073709551616) : Two 0 62 65535 x (fr 2 x) (wrB 2 x) := by
  refine ⟨x % 65536, x / 4611686018427387904 % 2, fun W => ?_, fun W => ?_, ?_, ?_⟩
  · have h := field_yes x 0 16 W hx (by omega) (by omega)
    rw [field_div x 0 16 hx (by omega), Nat.pow_zero, Nat.div_one] at h
    exact h
  · have h := field_yes x 62 1 W hx (by omega) (by omega)
    rw [field_div x 62 1 hx (by omega)] at h
    exact h
  · rw [xor1 _ (by omega)]; rfl
  · unfold wrB
    rw [if_neg (by decide)]
    by_cases h : x / 4611686018427387904 % 2 = 1
    · simp [h]
    · rw [beq_eq_false_iff_ne.2 h, beq_eq_false_iff_ne.2 (by omega)]

/-! What stands behind the making of an entry, in whatever order. -/
theorem stored (W : World) (v0 v1 v2 : Value) (o : TypeId) :
    (((W.alloc (.cells #[.bool false, .int .i64 0, .bool false] o)).setCell ⟨W.heap.size, 0, none⟩ v0).setCell ⟨W.heap.size, 1, none⟩ v1).setCell ⟨W.heap.size, 2, none⟩ v2 = W.alloc (.cells #[v0, v1, v2] o) := by
  rw [World.setCell_alloc_new, World.setCell_alloc_new, World.setCell_alloc_new]; rfl
theorem storedA (W : World) (a : Nat) (v0 v1 v2 : Value) (o : TypeId) :
    ((((W.drewN a).alloc (.cells #[.bool false, .int .i64 0, .bool false] o)).setCell ⟨W.heap.size, 0, none⟩ v0).setCell ⟨W.heap.size, 1, none⟩ v1).setCell ⟨W.heap.size, 2, none⟩ v2 = (W.alloc (.cells #[v0, v1, v2] o)).drewN a :=
  stored (W.drewN a) v0 v1 v2 o
theorem storedC (W : World) (a : Nat) (v0 v1 v2 : Value) (o : TypeId) :
    ((((W.alloc (.cells #[.bool false, .int .i64 0, .bool false] o)).drewN a).setCell ⟨W.heap.size, 0, none⟩ v0).setCell ⟨W.heap.size, 1, none⟩ v1).setCell ⟨W.heap.size, 2, none⟩ v2 = (W.alloc (.cells #[v0, v1, v2] o)).drewN a :=
  stored (W.drewN a) v0 v1 v2 o
theorem storedB (W : World) (a b : Nat) (v0 v1 v2 : Value) (o : TypeId) :
    (((((W.drewN a).alloc (.cells #[.bool false, .int .i64 0, .bool false] o)).drewN b).setCell ⟨W.heap.size, 0, none⟩ v0).setCell ⟨W.heap.size, 1, none⟩ v1).setCell ⟨W.heap.size, 2, none⟩ v2 = (W.alloc (.cells #[v0, v1, v2] o)).drewN (a + b) := by
  exact (storedC (W.drewN a) b v0 v1 v2 o).trans (by show ((W.alloc (.cells #[v0, v1, v2] o)).drewN a).drewN b = _; rw [World.drewN_drewN])
set_option maxHeartbeats 2000000 in
theorem unpack_some (form fa wa ta t : Int) (x f : Nat) (wr : Bool) (z : Nat) (w : World) (hx : x ≠ 0) (hf : f < 65536)
    (HL : ∀ W, Calls Try.prog 23 #[.int .i64 form] W fun e w' => e = .returned (.tuple #[.agg #[.int .i64 ta, .int .i64 wa, .int .i64 fa, .int .u64 t], .bool true]) ∧ Below W.heap.size W w')
    (H2 : Two fa wa t x f wr)
    (HP : ∀ W, Calls Try.prog 15 #[.int .i64 form, .agg #[.bool true, .int .i64 f, .bool wr]] W fun e w' => e = .returned (.int .u64 (z : Nat)) ∧ Below W.heap.size W w') (hz : z = x) :
    Calls Try.prog 14 #[.int .i64 form, .int .u64 x] w fun e w' => e = .returned (.tuple #[.agg #[.bool true, .int .i64 f, .bool wr], .bool true]) ∧ Below w.heap.size w w' := by
  obtain ⟨p, q, h1, h2, h3, h4⟩ := H2
  have h5 : IntKind.i64.wrap (f : Int) = (f : Int) := IntWalk.i64_in _ (by omega)
  have t2 : ((z : Int) != (x : Int)) = false := by simp; omega
  have t1 : ((x : Int) == 0) = false := by simp; omega
  have H1 := Lib.hid h1
  have H2 := Lib.hid h2
  have HL' := Lib.hid HL
  have HP' := Lib.hid HP
  clear h1 h2 HL HP hx hz
  have hl := l3_new w (.bool false) (.int .i64 0) (.bool false) 31
  have hw := below_new w (.cells #[.bool false, .int .i64 0, .bool false] 31)
  go_enter Try.func14, Try.ntmps14
  go_wp2_with fail
  refine (HL'.out _).mono ?_
  rintro e W1 ⟨rfl, hb1⟩
  obtain ⟨k0, k1, k2, kl, kf⟩ := (hl.later hb1).later (below_new _ (.cells #[.int .i64 ta, .int .i64 wa, .int .i64 fa, .int .u64 t] 64))
  obtain ⟨m0, m1, m2, m3, ml, mf⟩ := l4_new W1 (.int .i64 ta) (.int .i64 wa) (.int .i64 fa) (.int .u64 t) 64
  have b1 := below_more (below_up hw hb1) (.cells #[.int .i64 ta, .int .i64 wa, .int .i64 fa, .int .u64 t] 64)
  obtain ⟨Bl, hBl⟩ : ∃ B, W1.heap.size = B := ⟨_, rfl⟩
  clear hl hw hb1
  go_wp2_with fail
  generalize W1.alloc (.cells #[.int .i64 ta, .int .i64 wa, .int .i64 fa, .int .u64 t] 64) = W at *
  rw [hBl] at *
  clear hBl
  have z0 : ∀ n o, ((W.drewN n).alloc (.cells #[.bool false, .int .i64 0, .bool false] o)).cell? ⟨W.heap.size, 0, none⟩ = some (.bool false) := fun n o => (l3_new (W.drewN n) _ _ _ o).k0
  have z1 : ∀ n o, ((W.drewN n).alloc (.cells #[.bool false, .int .i64 0, .bool false] o)).cell? ⟨W.heap.size, 1, none⟩ = some (.int .i64 0) := fun n o => (l3_new (W.drewN n) _ _ _ o).k1
  have z2 : ∀ n o, ((W.drewN n).alloc (.cells #[.bool false, .int .i64 0, .bool false] o)).cell? ⟨W.heap.size, 2, none⟩ = some (.bool false) := fun n o => (l3_new (W.drewN n) _ _ _ o).k2
  have z3 : ∀ n o i, ((W.drewN n).alloc (.cells #[.bool false, .int .i64 0, .bool false] o)).frozen? ⟨W.heap.size, i, none⟩ = false := fun n o i => (l3_new (W.drewN n) _ _ _ o).fz i
  have ne1 : ¬ (W.heap.size = Bl) := by omega
  have ne2 : ¬ (Bl = W.heap.size) := by omega
  have y1 : ∀ n o i, ((W.drewN n).alloc (.cells #[.bool false, .int .i64 0, .bool false] o)).cell? ⟨Bl, i, none⟩ = W.cell? ⟨Bl, i, none⟩ := fun n o i => World.cell?_alloc_past _ Bl i (show Bl < (W.drewN n).heap.size from ml)
  go_region_held3 (fun w' => w'.cell? ⟨Bl, 1, none⟩ = some (.int .i64 wa) ∧ w'.cell? ⟨Bl, 2, none⟩ = some (.int .i64 fa) ∧ w'.cell? ⟨Bl, 3, none⟩ = some (.int .u64 t))
    (first
      | go_keep)
    (first
      | (go_at_call 24; with_reducible refine (H1.out _).mono ?_; rintro e w5 ⟨rfl, n5, rfl⟩)
      | (go_at_call 24; with_reducible refine (H2.out _).mono ?_; rintro e w5 ⟨rfl, n6, rfl⟩))
  all_goals
    first
      | rw [storedA]
      | rw [storedB]
      | rw [storedC]
    clear z0 z1 z2 z3 y1 ne1 ne2
    generalize 1 + n5 + n6 = nn
    have hA : L3 ((W.alloc (.cells #[.bool true, .int .i64 f, .bool wr] 31)).drewN nn) W.heap.size (.bool true) (.int .i64 f) (.bool wr) := (l3_new W _ _ _ _).later (below_draws (Below.refl _ _) nn)
    have hB : L3 ((W.alloc (.cells #[.bool true, .int .i64 f, .bool wr] 31)).drewN nn) w.heap.size (.bool false) (.int .i64 0) (.bool false) := (L3.mk k0 k1 k2 kl kf).later (below_draws (below_new W _) nn)
    have hC : Below w.heap.size w ((W.alloc (.cells #[.bool true, .int .i64 f, .bool wr] 31)).drewN nn) := below_draws (below_more b1 _) nn
    generalize (W.alloc (.cells #[.bool true, .int .i64 f, .bool wr] 31)).drewN nn = U at *
    clear k0 k1 k2 kl kf m0 m1 m2 m3 ml mf b1 h3 h4 h5 H1 H2
    generalize W.heap.size = Be at *
    obtain ⟨a0, a1, a2, al, af⟩ := hA
    go_wp2_with fail
    refine (HP'.out _).mono ?_
    rintro e W3 ⟨rfl, hb3⟩
    obtain ⟨g0, g1, g2, gl, gf⟩ := (L3.mk a0 a1 a2 al af).later hb3
    obtain ⟨d0, d1, d2, dl, df⟩ := hB.later hb3
    have hD := below_up hC hb3
    clear hb3 hC hB a0 a1 a2 al af
    go_wp2
    refine ret32 (hr := rfl) (hp := rfl) (by simp [d0]) (by simp [d1]) (by simp [d2]) ⟨rfl, ?_⟩
    repeat (first | with_reducible exact hD | with_reducible refine Below.setCell ?_ (by simp) _)
set_option maxHeartbeats 2000000 in
theorem unpack_none (form fa wa ta t : Int) (x f : Nat) (wr : Bool) (z : Nat) (w : World) (hx : x ≠ 0) (hf : f < 65536)
    (HL : ∀ W, Calls Try.prog 23 #[.int .i64 form] W fun e w' => e = .returned (.tuple #[.agg #[.int .i64 ta, .int .i64 wa, .int .i64 fa, .int .u64 t], .bool true]) ∧ Below W.heap.size W w')
    (H2 : Two fa wa t x f wr)
    (HP : ∀ W, Calls Try.prog 15 #[.int .i64 form, .agg #[.bool true, .int .i64 f, .bool wr]] W fun e w' => e = .returned (.int .u64 (z : Nat)) ∧ Below W.heap.size W w') (hz : z ≠ x) :
    Calls Try.prog 14 #[.int .i64 form, .int .u64 x] w fun e w' => e = .returned (.tuple #[.agg #[.bool false, .int .i64 0, .bool false], .bool false]) ∧ Below w.heap.size w w' := by
  obtain ⟨p, q, h1, h2, h3, h4⟩ := H2
  have h5 : IntKind.i64.wrap (f : Int) = (f : Int) := IntWalk.i64_in _ (by omega)
  have t2 : ((z : Int) != (x : Int)) = true := by simp; omega
  have t1 : ((x : Int) == 0) = false := by simp; omega
  have H1 := Lib.hid h1
  have H2 := Lib.hid h2
  have HL' := Lib.hid HL
  have HP' := Lib.hid HP
  clear h1 h2 HL HP hx hz
  have hl := l3_new w (.bool false) (.int .i64 0) (.bool false) 31
  have hw := below_new w (.cells #[.bool false, .int .i64 0, .bool false] 31)
  go_enter Try.func14, Try.ntmps14
  go_wp2_with fail
  refine (HL'.out _).mono ?_
  rintro e W1 ⟨rfl, hb1⟩
  obtain ⟨k0, k1, k2, kl, kf⟩ := (hl.later hb1).later (below_new _ (.cells #[.int .i64 ta, .int .i64 wa, .int .i64 fa, .int .u64 t] 64))
  obtain ⟨m0, m1, m2, m3, ml, mf⟩ := l4_new W1 (.int .i64 ta) (.int .i64 wa) (.int .i64 fa) (.int .u64 t) 64
  have b1 := below_more (below_up hw hb1) (.cells #[.int .i64 ta, .int .i64 wa, .int .i64 fa, .int .u64 t] 64)
  obtain ⟨Bl, hBl⟩ : ∃ B, W1.heap.size = B := ⟨_, rfl⟩
  clear hl hw hb1
  go_wp2_with fail
  generalize W1.alloc (.cells #[.int .i64 ta, .int .i64 wa, .int .i64 fa, .int .u64 t] 64) = W at *
  rw [hBl] at *
  clear hBl
  have z0 : ∀ n o, ((W.drewN n).alloc (.cells #[.bool false, .int .i64 0, .bool false] o)).cell? ⟨W.heap.size, 0, none⟩ = some (.bool false) := fun n o => (l3_new (W.drewN n) _ _ _ o).k0
  have z1 : ∀ n o, ((W.drewN n).alloc (.cells #[.bool false, .int .i64 0, .bool false] o)).cell? ⟨W.heap.size, 1, none⟩ = some (.int .i64 0) := fun n o => (l3_new (W.drewN n) _ _ _ o).k1
  have z2 : ∀ n o, ((W.drewN n).alloc (.cells #[.bool false, .int .i64 0, .bool false] o)).cell? ⟨W.heap.size, 2, none⟩ = some (.bool false) := fun n o => (l3_new (W.drewN n) _ _ _ o).k2
  have z3 : ∀ n o i, ((W.drewN n).alloc (.cells #[.bool false, .int .i64 0, .bool false] o)).frozen? ⟨W.heap.size, i, none⟩ = false := fun n o i => (l3_new (W.drewN n) _ _ _ o).fz i
  have ne1 : ¬ (W.heap.size = Bl) := by omega
  have ne2 : ¬ (Bl = W.heap.size) := by omega
  have y1 : ∀ n o i, ((W.drewN n).alloc (.cells #[.bool false, .int .i64 0, .bool false] o)).cell? ⟨Bl, i, none⟩ = W.cell? ⟨Bl, i, none⟩ := fun n o i => World.cell?_alloc_past _ Bl i (show Bl < (W.drewN n).heap.size from ml)
  go_region_held3 (fun w' => w'.cell? ⟨Bl, 1, none⟩ = some (.int .i64 wa) ∧ w'.cell? ⟨Bl, 2, none⟩ = some (.int .i64 fa) ∧ w'.cell? ⟨Bl, 3, none⟩ = some (.int .u64 t))
    (first
      | go_keep)
    (first
      | (go_at_call 24; with_reducible refine (H1.out _).mono ?_; rintro e w5 ⟨rfl, n5, rfl⟩)
      | (go_at_call 24; with_reducible refine (H2.out _).mono ?_; rintro e w5 ⟨rfl, n6, rfl⟩))
  all_goals
    first
      | rw [storedA]
      | rw [storedB]
      | rw [storedC]
    clear z0 z1 z2 z3 y1 ne1 ne2
    generalize 1 + n5 + n6 = nn
    have hA : L3 ((W.alloc (.cells #[.bool true, .int .i64 f, .bool wr] 31)).drewN nn) W.heap.size (.bool true) (.int .i64 f) (.bool wr) := (l3_new W _ _ _ _).later (below_draws (Below.refl _ _) nn)
    have hB : L3 ((W.alloc (.cells #[.bool true, .int .i64 f, .bool wr] 31)).drewN nn) w.heap.size (.bool false) (.int .i64 0) (.bool false) := (L3.mk k0 k1 k2 kl kf).later (below_draws (below_new W _) nn)
    have hC : Below w.heap.size w ((W.alloc (.cells #[.bool true, .int .i64 f, .bool wr] 31)).drewN nn) := below_draws (below_more b1 _) nn
    generalize (W.alloc (.cells #[.bool true, .int .i64 f, .bool wr] 31)).drewN nn = U at *
    clear k0 k1 k2 kl kf m0 m1 m2 m3 ml mf b1 h3 h4 h5 H1 H2
    generalize W.heap.size = Be at *
    obtain ⟨a0, a1, a2, al, af⟩ := hA
    go_wp2_with fail
    refine (HP'.out _).mono ?_
    rintro e W3 ⟨rfl, hb3⟩
    obtain ⟨g0, g1, g2, gl, gf⟩ := (L3.mk a0 a1 a2 al af).later hb3
    obtain ⟨d0, d1, d2, dl, df⟩ := hB.later hb3
    have hD := below_up hC hb3
    clear hb3 hC hB a0 a1 a2 al af
    go_wp2
    refine ret32 (hr := rfl) (hp := rfl) (by simp [d0]) (by simp [d1]) (by simp [d2]) ⟨rfl, ?_⟩
    repeat (first | with_reducible exact hD | with_reducible refine Below.setCell ?_ (by simp) _)

/-- Unpack of any word. -/
theorem unpack_yes (form x : Nat) (w : World) (hform : form = 1 ∨ form = 2) (hx : x < 18446744073709551616) (h : isT form x = true) :
    Calls Try.prog 14 #[.int .i64 form, .int .u64 x] w fun e w' => e = .returned (.tuple #[.agg #[.bool true, .int .i64 (fr form x : Nat), .bool (wrB form x)], .bool true]) ∧ Below w.heap.size w w' := by
  obtain ⟨h1, h2⟩ := isT_eq h
  rcases hform with rfl | rfl
  · exact unpack_some 1 8 1 0 0 x _ _ _ w h2 (fr_lt 1 x) layout1 (two1 x hx) (fun W => pack_in 1 _ _ W (.inl rfl) (fr_lt 1 x)) h1
  · exact unpack_some 2 0 62 63 65535 x _ _ _ w h2 (fr_lt 2 x) layout2 (two2 x hx) (fun W => pack_in 2 _ _ W (.inr rfl) (fr_lt 2 x)) h1
theorem unpack_no (form x : Nat) (w : World) (hform : form = 1 ∨ form = 2) (hx : x < 18446744073709551616) (h : isE form x = false) :
    Calls Try.prog 14 #[.int .i64 form, .int .u64 x] w fun e w' => e = .returned (.tuple #[.agg #[.bool false, .int .i64 0, .bool false], .bool false]) ∧ Below w.heap.size w w' := by
  have h2 : x ≠ 0 ∧ pk form (fr form x) (wrB form x) ≠ x := by
    unfold isE isT at h; simp at h; exact ⟨h.1, h.2 h.1⟩
  rcases hform with rfl | rfl
  · exact unpack_none 1 8 1 0 0 x _ _ _ w h2.1 (fr_lt 1 x) layout1 (two1 x hx) (fun W => pack_in 1 _ _ W (.inl rfl) (fr_lt 1 x)) h2.2
  · exact unpack_none 2 0 62 63 65535 x _ _ _ w h2.1 (fr_lt 2 x) layout2 (two2 x hx) (fun W => pack_in 2 _ _ W (.inr rfl) (fr_lt 2 x)) h2.2
end Go.Proofs.Ytepcijkmecoofaa
