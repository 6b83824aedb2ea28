/-
  PROVED: for every instruction o and every number how the law CodeRights returns true (code.Right tells which instructions may be, as the document's fields say; the document's example holds), and the arguments read as they did. No condition.
-/
import Derived.Test.YtllgmiabidnpjaaRows
import Derived.Test.YtllgmiabidnpjaaCL
import Derived.WalkKit
import Derived.ProofKit
import Derived.OpenShut
import Derived.ShutString
import Derived.ChangeOld
import Derived.Below
namespace Go.Proofs.Ytllgmiabidnpjaa.codeRights
open Go.Proofs.Ytllgmiabidnpjaa Go.Proofs.Ytllgmiabidnpjaa.WM Go.Proofs.Ytllgmiabidnpjaa.CM
open Go.ChangeShapes Go.WideShapes Go.ChangeAt Go.RowKit
open Go.ChangeMaps (open_string shut_string)
set_option linter.unusedVariables false

theorem own : ownKnob Try.prog.godebug = none := by kernel_rfl
theorem laidOut : laidOutB Try.prog = true := by kernel_rfl
theorem wf_u8 {a : Int} (h : (Lit.int .u8 a).wf = true) : ∃ n : Nat, a = n ∧ n < 256 := by
  simp only [Lit.wf, IntKind.min, IntKind.max, IntKind.signed, IntKind.bits, Bool.and_eq_true] at h
  simp at h
  exact ⟨a.toNat, by omega, by omega⟩
theorem wf_i16 {a : Int} (h : (Lit.int .i16 a).wf = true) : -32768 ≤ a ∧ a ≤ 32767 := by
  simp only [Lit.wf, IntKind.min, IntKind.max, IntKind.signed, IntKind.bits, Bool.and_eq_true, decide_eq_true_eq] at h
  simp at h
  omega
theorem array24 {α : Type} {cs : Array α} (h : cs.size = 5) : ∃ v0 v1 v2 v3 v4, cs = #[v0, v1, v2, v3, v4] := by
  obtain ⟨l⟩ := cs
  match l, h with
  | [v0, v1, v2, v3, v4], _ => exact ⟨v0, v1, v2, v3, v4, rfl⟩
theorem open24 {H : Type} {enc : TypeId × Value → H} {w : World} {base : Nat} {spare : Nat → Bool} {held : Bool} {r : Reach} {b0 : Nat} {v : Value} {d : DataW H} {p : List MemPlace}
    (hv : Value.okWide Try.prog w r b0 24 v) (h : DataW.Trod enc Try.prog w base spare held 24 v d p) :
    ∃ (v0 : Int) (v1 : Int) (v2 : Int) (v3 : Int) (v4 : Int), v = .agg #[.int .u8 v0, .int .u8 v1, .int .u8 v2, .int .u8 v3, .int .i16 v4] ∧ (Lit.int .u8 v0).wf = true ∧ (Lit.int .u8 v1).wf = true ∧ (Lit.int .u8 v2).wf = true ∧ (Lit.int .u8 v3).wf = true ∧ (Lit.int .i16 v4).wf = true := by
  obtain ⟨cs, rfl, hsz⟩ := okWide_struct Try.underlying24 hv
  obtain ⟨c0, c1, c2, c3, c4, rfl⟩ := array24 (hsz.trans (by kernel_rfl))
  obtain ⟨fuel, hf⟩ := h
  obtain ⟨xs, m, _, _, _, hlen, hall⟩ := DataW.trod_struct Try.underlying24 hf
  obtain ⟨y0, hy0⟩ : ∃ y, xs[0]? = some y := ⟨_, List.getElem?_eq_getElem (by rw [hlen]; decide)⟩
  have t0 : DataW.trod enc Try.prog w base spare held m 5 (List.take (Try.prog.cellsOf 5) (List.drop 0 (Value.agg #[c0, c1, c2, c3, c4]).cells.toList)) = some y0 := (hall 0 _ rfl).trans hy0
  rw [show Try.prog.cellsOf 5 = 1 from by kernel_rfl] at t0
  obtain ⟨z0, e0, _, w0⟩ := DataW.trod_int Try.underlying5 t0
  simp [Value.cells] at e0
  obtain ⟨y1, hy1⟩ : ∃ y, xs[1]? = some y := ⟨_, List.getElem?_eq_getElem (by rw [hlen]; decide)⟩
  have t1 : DataW.trod enc Try.prog w base spare held m 5 (List.take (Try.prog.cellsOf 5) (List.drop 1 (Value.agg #[c0, c1, c2, c3, c4]).cells.toList)) = some y1 := (hall 1 _ rfl).trans hy1
  rw [show Try.prog.cellsOf 5 = 1 from by kernel_rfl] at t1
  obtain ⟨z1, e1, _, w1⟩ := DataW.trod_int Try.underlying5 t1
  simp [Value.cells] at e1
  obtain ⟨y2, hy2⟩ : ∃ y, xs[2]? = some y := ⟨_, List.getElem?_eq_getElem (by rw [hlen]; decide)⟩
  have t2 : DataW.trod enc Try.prog w base spare held m 5 (List.take (Try.prog.cellsOf 5) (List.drop 2 (Value.agg #[c0, c1, c2, c3, c4]).cells.toList)) = some y2 := (hall 2 _ rfl).trans hy2
  rw [show Try.prog.cellsOf 5 = 1 from by kernel_rfl] at t2
  obtain ⟨z2, e2, _, w2⟩ := DataW.trod_int Try.underlying5 t2
  simp [Value.cells] at e2
  obtain ⟨y3, hy3⟩ : ∃ y, xs[3]? = some y := ⟨_, List.getElem?_eq_getElem (by rw [hlen]; decide)⟩
  have t3 : DataW.trod enc Try.prog w base spare held m 5 (List.take (Try.prog.cellsOf 5) (List.drop 3 (Value.agg #[c0, c1, c2, c3, c4]).cells.toList)) = some y3 := (hall 3 _ rfl).trans hy3
  rw [show Try.prog.cellsOf 5 = 1 from by kernel_rfl] at t3
  obtain ⟨z3, e3, _, w3⟩ := DataW.trod_int Try.underlying5 t3
  simp [Value.cells] at e3
  obtain ⟨y4, hy4⟩ : ∃ y, xs[4]? = some y := ⟨_, List.getElem?_eq_getElem (by rw [hlen]; decide)⟩
  have t4 : DataW.trod enc Try.prog w base spare held m 22 (List.take (Try.prog.cellsOf 22) (List.drop 4 (Value.agg #[c0, c1, c2, c3, c4]).cells.toList)) = some y4 := (hall 4 _ rfl).trans hy4
  rw [show Try.prog.cellsOf 22 = 1 from by kernel_rfl] at t4
  obtain ⟨z4, e4, _, w4⟩ := DataW.trod_int Try.underlying22 t4
  simp [Value.cells] at e4
  subst e0 e1 e2 e3 e4
  exact ⟨z0, z1, z2, z3, z4, rfl, w0, w1, w2, w3, w4⟩

/-! ### the walk -/
set_option maxRecDepth 100000
theorem lies_put {W : World} {B c a b d : Nat} {n : Int} (h : Lies W B c a b d n) (c' a' b' d' : Nat) (n' : Int) :
    Lies (((((W.setCell ⟨B, 0, none⟩ (.int .u8 c')).setCell ⟨B, 1, none⟩ (.int .u8 a')).setCell ⟨B, 2, none⟩ (.int .u8 b')).setCell ⟨B, 3, none⟩ (.int .u8 d')).setCell ⟨B, 4, none⟩ (.int .i16 n')) B c' a' b' d' n' := by
  obtain ⟨r0, r1, r2, r3, r4⟩ := set5 W B (.int .u8 c') (.int .u8 a') (.int .u8 b') (.int .u8 d') (.int .i16 n') (by simp [h.k0]) (by simp [h.k1]) (by simp [h.k2]) (by simp [h.k3]) (by simp [h.k4])
  exact ⟨r0, r1, r2, r3, r4, by simp [World.setCell]; exact h.lt, fun i => by simp [h.fz i]⟩
theorem lies_set4 {W : World} {B c a b d : Nat} {n : Int} (h : Lies W B c a b d n) (m : Int) : Lies (W.setCell ⟨B, 4, none⟩ (.int .i16 m)) B c a b d m :=
  ⟨(set_other _ _ _ _ _ (by decide)).trans h.k0, (set_other _ _ _ _ _ (by decide)).trans h.k1, (set_other _ _ _ _ _ (by decide)).trans h.k2, (set_other _ _ _ _ _ (by decide)).trans h.k3, set_same _ _ _ _ (by simp [h.k4]), by simp [World.setCell]; exact h.lt, fun i => by simp [h.fz i]⟩
theorem below_put {w W : World} {B : Nat} (h : Below w.heap.size w W) (hB : w.heap.size ≤ B) {v0 v1 v2 v3 v4 : Value} :
    Below w.heap.size w (((((W.setCell ⟨B, 0, none⟩ v0).setCell ⟨B, 1, none⟩ v1).setCell ⟨B, 2, none⟩ v2).setCell ⟨B, 3, none⟩ v3).setCell ⟨B, 4, none⟩ v4) :=
  ((((h.setCell hB _).setCell hB _).setCell hB _).setCell hB _).setCell hB _
theorem walk (p_o_Code : Nat) (hp_o_Code : p_o_Code < 256) (p_o_A : Nat) (hp_o_A : p_o_A < 256) (p_o_B : Nat) (hp_o_B : p_o_B < 256) (p_o_C : Nat) (hp_o_C : p_o_C < 256) (p_o_N : Int) (hp_o_N : -32768 ≤ p_o_N ∧ p_o_N ≤ 32767) (p_how : Nat) (hp_how : p_how < 256) (w : World)  :
    Calls Try.prog 3 #[.agg #[.int .u8 p_o_Code, .int .u8 p_o_A, .int .u8 p_o_B, .int .u8 p_o_C, .int .i16 p_o_N], .int .u8 p_how] w fun e w' => e = .returned (.bool true) ∧ Below w.heap.size w w' := by
  by_cases h1 : p_how < 64
  · have k1 : ¬ 64 ≤ (p_how : Int) := by omega
    have k2 : ¬ 192 ≤ (p_how : Int) := by omega
    have hk := fun s => (lies_new w p_o_Code p_o_A p_o_B p_o_C p_o_N 24).later (below_later _ s)
    have q0 := fun s => (hk s).k0
    have q1 := fun s => (hk s).k1
    have q2 := fun s => (hk s).k2
    have q3 := fun s => (hk s).k3
    have q4 := fun s => (hk s).k4
    have HR := Lib.hid (fun W => right_in p_o_Code p_o_A p_o_B p_o_C p_o_N W)
    have HS := Lib.hid (fun W => refright_in p_o_Code p_o_A p_o_B p_o_C p_o_N W)
    unfold opV at HR
    clear hk h1 hp_how hp_o_Code hp_o_A hp_o_B hp_o_C hp_o_N
    go_enter Try.func3, Try.ntmps3
    go_wp2_with fail
    refine wp_region_later (by kernel_rfl) (by kernel_rfl) ?_
    repeat (go_big_quiet_step (first | (go_at_call 9; exact later_left (awake2_in _)) | (go_at_call 10; exact later_left (HR.out _)) | (go_at_call 11; exact later_left (HS.out _))))
    refine wpQuiet_nil ?_
    rintro _ ⟨s, rfl⟩
    go_wp2
    go_ret
    exact ⟨rfl, below_up (below_new w _) (below_later _ s)⟩
  · have HN := Lib.hid (fun W => near_in p_o_Code p_o_A p_o_B p_o_C p_o_N W)
    unfold opV at HN
    have k1 : 64 ≤ (p_how : Int) := by omega
    have hl := lies_new w p_o_Code p_o_A p_o_B p_o_C p_o_N 24
    by_cases h2 : p_how < 192
    · have k2 : ¬ 192 ≤ (p_how : Int) := by omega
      clear h1 h2 hp_how hp_o_Code hp_o_A hp_o_B hp_o_C hp_o_N
      generalize nC p_o_Code = c at *
      generalize nA p_o_Code p_o_A = a at *
      generalize nB p_o_Code p_o_B = b at *
      generalize nD p_o_Code p_o_C = d at *
      generalize nN p_o_Code p_o_N = n at *
      have HR := Lib.hid (fun W => right_in c a b d n W)
      have HS := Lib.hid (fun W => refright_in c a b d n W)
      unfold opV at HR
      go_enter Try.func3, Try.ntmps3
      go_wp2_with fail
      refine (HN.out _).mono ?_
      rintro e W1 ⟨rfl, g1⟩
      have l1 := hl.later g1
      have hk := fun s => (lies_put l1 c a b d n).later (below_later _ s)
      have q0 := fun s => (hk s).k0
      have q1 := fun s => (hk s).k1
      have q2 := fun s => (hk s).k2
      have q3 := fun s => (hk s).k3
      have q4 := fun s => (hk s).k4
      obtain ⟨z0, z1, z2, z3, z4, zl, zf⟩ := l1
      have g2 : Below w.heap.size w W1 := below_up (below_new w _) g1
      clear hk hl g1
      go_wp2_with fail
      refine wp_region_later (by kernel_rfl) (by kernel_rfl) ?_
      repeat (go_big_quiet_step (first | (go_at_call 9; exact later_left (awake2_in _)) | (go_at_call 10; exact later_left (HR.out _)) | (go_at_call 11; exact later_left (HS.out _))))
      refine wpQuiet_nil ?_
      rintro _ ⟨s, rfl⟩
      go_wp2
      go_ret
      exact ⟨rfl, below_up (below_put g2 (Nat.le_refl _)) (below_later _ s)⟩
    · have k2 : 192 ≤ (p_how : Int) := by omega
      clear h1 h2 hp_how hp_o_Code hp_o_A hp_o_B hp_o_C hp_o_N
      generalize nC p_o_Code = c at *
      generalize nA p_o_Code p_o_A = a at *
      generalize nB p_o_Code p_o_B = b at *
      generalize nD p_o_Code p_o_C = d at *
      generalize nN p_o_Code p_o_N = n at *
      have HR := Lib.hid (fun W => right_in c a b d (IntKind.i16.wrap (n + 1)) W)
      have HS := Lib.hid (fun W => refright_in c a b d (IntKind.i16.wrap (n + 1)) W)
      unfold opV at HR
      go_enter Try.func3, Try.ntmps3
      go_wp2_with fail
      refine (HN.out _).mono ?_
      rintro e W1 ⟨rfl, g1⟩
      have l1 := hl.later g1
      have hk := fun s => (lies_set4 (lies_put l1 c a b d n) (IntKind.i16.wrap (n + 1))).later (below_later _ s)
      have q0 := fun s => (hk s).k0
      have q1 := fun s => (hk s).k1
      have q2 := fun s => (hk s).k2
      have q3 := fun s => (hk s).k3
      have q4 := fun s => (hk s).k4
      obtain ⟨z0, z1, z2, z3, z4, zl, zf⟩ := l1
      have g2 : Below w.heap.size w W1 := below_up (below_new w _) g1
      clear hk hl g1
      go_wp2_with fail
      refine wp_region_later (by kernel_rfl) (by kernel_rfl) ?_
      repeat (go_big_quiet_step (first | (go_at_call 9; exact later_left (awake2_in _)) | (go_at_call 10; exact later_left (HR.out _)) | (go_at_call 11; exact later_left (HS.out _))))
      refine wpQuiet_nil ?_
      rintro _ ⟨s, rfl⟩
      go_wp2
      go_ret
      exact ⟨rfl, below_up ((below_put g2 (Nat.le_refl _)).setCell (Nat.le_refl _) _) (below_later _ s)⟩

/-! ### the row's step -/
set_option maxRecDepth 100000 in
theorem lifted (os : Os) (started : os.Started) (H : Type) (enc : TypeId × Value → H) :
    ReturnsInHanded {} Try.checked os 3 .any (Rows.codeRightsSpec.pre6 enc Try.prog Try.f3 Rows.codeRightsRow.domain false) (Rows.codeRightsSpec.post enc Try.prog Try.f3 false true false false) := by
  refine returnsInHanded_of_change (C := Try.checked) own started (by kernel_rfl) Try.func3
    (ChangeSpec.witness6 (enc := enc) (C := Try.checked) false ⟨#[], #[.agg #[.int .u8 0, .int .u8 0, .int .u8 0, .int .u8 0, .int .i16 0], .int .u8 0], []⟩ 8 (by kernel_rfl) (by kernel_rfl) (by kernel_rfl) (by kernel_rfl)) ?_
  intro W base args ds gs before hval0 hW hcnd _
  have hval : ∀ (j : Nat) t v, Try.f3.params[j]? = some t → args[j]? = some v → Value.okWide Try.prog W .any base t v := hval0
  have hW' := hW
  obtain ⟨p, q, hA0, hV, rfl, hfz, hnd⟩ := hW
  have hA : DataW.TrodAll enc Try.prog W 0 (fun _ => true) true Try.f3.params.toList args.toList ds p := hA0
  rw [Try.params3] at hA hval
  obtain ⟨v0, vs0, d0, ds0, p0, q0, hargs, rfl, rfl, h0, r0⟩ := trodAll_cons hA
  obtain ⟨v1, vs1, d1, ds1, p1, q1, rfl, rfl, rfl, h1, r1⟩ := trodAll_cons r0
  obtain ⟨rfl, rfl, rfl⟩ := trodAll_nil r1
  obtain rfl : args = #[v0, v1] := by cases args; simp_all
  obtain ⟨rfl, rfl⟩ := trodVars_none hV
  have k0 := h0
  have lt0 : ∀ x ∈ p0, x.block < W.heap.size := by obtain ⟨m, hm⟩ := k0; exact DataW.trod_lt m _ _ _ hm
  obtain ⟨x0_0, x0_1, x0_2, x0_3, x0_4, rfl, w0_0, w0_1, w0_2, w0_3, w0_4⟩ := open24 (hval 0 24 v0 rfl rfl) h0
  obtain ⟨n0_0, rfl, b0_0⟩ := wf_u8 w0_0
  obtain ⟨n0_1, rfl, b0_1⟩ := wf_u8 w0_1
  obtain ⟨n0_2, rfl, b0_2⟩ := wf_u8 w0_2
  obtain ⟨n0_3, rfl, b0_3⟩ := wf_u8 w0_3
  have b0_4 := wf_i16 w0_4
  obtain ⟨a1, rfl, rfl, rfl, w1⟩ := open_int Try.underlying5 (hval 1 5 v1 rfl rfl) h1
  obtain ⟨n1, rfl, b1⟩ := wf_u8 w1
  clear hA0 hval0
  refine (walk n0_0 b0_0 n0_1 b0_1 n0_2 b0_2 n0_3 b0_3 x0_4 b0_4 n1 b1 W ).mono fun e W' ⟨he, bel⟩ => ?_
  subst he
  exact ⟨_, rfl, _, _, _, [], _, [], hW', trodAll_mk1 (shut_bool Try.underlying4 _), (trodAll_cons_mk (Below.trod laidOut (by kernel_rfl) (of_decide_eq_true (by kernel_rfl)) k0 bel lt0) (trodAll_cons_mk (shut_int Try.underlying5 w1) trodAll_mk0)), rfl, bel.frame _, fun h => by cases h⟩

theorem over : Rows.codeRightsRow.holds Try.pinned (OpenSpec.ofChange Rows.codeRightsSpec) :=
  OpenClaim.holds_of_wide 3 Try.f3 rfl rfl rfl rfl rfl rfl rfl ⟨rfl, rfl, rfl, rfl, rfl⟩ rfl rfl rfl rfl rfl (by kernel_rfl) Try.func3 (by kernel_rfl)
    (of_decide_eq_true (by kernel_rfl)) (by unfold Func.isWrapper; first | (rw [if_pos (by decide +kernel)]; kernel_rfl) | (rw [if_neg (by decide +kernel)]; exact ⟨rfl, rfl⟩))
    (fun os started H enc _ => lifted os started H enc)

/-- THE STATEMENT -/
theorem proved : Rows.CodeRightsSaid := over
#print axioms proved
end Go.Proofs.Ytllgmiabidnpjaa.codeRights
