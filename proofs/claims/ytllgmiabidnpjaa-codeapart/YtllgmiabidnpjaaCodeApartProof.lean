/-
  PROVED: for every two instructions a and b and either value of same the law CodeApart returns true (instructions that may be have the same word just if they are the same; the document's example holds), and the arguments read as they did. No condition.
-/
import Derived.Test.YtllgmiabidnpjaaRows
import Derived.Test.YtllgmiabidnpjaaCL
import Derived.WalkKit
import Derived.ProofKit
import Derived.OpenShut
import Derived.ShutString
import Derived.ChangeOld
import Derived.Below
namespace Go.Proofs.Ytllgmiabidnpjaa.codeApart
open Go.Proofs.Ytllgmiabidnpjaa Go.Proofs.Ytllgmiabidnpjaa.WM Go.Proofs.Ytllgmiabidnpjaa.CM
open Go.ChangeShapes Go.WideShapes Go.ChangeAt Go.RowKit
open Go.ChangeMaps (open_string shut_string)
set_option linter.unusedVariables false

theorem own : ownKnob Try.prog.godebug = none := by kernel_rfl
theorem laidOut : laidOutB Try.prog = true := by kernel_rfl
theorem wf_u8 {a : Int} (h : (Lit.int .u8 a).wf = true) : ∃ n : Nat, a = n ∧ n < 256 := by
  simp only [Lit.wf, IntKind.min, IntKind.max, IntKind.signed, IntKind.bits, Bool.and_eq_true] at h
  simp at h
  exact ⟨a.toNat, by omega, by omega⟩
theorem wf_i16 {a : Int} (h : (Lit.int .i16 a).wf = true) : -32768 ≤ a ∧ a ≤ 32767 := by
  simp only [Lit.wf, IntKind.min, IntKind.max, IntKind.signed, IntKind.bits, Bool.and_eq_true, decide_eq_true_eq] at h
  simp at h
  omega
theorem array24 {α : Type} {cs : Array α} (h : cs.size = 5) : ∃ v0 v1 v2 v3 v4, cs = #[v0, v1, v2, v3, v4] := by
  obtain ⟨l⟩ := cs
  match l, h with
  | [v0, v1, v2, v3, v4], _ => exact ⟨v0, v1, v2, v3, v4, rfl⟩
theorem open24 {H : Type} {enc : TypeId × Value → H} {w : World} {base : Nat} {spare : Nat → Bool} {held : Bool} {r : Reach} {b0 : Nat} {v : Value} {d : DataW H} {p : List MemPlace}
    (hv : Value.okWide Try.prog w r b0 24 v) (h : DataW.Trod enc Try.prog w base spare held 24 v d p) :
    ∃ (v0 : Int) (v1 : Int) (v2 : Int) (v3 : Int) (v4 : Int), v = .agg #[.int .u8 v0, .int .u8 v1, .int .u8 v2, .int .u8 v3, .int .i16 v4] ∧ (Lit.int .u8 v0).wf = true ∧ (Lit.int .u8 v1).wf = true ∧ (Lit.int .u8 v2).wf = true ∧ (Lit.int .u8 v3).wf = true ∧ (Lit.int .i16 v4).wf = true := by
  obtain ⟨cs, rfl, hsz⟩ := okWide_struct Try.underlying24 hv
  obtain ⟨c0, c1, c2, c3, c4, rfl⟩ := array24 (hsz.trans (by kernel_rfl))
  obtain ⟨fuel, hf⟩ := h
  obtain ⟨xs, m, _, _, _, hlen, hall⟩ := DataW.trod_struct Try.underlying24 hf
  obtain ⟨y0, hy0⟩ : ∃ y, xs[0]? = some y := ⟨_, List.getElem?_eq_getElem (by rw [hlen]; decide)⟩
  have t0 : DataW.trod enc Try.prog w base spare held m 5 (List.take (Try.prog.cellsOf 5) (List.drop 0 (Value.agg #[c0, c1, c2, c3, c4]).cells.toList)) = some y0 := (hall 0 _ rfl).trans hy0
  rw [show Try.prog.cellsOf 5 = 1 from by kernel_rfl] at t0
  obtain ⟨z0, e0, _, w0⟩ := DataW.trod_int Try.underlying5 t0
  simp [Value.cells] at e0
  obtain ⟨y1, hy1⟩ : ∃ y, xs[1]? = some y := ⟨_, List.getElem?_eq_getElem (by rw [hlen]; decide)⟩
  have t1 : DataW.trod enc Try.prog w base spare held m 5 (List.take (Try.prog.cellsOf 5) (List.drop 1 (Value.agg #[c0, c1, c2, c3, c4]).cells.toList)) = some y1 := (hall 1 _ rfl).trans hy1
  rw [show Try.prog.cellsOf 5 = 1 from by kernel_rfl] at t1
  obtain ⟨z1, e1, _, w1⟩ := DataW.trod_int Try.underlying5 t1
  simp [Value.cells] at e1
  obtain ⟨y2, hy2⟩ : ∃ y, xs[2]? = some y := ⟨_, List.getElem?_eq_getElem (by rw [hlen]; decide)⟩
  have t2 : DataW.trod enc Try.prog w base spare held m 5 (List.take (Try.prog.cellsOf 5) (List.drop 2 (Value.agg #[c0, c1, c2, c3, c4]).cells.toList)) = some y2 := (hall 2 _ rfl).trans hy2
  rw [show Try.prog.cellsOf 5 = 1 from by kernel_rfl] at t2
  obtain ⟨z2, e2, _, w2⟩ := DataW.trod_int Try.underlying5 t2
  simp [Value.cells] at e2
  obtain ⟨y3, hy3⟩ : ∃ y, xs[3]? = some y := ⟨_, List.getElem?_eq_getElem (by rw [hlen]; decide)⟩
  have t3 : DataW.trod enc Try.prog w base spare held m 5 (List.take (Try.prog.cellsOf 5) (List.drop 3 (Value.agg #[c0, c1, c2, c3, c4]).cells.toList)) = some y3 := (hall 3 _ rfl).trans hy3
  rw [show Try.prog.cellsOf 5 = 1 from by kernel_rfl] at t3
  obtain ⟨z3, e3, _, w3⟩ := DataW.trod_int Try.underlying5 t3
  simp [Value.cells] at e3
  obtain ⟨y4, hy4⟩ : ∃ y, xs[4]? = some y := ⟨_, List.getElem?_eq_getElem (by rw [hlen]; decide)⟩
  have t4 : DataW.trod enc Try.prog w base spare held m 22 (List.take (Try.prog.cellsOf 22) (List.drop 4 (Value.agg #[c0, c1, c2, c3, c4]).cells.toList)) = some y4 := (hall 4 _ rfl).trans hy4
  rw [show Try.prog.cellsOf 22 = 1 from by kernel_rfl] at t4
  obtain ⟨z4, e4, _, w4⟩ := DataW.trod_int Try.underlying22 t4
  simp [Value.cells] at e4
  subst e0 e1 e2 e3 e4
  exact ⟨z0, z1, z2, z3, z4, rfl, w0, w1, w2, w3, w4⟩

/-! ### the walk -/
set_option maxRecDepth 100000
theorem walk (p_a_Code : Nat) (hp_a_Code : p_a_Code < 256) (p_a_A : Nat) (hp_a_A : p_a_A < 256) (p_a_B : Nat) (hp_a_B : p_a_B < 256) (p_a_C : Nat) (hp_a_C : p_a_C < 256) (p_a_N : Int) (hp_a_N : -32768 ≤ p_a_N ∧ p_a_N ≤ 32767) (p_b_Code : Nat) (hp_b_Code : p_b_Code < 256) (p_b_A : Nat) (hp_b_A : p_b_A < 256) (p_b_B : Nat) (hp_b_B : p_b_B < 256) (p_b_C : Nat) (hp_b_C : p_b_C < 256) (p_b_N : Int) (hp_b_N : -32768 ≤ p_b_N ∧ p_b_N ≤ 32767) (p_same : Bool) (w : World)  :
    Calls Try.prog 6 #[.agg #[.int .u8 p_a_Code, .int .u8 p_a_A, .int .u8 p_a_B, .int .u8 p_a_C, .int .i16 p_a_N], .agg #[.int .u8 p_b_Code, .int .u8 p_b_A, .int .u8 p_b_B, .int .u8 p_b_C, .int .i16 p_b_N], .bool p_same] w fun e w' => e = .returned (.bool true) ∧ Below w.heap.size w w' := by
  have HA := Lib.hid (fun W => near_in p_a_Code p_a_A p_a_B p_a_C p_a_N W)
  have HB := Lib.hid (fun W => near_in p_b_Code p_b_A p_b_B p_b_C p_b_N W)
  have ra := near_right p_a_Code p_a_A p_a_B p_a_C p_a_N
  have rb := near_right p_b_Code p_b_A p_b_B p_b_C p_b_N
  have na := near_n (c := p_a_Code) hp_a_N
  have nb := near_n (c := p_b_Code) hp_b_N
  unfold opV at HA HB
  have la := lies_new w p_a_Code p_a_A p_a_B p_a_C p_a_N 24
  have lb := lies_new (w.alloc (.cells #[.int .u8 p_a_Code, .int .u8 p_a_A, .int .u8 p_a_B, .int .u8 p_a_C, .int .i16 p_a_N] 24)) p_b_Code p_b_A p_b_B p_b_C p_b_N 24
  rw [show (w.alloc (.cells #[.int .u8 p_a_Code, .int .u8 p_a_A, .int .u8 p_a_B, .int .u8 p_a_C, .int .i16 p_a_N] 24)).heap.size = w.heap.size + 1 by simp] at lb
  clear hp_a_Code hp_a_A hp_a_B hp_a_C hp_a_N hp_b_Code hp_b_A hp_b_B hp_b_C hp_b_N
  generalize nC p_a_Code = c1 at *
  generalize nA p_a_Code p_a_A = a1 at *
  generalize nB p_a_Code p_a_B = b1 at *
  generalize nD p_a_Code p_a_C = d1 at *
  generalize nN p_a_Code p_a_N = n1 at *
  generalize nC p_b_Code = c2 at *
  generalize nA p_b_Code p_b_A = a2 at *
  generalize nB p_b_Code p_b_B = b2 at *
  generalize nD p_b_Code p_b_C = d2 at *
  generalize nN p_b_Code p_b_N = n2 at *
  have HE1 := Lib.hid (fun W => encode_yes c1 a1 b1 d1 n1 W ra)
  have HE2 := Lib.hid (fun W => encode_yes c2 a2 b2 d2 n2 W rb)
  unfold opV at HE1 HE2
  have RA := Lib.hid ra
  have RB := Lib.hid rb
  have NA := Lib.hid na
  have NB := Lib.hid nb
  have HI : Hid (wordN c1 a1 b1 d1 n1 = wordN c2 a2 b2 d2 n2 → c1 = c2 ∧ a1 = a2 ∧ b1 = b2 ∧ d1 = d2 ∧ n1 = n2) := word_inj ra na rb nb
  clear ra rb na nb
  cases p_same
  · go_enter Try.func6, Try.ntmps6
    go_wp2_with fail
    refine (HA.out _).mono ?_
    rintro e W1 ⟨rfl, h1⟩
    have x1 := lies_new W1 c1 a1 b1 d1 n1 24
    have g1 : Below w.heap.size w (W1.alloc (.cells #[.int .u8 c1, .int .u8 a1, .int .u8 b1, .int .u8 d1, .int .i16 n1] 24)) := below_more (below_up (below_more (below_new w _) _) h1) _
    obtain ⟨k0, k1, k2, k3, k4, kl, kf⟩ := (lb.later h1).later (below_new W1 (.cells #[.int .u8 c1, .int .u8 a1, .int .u8 b1, .int .u8 d1, .int .i16 n1] 24))
    clear la lb h1
    go_wp2_with fail
    refine (HB.out _).mono ?_
    rintro e W2 ⟨rfl, h2⟩
    clear k0 k1 k2 k3 k4 kl kf
    have y2 := lies_new W2 c2 a2 b2 d2 n2 24
    have x2 := (x1.later h2).later (below_new W2 (.cells #[.int .u8 c2, .int .u8 a2, .int .u8 b2, .int .u8 d2, .int .i16 n2] 24))
    have g2 : Below w.heap.size w (W2.alloc (.cells #[.int .u8 c2, .int .u8 a2, .int .u8 b2, .int .u8 d2, .int .i16 n2] 24)) := below_more (below_up g1 h2) _
    clear x1 h2 g1
    obtain ⟨k0, k1, k2, k3, k4, kl, kf⟩ := x2
    go_wp2_with fail
    refine (HE1.out _).mono ?_
    rintro e W3 ⟨rfl, h3⟩
    have x3 := (Lies.mk k0 k1 k2 k3 k4 kl kf).later h3
    have y3 := y2.later h3
    have g3 := below_up g2 h3
    clear k0 k1 k2 k3 k4 kl kf y2 h3 g2
    obtain ⟨k0, k1, k2, k3, k4, kl, kf⟩ := y3
    go_wp2_with fail
    refine (HE2.out _).mono ?_
    rintro e W4 ⟨rfl, h4⟩
    have y4 := (Lies.mk k0 k1 k2 k3 k4 kl kf).later h4
    have x4 := x3.later h4
    have g4 := below_up g3 h4
    clear k0 k1 k2 k3 k4 kl kf x3 h4 g3
    go_wp2_with fail
    refine (awake2_in _).mono ?_
    rintro e W5 ⟨rfl, h5⟩
    obtain ⟨k0, k1, k2, k3, k4, kl, kf⟩ := x4.later h5
    obtain ⟨j0, j1, j2, j3, j4, jl, jf⟩ := y4.later h5
    have g5 := below_up g4 h5
    clear x4 y4 h5 g4
    go_wp2
    all_goals go_ret
    all_goals refine ⟨ret_bool ?_, g5⟩
    all_goals have hi := HI.out
    all_goals clear HA HB HE1 HE2
    all_goals first | (simp only [Bool.not_eq_true', beq_eq_false_iff_ne, ne_eq]; intro h; have := hi (by omega); omega) | (rw [show c1 = c2 by omega, show a1 = a2 by omega, show b1 = b2 by omega, show d1 = d2 by omega]; simp)
  · go_enter Try.func6, Try.ntmps6
    go_wp2_with fail
    refine (HA.out _).mono ?_
    rintro e W1 ⟨rfl, h1⟩
    have x1 := lies_new W1 c1 a1 b1 d1 n1 24
    have g1 : Below w.heap.size w (W1.alloc (.cells #[.int .u8 c1, .int .u8 a1, .int .u8 b1, .int .u8 d1, .int .i16 n1] 24)) := below_more (below_up (below_more (below_new w _) _) h1) _
    obtain ⟨k0, k1, k2, k3, k4, kl, kf⟩ := (lb.later h1).later (below_new W1 (.cells #[.int .u8 c1, .int .u8 a1, .int .u8 b1, .int .u8 d1, .int .i16 n1] 24))
    clear la lb h1
    go_wp2_with fail
    refine (HB.out _).mono ?_
    rintro e W2 ⟨rfl, h2⟩
    clear k0 k1 k2 k3 k4 kl kf
    have y2 := lies_new W2 c1 a1 b1 d1 n1 24
    have x2 := x1.later h2
    have g2 : Below w.heap.size w (W2.alloc (.cells #[.int .u8 c1, .int .u8 a1, .int .u8 b1, .int .u8 d1, .int .i16 n1] 24)) := below_more (below_up g1 h2) _
    clear x1 h2 g1
    obtain ⟨k0, k1, k2, k3, k4, kl, kf⟩ := x2
    go_wp2_with fail
    refine (HE1.out _).mono ?_
    rintro e W3 ⟨rfl, h3⟩
    have x3 := ((Lies.mk k0 k1 k2 k3 k4 kl kf).later (below_new W2 _)).later h3
    have y3 := y2.later h3
    have g3 := below_up g2 h3
    clear k0 k1 k2 k3 k4 kl kf y2 h3 g2
    obtain ⟨k0, k1, k2, k3, k4, kl, kf⟩ := y3
    go_wp2_with fail
    refine (HE1.out _).mono ?_
    rintro e W4 ⟨rfl, h4⟩
    have y4 := (Lies.mk k0 k1 k2 k3 k4 kl kf).later h4
    have x4 := x3.later h4
    have g4 := below_up g3 h4
    clear k0 k1 k2 k3 k4 kl kf x3 h4 g3
    go_wp2_with fail
    refine (awake2_in _).mono ?_
    rintro e W5 ⟨rfl, h5⟩
    obtain ⟨k0, k1, k2, k3, k4, kl, kf⟩ := x4.later h5
    obtain ⟨j0, j1, j2, j3, j4, jl, jf⟩ := y4.later h5
    have g5 := below_up g4 h5
    clear x4 y4 h5 g4
    go_wp2
    go_ret
    exact ⟨ret_bool (by simp), g5⟩

/-! ### the row's step -/
set_option maxRecDepth 100000 in
theorem lifted (os : Os) (started : os.Started) (H : Type) (enc : TypeId × Value → H) :
    ReturnsInHanded {} Try.checked os 6 .any (Rows.codeApartSpec.pre6 enc Try.prog Try.f6 Rows.codeApartRow.domain false) (Rows.codeApartSpec.post enc Try.prog Try.f6 false true false false) := by
  refine returnsInHanded_of_change (C := Try.checked) own started (by kernel_rfl) Try.func6
    (ChangeSpec.witness6 (enc := enc) (C := Try.checked) false ⟨#[], #[.agg #[.int .u8 0, .int .u8 0, .int .u8 0, .int .u8 0, .int .i16 0], .agg #[.int .u8 0, .int .u8 0, .int .u8 0, .int .u8 0, .int .i16 0], .bool false], []⟩ 8 (by kernel_rfl) (by kernel_rfl) (by kernel_rfl) (by kernel_rfl)) ?_
  intro W base args ds gs before hval0 hW hcnd _
  have hval : ∀ (j : Nat) t v, Try.f6.params[j]? = some t → args[j]? = some v → Value.okWide Try.prog W .any base t v := hval0
  have hW' := hW
  obtain ⟨p, q, hA0, hV, rfl, hfz, hnd⟩ := hW
  have hA : DataW.TrodAll enc Try.prog W 0 (fun _ => true) true Try.f6.params.toList args.toList ds p := hA0
  rw [Try.params6] at hA hval
  obtain ⟨v0, vs0, d0, ds0, p0, q0, hargs, rfl, rfl, h0, r0⟩ := trodAll_cons hA
  obtain ⟨v1, vs1, d1, ds1, p1, q1, rfl, rfl, rfl, h1, r1⟩ := trodAll_cons r0
  obtain ⟨v2, vs2, d2, ds2, p2, q2, rfl, rfl, rfl, h2, r2⟩ := trodAll_cons r1
  obtain ⟨rfl, rfl, rfl⟩ := trodAll_nil r2
  obtain rfl : args = #[v0, v1, v2] := by cases args; simp_all
  obtain ⟨rfl, rfl⟩ := trodVars_none hV
  have k0 := h0
  have lt0 : ∀ x ∈ p0, x.block < W.heap.size := by obtain ⟨m, hm⟩ := k0; exact DataW.trod_lt m _ _ _ hm
  obtain ⟨x0_0, x0_1, x0_2, x0_3, x0_4, rfl, w0_0, w0_1, w0_2, w0_3, w0_4⟩ := open24 (hval 0 24 v0 rfl rfl) h0
  obtain ⟨n0_0, rfl, b0_0⟩ := wf_u8 w0_0
  obtain ⟨n0_1, rfl, b0_1⟩ := wf_u8 w0_1
  obtain ⟨n0_2, rfl, b0_2⟩ := wf_u8 w0_2
  obtain ⟨n0_3, rfl, b0_3⟩ := wf_u8 w0_3
  have b0_4 := wf_i16 w0_4
  have k1 := h1
  have lt1 : ∀ x ∈ p1, x.block < W.heap.size := by obtain ⟨m, hm⟩ := k1; exact DataW.trod_lt m _ _ _ hm
  obtain ⟨x1_0, x1_1, x1_2, x1_3, x1_4, rfl, w1_0, w1_1, w1_2, w1_3, w1_4⟩ := open24 (hval 1 24 v1 rfl rfl) h1
  obtain ⟨n1_0, rfl, b1_0⟩ := wf_u8 w1_0
  obtain ⟨n1_1, rfl, b1_1⟩ := wf_u8 w1_1
  obtain ⟨n1_2, rfl, b1_2⟩ := wf_u8 w1_2
  obtain ⟨n1_3, rfl, b1_3⟩ := wf_u8 w1_3
  have b1_4 := wf_i16 w1_4
  obtain ⟨a2, rfl, rfl, rfl⟩ := open_bool Try.underlying4 (hval 2 4 v2 rfl rfl) h2
  clear hA0 hval0
  refine (walk n0_0 b0_0 n0_1 b0_1 n0_2 b0_2 n0_3 b0_3 x0_4 b0_4 n1_0 b1_0 n1_1 b1_1 n1_2 b1_2 n1_3 b1_3 x1_4 b1_4 a2 W ).mono fun e W' ⟨he, bel⟩ => ?_
  subst he
  exact ⟨_, rfl, _, _, _, [], _, [], hW', trodAll_mk1 (shut_bool Try.underlying4 _), (trodAll_cons_mk (Below.trod laidOut (by kernel_rfl) (of_decide_eq_true (by kernel_rfl)) k0 bel lt0) (trodAll_cons_mk (Below.trod laidOut (by kernel_rfl) (of_decide_eq_true (by kernel_rfl)) k1 bel lt1) (trodAll_cons_mk (shut_bool Try.underlying4 _) trodAll_mk0))), rfl, bel.frame _, fun h => by cases h⟩

theorem over : Rows.codeApartRow.holds Try.pinned (OpenSpec.ofChange Rows.codeApartSpec) :=
  OpenClaim.holds_of_wide 6 Try.f6 rfl rfl rfl rfl rfl rfl rfl ⟨rfl, rfl, rfl, rfl, rfl⟩ rfl rfl rfl rfl rfl (by kernel_rfl) Try.func6 (by kernel_rfl)
    (of_decide_eq_true (by kernel_rfl)) (by unfold Func.isWrapper; first | (rw [if_pos (by decide +kernel)]; kernel_rfl) | (rw [if_neg (by decide +kernel)]; exact ⟨rfl, rfl⟩))
    (fun os started H enc _ => lifted os started H enc)

/-- THE STATEMENT -/
theorem proved : Rows.CodeApartSaid := over
#print axioms proved
end Go.Proofs.Ytllgmiabidnpjaa.codeApart
