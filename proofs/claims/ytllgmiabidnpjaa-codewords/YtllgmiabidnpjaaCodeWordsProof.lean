/-
  PROVED: for every instruction o the law CodeWords returns true (an instruction that may be has the word that the document says, and Decode makes it of that word again; one that may not be has none; the document's example holds), and the argument reads as it did. No condition.
-/
import Derived.Test.YtllgmiabidnpjaaRows
import Derived.Test.YtllgmiabidnpjaaCL
import Derived.WalkKit
import Derived.ProofKit
import Derived.OpenShut
import Derived.ShutString
import Derived.ChangeOld
import Derived.Below
namespace Go.Proofs.Ytllgmiabidnpjaa.codeWords
open Go.Proofs.Ytllgmiabidnpjaa Go.Proofs.Ytllgmiabidnpjaa.WM Go.Proofs.Ytllgmiabidnpjaa.CM
open Go.ChangeShapes Go.WideShapes Go.ChangeAt Go.RowKit
open Go.ChangeMaps (open_string shut_string)
set_option linter.unusedVariables false

theorem own : ownKnob Try.prog.godebug = none := by kernel_rfl
theorem laidOut : laidOutB Try.prog = true := by kernel_rfl
theorem wf_u8 {a : Int} (h : (Lit.int .u8 a).wf = true) : ∃ n : Nat, a = n ∧ n < 256 := by
  simp only [Lit.wf, IntKind.min, IntKind.max, IntKind.signed, IntKind.bits, Bool.and_eq_true] at h
  simp at h
  exact ⟨a.toNat, by omega, by omega⟩
theorem wf_i16 {a : Int} (h : (Lit.int .i16 a).wf = true) : -32768 ≤ a ∧ a ≤ 32767 := by
  simp only [Lit.wf, IntKind.min, IntKind.max, IntKind.signed, IntKind.bits, Bool.and_eq_true, decide_eq_true_eq] at h
  simp at h
  omega
theorem array24 {α : Type} {cs : Array α} (h : cs.size = 5) : ∃ v0 v1 v2 v3 v4, cs = #[v0, v1, v2, v3, v4] := by
  obtain ⟨l⟩ := cs
  match l, h with
  | [v0, v1, v2, v3, v4], _ => exact ⟨v0, v1, v2, v3, v4, rfl⟩
theorem open24 {H : Type} {enc : TypeId × Value → H} {w : World} {base : Nat} {spare : Nat → Bool} {held : Bool} {r : Reach} {b0 : Nat} {v : Value} {d : DataW H} {p : List MemPlace}
    (hv : Value.okWide Try.prog w r b0 24 v) (h : DataW.Trod enc Try.prog w base spare held 24 v d p) :
    ∃ (v0 : Int) (v1 : Int) (v2 : Int) (v3 : Int) (v4 : Int), v = .agg #[.int .u8 v0, .int .u8 v1, .int .u8 v2, .int .u8 v3, .int .i16 v4] ∧ (Lit.int .u8 v0).wf = true ∧ (Lit.int .u8 v1).wf = true ∧ (Lit.int .u8 v2).wf = true ∧ (Lit.int .u8 v3).wf = true ∧ (Lit.int .i16 v4).wf = true := by
  obtain ⟨cs, rfl, hsz⟩ := okWide_struct Try.underlying24 hv
  obtain ⟨c0, c1, c2, c3, c4, rfl⟩ := array24 (hsz.trans (by kernel_rfl))
  obtain ⟨fuel, hf⟩ := h
  obtain ⟨xs, m, _, _, _, hlen, hall⟩ := DataW.trod_struct Try.underlying24 hf
  obtain ⟨y0, hy0⟩ : ∃ y, xs[0]? = some y := ⟨_, List.getElem?_eq_getElem (by rw [hlen]; decide)⟩
  have t0 : DataW.trod enc Try.prog w base spare held m 5 (List.take (Try.prog.cellsOf 5) (List.drop 0 (Value.agg #[c0, c1, c2, c3, c4]).cells.toList)) = some y0 := (hall 0 _ rfl).trans hy0
  rw [show Try.prog.cellsOf 5 = 1 from by kernel_rfl] at t0
  obtain ⟨z0, e0, _, w0⟩ := DataW.trod_int Try.underlying5 t0
  simp [Value.cells] at e0
  obtain ⟨y1, hy1⟩ : ∃ y, xs[1]? = some y := ⟨_, List.getElem?_eq_getElem (by rw [hlen]; decide)⟩
  have t1 : DataW.trod enc Try.prog w base spare held m 5 (List.take (Try.prog.cellsOf 5) (List.drop 1 (Value.agg #[c0, c1, c2, c3, c4]).cells.toList)) = some y1 := (hall 1 _ rfl).trans hy1
  rw [show Try.prog.cellsOf 5 = 1 from by kernel_rfl] at t1
  obtain ⟨z1, e1, _, w1⟩ := DataW.trod_int Try.underlying5 t1
  simp [Value.cells] at e1
  obtain ⟨y2, hy2⟩ : ∃ y, xs[2]? = some y := ⟨_, List.getElem?_eq_getElem (by rw [hlen]; decide)⟩
  have t2 : DataW.trod enc Try.prog w base spare held m 5 (List.take (Try.prog.cellsOf 5) (List.drop 2 (Value.agg #[c0, c1, c2, c3, c4]).cells.toList)) = some y2 := (hall 2 _ rfl).trans hy2
  rw [show Try.prog.cellsOf 5 = 1 from by kernel_rfl] at t2
  obtain ⟨z2, e2, _, w2⟩ := DataW.trod_int Try.underlying5 t2
  simp [Value.cells] at e2
  obtain ⟨y3, hy3⟩ : ∃ y, xs[3]? = some y := ⟨_, List.getElem?_eq_getElem (by rw [hlen]; decide)⟩
  have t3 : DataW.trod enc Try.prog w base spare held m 5 (List.take (Try.prog.cellsOf 5) (List.drop 3 (Value.agg #[c0, c1, c2, c3, c4]).cells.toList)) = some y3 := (hall 3 _ rfl).trans hy3
  rw [show Try.prog.cellsOf 5 = 1 from by kernel_rfl] at t3
  obtain ⟨z3, e3, _, w3⟩ := DataW.trod_int Try.underlying5 t3
  simp [Value.cells] at e3
  obtain ⟨y4, hy4⟩ : ∃ y, xs[4]? = some y := ⟨_, List.getElem?_eq_getElem (by rw [hlen]; decide)⟩
  have t4 : DataW.trod enc Try.prog w base spare held m 22 (List.take (Try.prog.cellsOf 22) (List.drop 4 (Value.agg #[c0, c1, c2, c3, c4]).cells.toList)) = some y4 := (hall 4 _ rfl).trans hy4
  rw [show Try.prog.cellsOf 22 = 1 from by kernel_rfl] at t4
  obtain ⟨z4, e4, _, w4⟩ := DataW.trod_int Try.underlying22 t4
  simp [Value.cells] at e4
  subst e0 e1 e2 e3 e4
  exact ⟨z0, z1, z2, z3, z4, rfl, w0, w1, w2, w3, w4⟩

/-! ### the walk -/
set_option maxRecDepth 100000
theorem lies_put {W : World} {B c a b d : Nat} {n : Int} (h : Lies W B c a b d n) (c' a' b' d' : Nat) (n' : Int) :
    Lies (((((W.setCell ⟨B, 0, none⟩ (.int .u8 c')).setCell ⟨B, 1, none⟩ (.int .u8 a')).setCell ⟨B, 2, none⟩ (.int .u8 b')).setCell ⟨B, 3, none⟩ (.int .u8 d')).setCell ⟨B, 4, none⟩ (.int .i16 n')) B c' a' b' d' n' := by
  obtain ⟨r0, r1, r2, r3, r4⟩ := set5 W B (.int .u8 c') (.int .u8 a') (.int .u8 b') (.int .u8 d') (.int .i16 n') (by simp [h.k0]) (by simp [h.k1]) (by simp [h.k2]) (by simp [h.k3]) (by simp [h.k4])
  exact ⟨r0, r1, r2, r3, r4, by simp [World.setCell]; exact h.lt, fun i => by simp [h.fz i]⟩
theorem lies_set4 {W : World} {B c a b d : Nat} {n : Int} (h : Lies W B c a b d n) (m : Int) : Lies (W.setCell ⟨B, 4, none⟩ (.int .i16 m)) B c a b d m :=
  ⟨(set_other _ _ _ _ _ (by decide)).trans h.k0, (set_other _ _ _ _ _ (by decide)).trans h.k1, (set_other _ _ _ _ _ (by decide)).trans h.k2, (set_other _ _ _ _ _ (by decide)).trans h.k3, set_same _ _ _ _ (by simp [h.k4]), by simp [World.setCell]; exact h.lt, fun i => by simp [h.fz i]⟩
theorem below_put {w W : World} {B : Nat} (h : Below w.heap.size w W) (hB : w.heap.size ≤ B) {v0 v1 v2 v3 v4 : Value} :
    Below w.heap.size w (((((W.setCell ⟨B, 0, none⟩ v0).setCell ⟨B, 1, none⟩ v1).setCell ⟨B, 2, none⟩ v2).setCell ⟨B, 3, none⟩ v3).setCell ⟨B, 4, none⟩ v4) :=
  ((((h.setCell hB _).setCell hB _).setCell hB _).setCell hB _).setCell hB _
theorem walk (p_o_Code : Nat) (hp_o_Code : p_o_Code < 256) (p_o_A : Nat) (hp_o_A : p_o_A < 256) (p_o_B : Nat) (hp_o_B : p_o_B < 256) (p_o_C : Nat) (hp_o_C : p_o_C < 256) (p_o_N : Int) (hp_o_N : -32768 ≤ p_o_N ∧ p_o_N ≤ 32767) (w : World)  :
    Calls Try.prog 4 #[.agg #[.int .u8 p_o_Code, .int .u8 p_o_A, .int .u8 p_o_B, .int .u8 p_o_C, .int .i16 p_o_N]] w fun e w' => e = .returned (.bool true) ∧ Below w.heap.size w w' := by
  have HE0 := Lib.hid (fun W => encode_in p_o_Code p_o_A p_o_B p_o_C p_o_N W)
  have HS := Lib.hid (fun W => refright_in p_o_Code p_o_A p_o_B p_o_C p_o_N W)
  have HN := Lib.hid (fun W => near_in p_o_Code p_o_A p_o_B p_o_C p_o_N W)
  unfold opV at HN
  have he0 : encW p_o_Code p_o_A p_o_B p_o_C p_o_N = 0 ∨ rightB p_o_Code p_o_A p_o_B p_o_C p_o_N = true := by
    unfold encW; cases rightB p_o_Code p_o_A p_o_B p_o_C p_o_N <;> simp
  have hr := near_right p_o_Code p_o_A p_o_B p_o_C p_o_N
  have hn := near_n (c := p_o_Code) hp_o_N
  have hl := lies_new w p_o_Code p_o_A p_o_B p_o_C p_o_N 24
  clear hp_o_Code hp_o_A hp_o_B hp_o_C hp_o_N
  generalize encW p_o_Code p_o_A p_o_B p_o_C p_o_N = v0 at *
  generalize rightB p_o_Code p_o_A p_o_B p_o_C p_o_N = r0 at *
  generalize nC p_o_Code = c at *
  generalize nA p_o_Code p_o_A = a at *
  generalize nB p_o_Code p_o_B = b at *
  generalize nD p_o_Code p_o_C = d at *
  generalize nN p_o_Code p_o_N = n at *
  have hlt := right_lt hr
  have HE := Lib.hid (fun W => encode_yes c a b d n W hr)
  have HW := Lib.hid (fun W => refword_in c a b d n W hlt.1 hlt.2.1 hlt.2.2.1 hlt.2.2.2)
  have hww := word_lt (n := n) (show c < 64 by omega) hlt.2.1 hlt.2.2.1 hlt.2.2.2
  have HD := Lib.hid (fun W => decode_yes (wordN c a b d n) W hww (word_is hr hn))
  obtain ⟨e1, e2, e3, e4, e5⟩ := word_parts hr hn
  rw [e1, e2, e3, e4, e5] at HD
  unfold opV at HE HD
  clear e1 e2 e3 e4 e5 hr hn hlt
  generalize wordN c a b d n = v at *
  have hV := Lib.hid hww
  clear hww
  cases r0
  · obtain rfl : v0 = 0 := by simpa using he0
    clear he0
    go_enter Try.func4, Try.ntmps4
    go_wp2_with fail
    refine (HE0.out _).mono ?_
    rintro e W1 ⟨rfl, h1⟩
    have l1 := hl.later h1
    have g1 := below_up (below_new w _) h1
    clear hl h1
    obtain ⟨k0, k1, k2, k3, k4, kl, kf⟩ := l1
    go_wp2_with fail
    refine (HS.out _).mono ?_
    rintro e W2 ⟨rfl, h2⟩
    have l2 := (Lies.mk k0 k1 k2 k3 k4 kl kf).later h2
    have g2 := below_up g1 h2
    clear k0 k1 k2 k3 k4 kl kf g1 h2
    obtain ⟨k0, k1, k2, k3, k4, kl, kf⟩ := l2
    go_wp2_with fail
    refine (HN.out _).mono ?_
    rintro e W3 ⟨rfl, h3⟩
    have l3 := (Lies.mk k0 k1 k2 k3 k4 kl kf).later h3
    have g3 := below_up g2 h3
    have l3' := lies_put l3 c a b d n
    have g3' := below_put (v0 := .int .u8 c) (v1 := .int .u8 a) (v2 := .int .u8 b) (v3 := .int .u8 d) (v4 := .int .i16 n) g3 (Nat.le_refl _)
    clear k0 k1 k2 k3 k4 kl kf g2 h3
    obtain ⟨k0, k1, k2, k3, k4, kl, kf⟩ := l3
    go_wp2_with fail
    refine (HE.out _).mono ?_
    rintro e W4 ⟨rfl, h4⟩
    have l4 := l3'.later h4
    have g4 := below_up g3' h4
    clear k0 k1 k2 k3 k4 kl kf g3 g3' l3' h4
    go_wp2_with fail
    refine (HD.out _).mono ?_
    rintro e W5 ⟨rfl, h5⟩
    have l5 := l4.later h5
    have g5 := below_up g4 h5
    have x5 := lies_new W5 c a b d n 24
    clear l4 g4 h5
    go_wp2_with fail
    refine (awake2_in _).mono ?_
    rintro e W6 ⟨rfl, h6⟩
    have l6 := (l5.later (below_new W5 _)).later h6
    have x6 := x5.later h6
    have g6 := below_up (below_more g5 _) h6
    clear l5 g5 x5 h6
    obtain ⟨k0, k1, k2, k3, k4, kl, kf⟩ := l6
    go_wp2_with fail
    refine (HW.out _).mono ?_
    rintro e W7 ⟨rfl, h7⟩
    have l7 := (Lies.mk k0 k1 k2 k3 k4 kl kf).later h7
    have x7 := x6.later h7
    have g7 := below_up g6 h7
    clear k0 k1 k2 k3 k4 kl kf x6 g6 h7
    obtain ⟨k0, k1, k2, k3, k4, kl, kf⟩ := l7
    obtain ⟨j0, j1, j2, j3, j4, jl, jf⟩ := x7
    go_wp2
    go_ret
    exact ⟨rfl, g7⟩
  · clear he0
    go_enter Try.func4, Try.ntmps4
    go_wp2_with fail
    refine (HE0.out _).mono ?_
    rintro e W1 ⟨rfl, h1⟩
    have l1 := hl.later h1
    have g1 := below_up (below_new w _) h1
    clear hl h1
    obtain ⟨k0, k1, k2, k3, k4, kl, kf⟩ := l1
    go_wp2_with fail
    refine (HS.out _).mono ?_
    rintro e W2 ⟨rfl, h2⟩
    have l2 := (Lies.mk k0 k1 k2 k3 k4 kl kf).later h2
    have g2 := below_up g1 h2
    clear k0 k1 k2 k3 k4 kl kf g1 h2
    obtain ⟨k0, k1, k2, k3, k4, kl, kf⟩ := l2
    go_wp2_with fail
    refine (HN.out _).mono ?_
    rintro e W3 ⟨rfl, h3⟩
    have l3 := (Lies.mk k0 k1 k2 k3 k4 kl kf).later h3
    have g3 := below_up g2 h3
    have l3' := lies_put l3 c a b d n
    have g3' := below_put (v0 := .int .u8 c) (v1 := .int .u8 a) (v2 := .int .u8 b) (v3 := .int .u8 d) (v4 := .int .i16 n) g3 (Nat.le_refl _)
    clear k0 k1 k2 k3 k4 kl kf g2 h3
    obtain ⟨k0, k1, k2, k3, k4, kl, kf⟩ := l3
    go_wp2_with fail
    refine (HE.out _).mono ?_
    rintro e W4 ⟨rfl, h4⟩
    have l4 := l3'.later h4
    have g4 := below_up g3' h4
    clear k0 k1 k2 k3 k4 kl kf g3 g3' l3' h4
    go_wp2_with fail
    refine (HD.out _).mono ?_
    rintro e W5 ⟨rfl, h5⟩
    have l5 := l4.later h5
    have g5 := below_up g4 h5
    have x5 := lies_new W5 c a b d n 24
    clear l4 g4 h5
    go_wp2_with fail
    refine (awake2_in _).mono ?_
    rintro e W6 ⟨rfl, h6⟩
    have l6 := (l5.later (below_new W5 _)).later h6
    have x6 := x5.later h6
    have g6 := below_up (below_more g5 _) h6
    clear l5 g5 x5 h6
    obtain ⟨k0, k1, k2, k3, k4, kl, kf⟩ := l6
    go_wp2_with fail
    refine (HW.out _).mono ?_
    rintro e W7 ⟨rfl, h7⟩
    have l7 := (Lies.mk k0 k1 k2 k3 k4 kl kf).later h7
    have x7 := x6.later h7
    have g7 := below_up g6 h7
    clear k0 k1 k2 k3 k4 kl kf x6 g6 h7
    obtain ⟨k0, k1, k2, k3, k4, kl, kf⟩ := l7
    obtain ⟨j0, j1, j2, j3, j4, jl, jf⟩ := x7
    go_wp2
    go_ret
    exact ⟨rfl, g7⟩

/-! ### the row's step -/
set_option maxRecDepth 100000 in
theorem lifted (os : Os) (started : os.Started) (H : Type) (enc : TypeId × Value → H) :
    ReturnsInHanded {} Try.checked os 4 .any (Rows.codeWordsSpec.pre6 enc Try.prog Try.f4 Rows.codeWordsRow.domain false) (Rows.codeWordsSpec.post enc Try.prog Try.f4 false true false false) := by
  refine returnsInHanded_of_change (C := Try.checked) own started (by kernel_rfl) Try.func4
    (ChangeSpec.witness6 (enc := enc) (C := Try.checked) false ⟨#[], #[.agg #[.int .u8 0, .int .u8 0, .int .u8 0, .int .u8 0, .int .i16 0]], []⟩ 8 (by kernel_rfl) (by kernel_rfl) (by kernel_rfl) (by kernel_rfl)) ?_
  intro W base args ds gs before hval0 hW hcnd _
  have hval : ∀ (j : Nat) t v, Try.f4.params[j]? = some t → args[j]? = some v → Value.okWide Try.prog W .any base t v := hval0
  have hW' := hW
  obtain ⟨p, q, hA0, hV, rfl, hfz, hnd⟩ := hW
  have hA : DataW.TrodAll enc Try.prog W 0 (fun _ => true) true Try.f4.params.toList args.toList ds p := hA0
  rw [Try.params4] at hA hval
  obtain ⟨v0, vs0, d0, ds0, p0, q0, hargs, rfl, rfl, h0, r0⟩ := trodAll_cons hA
  obtain ⟨rfl, rfl, rfl⟩ := trodAll_nil r0
  obtain rfl : args = #[v0] := by cases args; simp_all
  obtain ⟨rfl, rfl⟩ := trodVars_none hV
  have k0 := h0
  have lt0 : ∀ x ∈ p0, x.block < W.heap.size := by obtain ⟨m, hm⟩ := k0; exact DataW.trod_lt m _ _ _ hm
  obtain ⟨x0_0, x0_1, x0_2, x0_3, x0_4, rfl, w0_0, w0_1, w0_2, w0_3, w0_4⟩ := open24 (hval 0 24 v0 rfl rfl) h0
  obtain ⟨n0_0, rfl, b0_0⟩ := wf_u8 w0_0
  obtain ⟨n0_1, rfl, b0_1⟩ := wf_u8 w0_1
  obtain ⟨n0_2, rfl, b0_2⟩ := wf_u8 w0_2
  obtain ⟨n0_3, rfl, b0_3⟩ := wf_u8 w0_3
  have b0_4 := wf_i16 w0_4
  clear hA0 hval0
  refine (walk n0_0 b0_0 n0_1 b0_1 n0_2 b0_2 n0_3 b0_3 x0_4 b0_4 W ).mono fun e W' ⟨he, bel⟩ => ?_
  subst he
  exact ⟨_, rfl, _, _, _, [], _, [], hW', trodAll_mk1 (shut_bool Try.underlying4 _), (trodAll_cons_mk (Below.trod laidOut (by kernel_rfl) (of_decide_eq_true (by kernel_rfl)) k0 bel lt0) trodAll_mk0), rfl, bel.frame _, fun h => by cases h⟩

theorem over : Rows.codeWordsRow.holds Try.pinned (OpenSpec.ofChange Rows.codeWordsSpec) :=
  OpenClaim.holds_of_wide 4 Try.f4 rfl rfl rfl rfl rfl rfl rfl ⟨rfl, rfl, rfl, rfl, rfl⟩ rfl rfl rfl rfl rfl (by kernel_rfl) Try.func4 (by kernel_rfl)
    (of_decide_eq_true (by kernel_rfl)) (by unfold Func.isWrapper; first | (rw [if_pos (by decide +kernel)]; kernel_rfl) | (rw [if_neg (by decide +kernel)]; exact ⟨rfl, rfl⟩))
    (fun os started H enc _ => lifted os started H enc)

/-- THE STATEMENT -/
theorem proved : Rows.CodeWordsSaid := over
#print axioms proved
end Go.Proofs.Ytllgmiabidnpjaa.codeWords
