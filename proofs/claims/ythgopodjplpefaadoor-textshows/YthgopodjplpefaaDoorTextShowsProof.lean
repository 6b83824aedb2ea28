/-
  PROVED: for every instruction o the law TextShows returns true: one that may not be has no text; one that may be has the document's text, and is read back of it; and o reads as it did. Condition (tied to the program's text by the card): the package variables hold what their initialisers lay.
-/
import Derived.Test.YthgopodjplpefaaDoorRows
import Derived.Test.YthgopodjplpefaaDoorWM
import Derived.Test.YthgopodjplpefaaDoorWC
import Derived.Test.YthgopodjplpefaaDoorLT
import Derived.Test.YthgopodjplpefaaDoorCM
import Derived.Test.YthgopodjplpefaaDoorCC
import Derived.Test.YthgopodjplpefaaDoorCD
import Derived.Test.YthgopodjplpefaaDoorCE
import Derived.Test.YthgopodjplpefaaDoorCR
import Derived.Test.YthgopodjplpefaaDoorTX
import Derived.Test.YthgopodjplpefaaDoorTS
import Derived.Test.YthgopodjplpefaaDoorTR
import Derived.Test.YthgopodjplpefaaDoorTG
import Derived.Test.YthgopodjplpefaaDoorTD
import Derived.Test.YthgopodjplpefaaDoorTL
import Derived.Test.YthgopodjplpefaaDoorTV
import Derived.Test.YthgopodjplpefaaDoorTT
import Derived.Test.YthgopodjplpefaaDoorCN
import Derived.Test.YthgopodjplpefaaDoorTP
import Derived.WalkKit
import Derived.ProofKit
import Derived.OpenShut
import Derived.ShutString
import Derived.ChangeOld
import Derived.Below
import Derived.Deep.CutBlock
import Derived.Deep.RegionHeld3
import Derived.Deep.Slices
import Derived.Deep.Fields
import Derived.Test.YthgopodjplpefaaDoorCards
import Derived.Test.YthgopodjplpefaaDoorTie
import Derived.Deep.DeepHandedRow
import Derived.Deep.DeepWitnessRowRef
import Derived.LaidMore
import Derived.Stop.Joined
import Derived.SevenTiedAt
namespace Go.Proofs.YthgopodjplpefaaDoor.textShows
open Go.Proofs.YthgopodjplpefaaDoor Go.Proofs.YthgopodjplpefaaDoor.WM Go.Proofs.YthgopodjplpefaaDoor.CM
open Go.ChangeShapes Go.WideShapes Go.ChangeAt Go.RowKit
open Go.ChangeMaps (open_string shut_string)
set_option linter.unusedVariables false
set_option maxRecDepth 100000

theorem own : ownKnob Tryd.prog.godebug = none := by kernel_rfl
theorem laidOut : laidOutB Tryd.prog = true := by kernel_rfl
theorem wf_u8 {a : Int} (h : (Lit.int .u8 a).wf = true) : ∃ n : Nat, a = n ∧ n < 256 := by
  simp only [Lit.wf, IntKind.min, IntKind.max, IntKind.signed, IntKind.bits, Bool.and_eq_true] at h
  simp at h
  exact ⟨a.toNat, by omega, by omega⟩
theorem wf_i16 {a : Int} (h : (Lit.int .i16 a).wf = true) : -32768 ≤ a ∧ a ≤ 32767 := by
  simp only [Lit.wf, IntKind.min, IntKind.max, IntKind.signed, IntKind.bits, Bool.and_eq_true, decide_eq_true_eq] at h
  simp at h
  omega
theorem array24 {α : Type} {cs : Array α} (h : cs.size = 5) : ∃ v0 v1 v2 v3 v4, cs = #[v0, v1, v2, v3, v4] := by
  obtain ⟨l⟩ := cs
  match l, h with
  | [v0, v1, v2, v3, v4], _ => exact ⟨v0, v1, v2, v3, v4, rfl⟩
theorem open24 {H : Type} {enc : TypeId × Value → H} {w : World} {base : Nat} {spare : Nat → Bool} {held : Bool} {r : Reach} {b0 : Nat} {v : Value} {d : DataW H} {p : List MemPlace}
    (hv : Value.okWide Tryd.prog w r b0 24 v) (h : DataW.Trod enc Tryd.prog w base spare held 24 v d p) :
    ∃ (v0 : Int) (v1 : Int) (v2 : Int) (v3 : Int) (v4 : Int), v = .agg #[.int .u8 v0, .int .u8 v1, .int .u8 v2, .int .u8 v3, .int .i16 v4] ∧ (Lit.int .u8 v0).wf = true ∧ (Lit.int .u8 v1).wf = true ∧ (Lit.int .u8 v2).wf = true ∧ (Lit.int .u8 v3).wf = true ∧ (Lit.int .i16 v4).wf = true := by
  obtain ⟨cs, rfl, hsz⟩ := okWide_struct Tryd.underlying24 hv
  obtain ⟨c0, c1, c2, c3, c4, rfl⟩ := array24 (hsz.trans (by kernel_rfl))
  obtain ⟨fuel, hf⟩ := h
  obtain ⟨xs, m, _, _, _, hlen, hall⟩ := DataW.trod_struct Tryd.underlying24 hf
  obtain ⟨y0, hy0⟩ : ∃ y, xs[0]? = some y := ⟨_, List.getElem?_eq_getElem (by rw [hlen]; decide)⟩
  have t0 : DataW.trod enc Tryd.prog w base spare held m 5 (List.take (Tryd.prog.cellsOf 5) (List.drop 0 (Value.agg #[c0, c1, c2, c3, c4]).cells.toList)) = some y0 := (hall 0 _ rfl).trans hy0
  rw [show Tryd.prog.cellsOf 5 = 1 from by kernel_rfl] at t0
  obtain ⟨z0, e0, _, w0⟩ := DataW.trod_int Tryd.underlying5 t0
  simp [Value.cells] at e0
  obtain ⟨y1, hy1⟩ : ∃ y, xs[1]? = some y := ⟨_, List.getElem?_eq_getElem (by rw [hlen]; decide)⟩
  have t1 : DataW.trod enc Tryd.prog w base spare held m 5 (List.take (Tryd.prog.cellsOf 5) (List.drop 1 (Value.agg #[c0, c1, c2, c3, c4]).cells.toList)) = some y1 := (hall 1 _ rfl).trans hy1
  rw [show Tryd.prog.cellsOf 5 = 1 from by kernel_rfl] at t1
  obtain ⟨z1, e1, _, w1⟩ := DataW.trod_int Tryd.underlying5 t1
  simp [Value.cells] at e1
  obtain ⟨y2, hy2⟩ : ∃ y, xs[2]? = some y := ⟨_, List.getElem?_eq_getElem (by rw [hlen]; decide)⟩
  have t2 : DataW.trod enc Tryd.prog w base spare held m 5 (List.take (Tryd.prog.cellsOf 5) (List.drop 2 (Value.agg #[c0, c1, c2, c3, c4]).cells.toList)) = some y2 := (hall 2 _ rfl).trans hy2
  rw [show Tryd.prog.cellsOf 5 = 1 from by kernel_rfl] at t2
  obtain ⟨z2, e2, _, w2⟩ := DataW.trod_int Tryd.underlying5 t2
  simp [Value.cells] at e2
  obtain ⟨y3, hy3⟩ : ∃ y, xs[3]? = some y := ⟨_, List.getElem?_eq_getElem (by rw [hlen]; decide)⟩
  have t3 : DataW.trod enc Tryd.prog w base spare held m 5 (List.take (Tryd.prog.cellsOf 5) (List.drop 3 (Value.agg #[c0, c1, c2, c3, c4]).cells.toList)) = some y3 := (hall 3 _ rfl).trans hy3
  rw [show Tryd.prog.cellsOf 5 = 1 from by kernel_rfl] at t3
  obtain ⟨z3, e3, _, w3⟩ := DataW.trod_int Tryd.underlying5 t3
  simp [Value.cells] at e3
  obtain ⟨y4, hy4⟩ : ∃ y, xs[4]? = some y := ⟨_, List.getElem?_eq_getElem (by rw [hlen]; decide)⟩
  have t4 : DataW.trod enc Tryd.prog w base spare held m 22 (List.take (Tryd.prog.cellsOf 22) (List.drop 4 (Value.agg #[c0, c1, c2, c3, c4]).cells.toList)) = some y4 := (hall 4 _ rfl).trans hy4
  rw [show Tryd.prog.cellsOf 22 = 1 from by kernel_rfl] at t4
  obtain ⟨z4, e4, _, w4⟩ := DataW.trod_int Tryd.underlying22 t4
  simp [Value.cells] at e4
  subst e0 e1 e2 e3 e4
  exact ⟨z0, z1, z2, z3, z4, rfl, w0, w1, w2, w3, w4⟩

/-! ### the walk -/
set_option maxRecDepth 100000
set_option maxRecDepth 100000
theorem lies_put {W : World} {B c a b d : Nat} {n : Int} (h : Lies W B c a b d n) (c' a' b' d' : Nat) (n' : Int) :
    Lies (((((W.setCell ⟨B, 0, none⟩ (.int .u8 c')).setCell ⟨B, 1, none⟩ (.int .u8 a')).setCell ⟨B, 2, none⟩ (.int .u8 b')).setCell ⟨B, 3, none⟩ (.int .u8 d')).setCell ⟨B, 4, none⟩ (.int .i16 n')) B c' a' b' d' n' := by
  obtain ⟨r0, r1, r2, r3, r4⟩ := set5 W B (.int .u8 c') (.int .u8 a') (.int .u8 b') (.int .u8 d') (.int .i16 n') (by simp [h.k0]) (by simp [h.k1]) (by simp [h.k2]) (by simp [h.k3]) (by simp [h.k4])
  exact ⟨r0, r1, r2, r3, r4, by simp [World.setCell]; exact h.lt, fun i => by simp [h.fz i]⟩
theorem below_put {w W : World} {B : Nat} (h : Below w.heap.size w W) (hB : w.heap.size ≤ B) {v0 v1 v2 v3 v4 : Value} :
    Below w.heap.size w (((((W.setCell ⟨B, 0, none⟩ v0).setCell ⟨B, 1, none⟩ v1).setCell ⟨B, 2, none⟩ v2).setCell ⟨B, 3, none⟩ v3).setCell ⟨B, 4, none⟩ v4) :=
  ((((h.setCell hB _).setCell hB _).setCell hB _).setCell hB _).setCell hB _
theorem walk (p_o_Code : Nat) (hp_o_Code : p_o_Code < 256) (p_o_A : Nat) (hp_o_A : p_o_A < 256) (p_o_B : Nat) (hp_o_B : p_o_B < 256) (p_o_C : Nat) (hp_o_C : p_o_C < 256) (p_o_N : Int) (hp_o_N : -32768 ≤ p_o_N ∧ p_o_N ≤ 32767) (w : World)  (hT : TW w) :
    Calls Tryd.prog 3 #[.agg #[.int .u8 p_o_Code, .int .u8 p_o_A, .int .u8 p_o_B, .int .u8 p_o_C, .int .i16 p_o_N]] w fun e w' => e = .returned (.bool true) ∧ Below w.heap.size w w' := by
  have hrx := refright_in p_o_Code p_o_A p_o_B p_o_C p_o_N
  have HRR := Lib.hid hrx
  have HN := Lib.hid (fun W => near_in p_o_Code p_o_A p_o_B p_o_C p_o_N W)
  have HSN := Lib.hid (fun (h : rightB p_o_Code p_o_A p_o_B p_o_C p_o_N = false) W => show_no p_o_Code p_o_A p_o_B p_o_C p_o_N W h)
  unfold opV at HN HSN
  rw [show str [] = ⟨#[]⟩ from rfl] at HSN
  have hr := near_right p_o_Code p_o_A p_o_B p_o_C p_o_N
  have hn := near_n (c := p_o_Code) hp_o_N
  generalize nC p_o_Code = c at *
  generalize nA p_o_Code p_o_A = a at *
  generalize nB p_o_Code p_o_B = b at *
  generalize nD p_o_Code p_o_C = d at *
  generalize nN p_o_Code p_o_N = n at *
  have HT := Lib.hid hT
  have HS := Lib.hid (fun W hW => show_in c a b d n W hn hr hW)
  have hrd := fun W hW => read_yes (showL c a b d n) W (Nat.le_trans (show_len c a b d n hr hn) (by decide)) hW (back_read c a b d n hr hn)
  obtain ⟨e1, e2, e3, e4, e5⟩ := back c a b d n hr hn
  rw [e1, e2, e3, e4, e5] at hrd
  have HRD := Lib.hid hrd
  have HX := Lib.hid (fun W => reftext_in c a b d n W hn hr)
  have HA := Lib.hid (fun W hW => awake3_in W hW)
  unfold opV at HS HRD
  clear e1 e2 e3 e4 e5 hrd hrx hT hr hn hp_o_Code hp_o_A hp_o_B hp_o_C hp_o_N
  obtain ⟨y, hy⟩ : ∃ y, str (showL c a b d n) = y := ⟨_, rfl⟩
  rw [hy] at HS HRD HX
  clear hy
  have LO := lies_new w p_o_Code p_o_A p_o_B p_o_C p_o_N 24
  have B0 := below_new w (.cells #[.int .u8 p_o_Code, .int .u8 p_o_A, .int .u8 p_o_B, .int .u8 p_o_C, .int .i16 p_o_N] 24)
  cases hx : rightB p_o_Code p_o_A p_o_B p_o_C p_o_N
  · rw [hx] at HRR
    have HS0 := Lib.hid (HSN.out hx)
    clear HSN hx
    go_enter Tryd.func3, Tryd.ntmps3
    go_wp2_with fail
    refine (HRR.out _).mono ?_
    rintro e X0 ⟨rfl, b0⟩
    have l0 := LO.later b0
    have h0 := below_up B0 b0
    clear B0 b0
    have lY := l0
    obtain ⟨k0, k1, k2, k3, k4, kl, kf⟩ := l0
    go_wp2_with fail
    refine (HS0.out _).mono ?_
    rintro e X1 ⟨rfl, b1⟩
    have lX := lY.later b1
    have bX := below_up h0 b1
    clear h0 b1 lY k0 k1 k2 k3 k4 kl kf HRR HS0
    have g1 : Below w.heap.size w X1 := bX
    have L0 := lX
    clear LO
    obtain ⟨k0, k1, k2, k3, k4, kl, kf⟩ := L0
    go_wp2_with fail
    refine (HN.out _).mono ?_
    rintro e W1 ⟨rfl, b1⟩
    have l1 := lX.later b1
    have L1 := Lib.hid (lies_put l1 c a b d n)
    have B1 := Lib.hid (below_put (v0 := .int .u8 c) (v1 := .int .u8 a) (v2 := .int .u8 b) (v3 := .int .u8 d) (v4 := .int .i16 n) (below_up g1 b1) (Nat.le_refl _))
    clear k0 k1 k2 k3 k4 kl kf lX bX g1 b1
    obtain ⟨k0, k1, k2, k3, k4, kl, kf⟩ := l1
    go_wp2_with fail
    have T1 := (HT.out).later B1.out
    obtain ⟨W2, hW2⟩ : ∃ W2, (((((W1.setCell ⟨w.heap.size, 0, none⟩ (.int .u8 c)).setCell ⟨w.heap.size, 1, none⟩ (.int .u8 a)).setCell ⟨w.heap.size, 2, none⟩ (.int .u8 b)).setCell ⟨w.heap.size, 3, none⟩ (.int .u8 d)).setCell ⟨w.heap.size, 4, none⟩ (.int .i16 n)) = W2 := ⟨_, rfl⟩
    rw [hW2] at T1 L1 B1 ⊢
    clear hW2 k0 k1 k2 k3 k4 kl kf
    refine (HS.out _ T1).mono ?_
    rintro e W3 ⟨rfl, b3⟩
    have L3 := Lib.hid ((L1.out).later b3)
    have B3 := Lib.hid (below_up B1.out b3)
    clear L1 B1 T1 b3
    go_wp2_with fail
    refine (HRD.out _ ((HT.out).later B3.out)).mono ?_
    rintro e W4 ⟨rfl, b4⟩
    have L4 := Lib.hid (((L3.out).later b4).later (below_new W4 (.cells #[.int .u8 c, .int .u8 a, .int .u8 b, .int .u8 d, .int .i16 n] 24)))
    have X4 := Lib.hid (lies_new W4 c a b d n 24)
    have B4 := Lib.hid (below_more (below_up B3.out b4) (.cells #[.int .u8 c, .int .u8 a, .int .u8 b, .int .u8 d, .int .i16 n] 24))
    clear L3 B3 b4
    go_wp2_with fail
    generalize W4.alloc (.cells #[.int .u8 c, .int .u8 a, .int .u8 b, .int .u8 d, .int .i16 n] 24) = V at *
    generalize W4.heap.size = B at *
    refine (HA.out _ ((HT.out).later B4.out)).mono ?_
    rintro e W5 ⟨rfl, b5⟩
    have L5 := (L4.out).later b5
    have X5 := (X4.out).later b5
    have B5 := below_up B4.out b5
    clear L4 X4 B4 b5
    have LH := Lib.hid L5
    have XH := Lib.hid X5
    obtain ⟨k0, k1, k2, k3, k4, kl, kf⟩ := L5
    go_wp2_with fail
    refine (HX.out _).mono ?_
    rintro e W6 ⟨rfl, b6⟩
    obtain ⟨m0, m1, m2, m3, m4, ml, mf⟩ := (LH.out).later b6
    obtain ⟨x0, x1, x2, x3, x4, xl, xf⟩ := (XH.out).later b6
    have B6 := below_up B5 b6
    clear LH XH k0 k1 k2 k3 k4 kl kf b6 B5
    have ty : (y.toList == y.toList) = true := by simp
    go_wp2
    go_ret
    exact ⟨rfl, B6⟩
  · rw [hx] at HRR
    clear HSN hx
    go_enter Tryd.func3, Tryd.ntmps3
    go_wp2_with fail
    refine (HRR.out _).mono ?_
    rintro e X1 ⟨rfl, b0⟩
    have lX := LO.later b0
    have bX := below_up B0 b0
    clear B0 b0 HRR
    have g1 : Below w.heap.size w X1 := bX
    have L0 := lX
    clear LO
    obtain ⟨k0, k1, k2, k3, k4, kl, kf⟩ := L0
    go_wp2_with fail
    refine (HN.out _).mono ?_
    rintro e W1 ⟨rfl, b1⟩
    have l1 := lX.later b1
    have L1 := Lib.hid (lies_put l1 c a b d n)
    have B1 := Lib.hid (below_put (v0 := .int .u8 c) (v1 := .int .u8 a) (v2 := .int .u8 b) (v3 := .int .u8 d) (v4 := .int .i16 n) (below_up g1 b1) (Nat.le_refl _))
    clear k0 k1 k2 k3 k4 kl kf lX bX g1 b1
    obtain ⟨k0, k1, k2, k3, k4, kl, kf⟩ := l1
    go_wp2_with fail
    have T1 := (HT.out).later B1.out
    obtain ⟨W2, hW2⟩ : ∃ W2, (((((W1.setCell ⟨w.heap.size, 0, none⟩ (.int .u8 c)).setCell ⟨w.heap.size, 1, none⟩ (.int .u8 a)).setCell ⟨w.heap.size, 2, none⟩ (.int .u8 b)).setCell ⟨w.heap.size, 3, none⟩ (.int .u8 d)).setCell ⟨w.heap.size, 4, none⟩ (.int .i16 n)) = W2 := ⟨_, rfl⟩
    rw [hW2] at T1 L1 B1 ⊢
    clear hW2 k0 k1 k2 k3 k4 kl kf
    refine (HS.out _ T1).mono ?_
    rintro e W3 ⟨rfl, b3⟩
    have L3 := Lib.hid ((L1.out).later b3)
    have B3 := Lib.hid (below_up B1.out b3)
    clear L1 B1 T1 b3
    go_wp2_with fail
    refine (HRD.out _ ((HT.out).later B3.out)).mono ?_
    rintro e W4 ⟨rfl, b4⟩
    have L4 := Lib.hid (((L3.out).later b4).later (below_new W4 (.cells #[.int .u8 c, .int .u8 a, .int .u8 b, .int .u8 d, .int .i16 n] 24)))
    have X4 := Lib.hid (lies_new W4 c a b d n 24)
    have B4 := Lib.hid (below_more (below_up B3.out b4) (.cells #[.int .u8 c, .int .u8 a, .int .u8 b, .int .u8 d, .int .i16 n] 24))
    clear L3 B3 b4
    go_wp2_with fail
    generalize W4.alloc (.cells #[.int .u8 c, .int .u8 a, .int .u8 b, .int .u8 d, .int .i16 n] 24) = V at *
    generalize W4.heap.size = B at *
    refine (HA.out _ ((HT.out).later B4.out)).mono ?_
    rintro e W5 ⟨rfl, b5⟩
    have L5 := (L4.out).later b5
    have X5 := (X4.out).later b5
    have B5 := below_up B4.out b5
    clear L4 X4 B4 b5
    have LH := Lib.hid L5
    have XH := Lib.hid X5
    obtain ⟨k0, k1, k2, k3, k4, kl, kf⟩ := L5
    go_wp2_with fail
    refine (HX.out _).mono ?_
    rintro e W6 ⟨rfl, b6⟩
    obtain ⟨m0, m1, m2, m3, m4, ml, mf⟩ := (LH.out).later b6
    obtain ⟨x0, x1, x2, x3, x4, xl, xf⟩ := (XH.out).later b6
    have B6 := below_up B5 b6
    clear LH XH k0 k1 k2 k3 k4 kl kf b6 B5
    have ty : (y.toList == y.toList) = true := by simp
    go_wp2
    go_ret
    exact ⟨rfl, B6⟩

/-! ### the row's step -/
set_option maxRecDepth 100000 in
theorem contract (H : Type) (enc : TypeId × Value → H) (W : World) (base : Nat) (args : Array Value) (ds gs : List (DataW H)) (before : List MemPlace)
    (hval0 : ∀ (j : Nat) t v, Tryd.f3.params[j]? = some t → args[j]? = some v → Value.okWide Tryd.prog W .any base t v)
    (hW : DataW.Whole enc Tryd.prog Tryd.f3.params.toList Rows.textShowsSpec.vars false W args.toList ds gs before) (hT : TW W) :
    Calls Tryd.prog 3 args W fun e W' => ∃ v, e = .returned v ∧ Rows.textShowsSpec.post enc Tryd.prog Tryd.f3 false true false false W args v W' := by
  have hval : ∀ (j : Nat) t v, Tryd.f3.params[j]? = some t → args[j]? = some v → Value.okWide Tryd.prog W .any base t v := hval0
  have hW' := hW
  obtain ⟨p, q, hA0, hV, rfl, hfz, hnd⟩ := hW
  have hA : DataW.TrodAll enc Tryd.prog W 0 (fun _ => true) true Tryd.f3.params.toList args.toList ds p := hA0
  rw [Tryd.params3] at hA hval
  obtain ⟨v0, vs0, d0, ds0, p0, q0, hargs, rfl, rfl, h0, r0⟩ := trodAll_cons hA
  obtain ⟨rfl, rfl, rfl⟩ := trodAll_nil r0
  obtain rfl : args = #[v0] := by cases args; simp_all
  obtain ⟨rfl, rfl⟩ := trodVars_none hV
  have k0 := h0
  have lt0 : ∀ x ∈ p0, x.block < W.heap.size := by obtain ⟨m, hm⟩ := k0; exact DataW.trod_lt m _ _ _ hm
  obtain ⟨x0_0, x0_1, x0_2, x0_3, x0_4, rfl, w0_0, w0_1, w0_2, w0_3, w0_4⟩ := open24 (hval 0 24 v0 rfl rfl) h0
  obtain ⟨n0_0, rfl, b0_0⟩ := wf_u8 w0_0
  obtain ⟨n0_1, rfl, b0_1⟩ := wf_u8 w0_1
  obtain ⟨n0_2, rfl, b0_2⟩ := wf_u8 w0_2
  obtain ⟨n0_3, rfl, b0_3⟩ := wf_u8 w0_3
  have b0_4 := wf_i16 w0_4
  clear hA0 hval0
  refine (walk n0_0 b0_0 n0_1 b0_1 n0_2 b0_2 n0_3 b0_3 x0_4 b0_4 W  hT).mono fun e W' ⟨he, bel⟩ => ?_
  subst he
  exact ⟨_, rfl, _, _, _, [], _, [], hW', trodAll_mk1 (shut_bool Tryd.underlying4 _), (trodAll_cons_mk (Below.trod laidOut (by kernel_rfl) (of_decide_eq_true (by kernel_rfl)) k0 bel lt0) trodAll_mk0), rfl, bel.frame _, fun h => by cases h⟩

theorem laid_met (os : Os) : laidMet Tryd.prog Rows.textShowsRow.laid ((World.doorLaid Tryd.prog 400 os).forCall (fun _ _ => 0) ⟨#[], #[.agg #[.int .u8 0, .int .u8 0, .int .u8 0, .int .u8 0, .int .i16 0]], []⟩).memory :=
  laidMet_of_run' 8 (by kernel_rfl) (by kernel_rfl)
theorem reads (os : Os) {H : Type} (enc : TypeId × Value → H) : ∃ places, DataW.whole enc Tryd.prog ((World.doorLaid Tryd.prog 400 os).forCall (fun _ _ => 0) ⟨#[], #[.agg #[.int .u8 0, .int .u8 0, .int .u8 0, .int .u8 0, .int .i16 0]], []⟩).memory Tryd.f3.params.toList Rows.textShowsSpec.vars false #[Value.agg #[.int .u8 0, .int .u8 0, .int .u8 0, .int .u8 0, .int .i16 0]].toList 8 = some ([.agg [.lit (.int .u8 0), .lit (.int .u8 0), .lit (.int .u8 0), .lit (.int .u8 0), .lit (.int .i16 0)]], [], places) :=
  ⟨[], by kernel_rfl⟩
set_option maxRecDepth 100000 in
theorem lifted (os : Os) (started : os.Started) (H : Type) (enc : TypeId × Value → H) (F : Stop.Interp) :
    ReturnsInHanded {} Tryd.checked os 3 .any ((OpenSpec.ofChange Rows.textShowsSpec).preRow enc Tryd.prog Tryd.f3 Rows.textShowsRow.domain false Rows.textShowsRow.laid) (((OpenSpec.ofChange Rows.textShowsSpec).at F).post enc Tryd.prog Tryd.f3 false true false false) := by
  obtain ⟨places, hx⟩ := reads os enc
  refine returnsInHanded_of_row (C := Tryd.checked) (s := OpenSpec.ofChange Rows.textShowsSpec) own started (by kernel_rfl) Tryd.func3
    (witness_row_atRef (enc := enc) (C := Tryd.checked) false (World.doorLaid Tryd.prog 400 os) #[.agg #[.int .u8 0, .int .u8 0, .int .u8 0, .int .u8 0, .int .i16 0]] rfl (by kernel_rfl) (by kernel_rfl) (by kernel_rfl)
      (OpenSpec.preRow_of_cond 8 hx (by kernel_rfl) (fun k hk => by cases hk) (by kernel_rfl) (laid_met os))) ?_
  intro W base args ds gs before hval hW _ _ _ hL hS _
  exact contract H enc W base args ds gs before hval hW (tw_of hL hS)
theorem said : Rows.TextShowsSaid :=
  OpenClaim.holds_of_cond 3 Tryd.f3 rfl rfl rfl rfl rfl rfl rfl ⟨rfl, rfl, rfl, rfl, rfl⟩ rfl rfl rfl rfl rfl (by kernel_rfl) Tryd.func3 (by kernel_rfl)
    (of_decide_eq_true (by kernel_rfl)) (by unfold Func.isWrapper; first | (rw [if_pos (by decide +kernel)]; kernel_rfl) | (rw [if_neg (by decide +kernel)]; exact ⟨rfl, rfl⟩))
    (fun os started H enc _ F => by rw [OpenClaim.pre_eq_preRow]; exact lifted os started H enc F)
theorem plain (f : FuncId) (fn : Func) (hf : Tryd.pinned.checked.prog.funcNamed Rows.textShowsRow.func = some f) (hfn : Tryd.pinned.checked.prog.funcs[f]? = some fn) :
    Rows.textShowsCard.stood.looks = Tryd.pinned.checked.prog.looks [] ∧ ∀ (j : Nat) t, fn.params[j]? = some t → Tryd.pinned.checked.prog.wantsStandIn t = false := by
  obtain rfl : f = 3 := Option.some.inj ((show Tryd.prog.funcNamed Rows.textShowsRow.func = some 3 by kernel_rfl).symm.trans hf) |>.symm
  obtain rfl : fn = Tryd.f3 := (Option.some.inj (Tryd.func3.symm.trans hfn)).symm
  refine ⟨by kernel_rfl, fun j t ht => ?_⟩
  rw [Tryd.params3] at ht
  have hm : t ∈ [24] := by simpa using Array.mem_of_getElem? ht
  have hall : ([24].all fun u => !Tryd.prog.wantsStandIn u) = true := by kernel_rfl
  exact (show Tryd.prog.wantsStandIn t = false by simpa using List.all_eq_true.1 hall t hm)
/-- THE TIED CARD. -/
theorem proved : Rows.TextShowsCardSaid :=
  Claim7.holds_tied_plain_at .later [] _ _ _ _ said (fun _ h => by cases h) (by kernel_rfl) (fun _ h => by cases h) textShows_row_tie rfl ⟨rfl, rfl⟩ (by kernel_rfl) rfl plain (by kernel_rfl)
#print axioms proved
end Go.Proofs.YthgopodjplpefaaDoor.textShows
