/-
  PROVED: for every list of instructions l and every number at the law TextFaults returns true: the first line that is none is told, with nothing laid; and the arguments read as they did. Condition (tied to the program's text by the card): the package variables hold what their initialisers lay.
-/
import Derived.Test.YthgopodjplpefaaDoorRows
import Derived.Test.YthgopodjplpefaaDoorWM
import Derived.Test.YthgopodjplpefaaDoorWC
import Derived.Test.YthgopodjplpefaaDoorLT
import Derived.Test.YthgopodjplpefaaDoorCM
import Derived.Test.YthgopodjplpefaaDoorCC
import Derived.Test.YthgopodjplpefaaDoorCD
import Derived.Test.YthgopodjplpefaaDoorCE
import Derived.Test.YthgopodjplpefaaDoorCR
import Derived.Test.YthgopodjplpefaaDoorTX
import Derived.Test.YthgopodjplpefaaDoorTS
import Derived.Test.YthgopodjplpefaaDoorTR
import Derived.Test.YthgopodjplpefaaDoorTG
import Derived.Test.YthgopodjplpefaaDoorTD
import Derived.Test.YthgopodjplpefaaDoorTL
import Derived.Test.YthgopodjplpefaaDoorTV
import Derived.Test.YthgopodjplpefaaDoorTT
import Derived.Test.YthgopodjplpefaaDoorTU
import Derived.Test.YthgopodjplpefaaDoorCN
import Derived.Test.YthgopodjplpefaaDoorTP
import Derived.Test.YthgopodjplpefaaDoorTY
import Derived.Test.YthgopodjplpefaaDoorTZ
import Derived.Test.YthgopodjplpefaaDoorTF
import Derived.WalkKit
import Derived.ProofKit
import Derived.OpenShut
import Derived.ShutString
import Derived.ChangeOld
import Derived.Below
import Derived.Deep.CutBlock
import Derived.Deep.RegionHeld3
import Derived.Deep.Slices
import Derived.Deep.Fields
import Derived.Test.YthgopodjplpefaaDoorCards
import Derived.Test.YthgopodjplpefaaDoorTie
import Derived.Deep.DeepHandedRow
import Derived.Deep.DeepWitnessRowRef
import Derived.LaidMore
import Derived.Stop.Joined
import Derived.SevenTiedAt
namespace Go.Proofs.YthgopodjplpefaaDoor.textFaults
open Go.Proofs.YthgopodjplpefaaDoor Go.Proofs.YthgopodjplpefaaDoor.WM Go.Proofs.YthgopodjplpefaaDoor.CM
open Go.ChangeShapes Go.WideShapes Go.ChangeAt Go.RowKit
open Go.ChangeMaps (open_string shut_string)
set_option linter.unusedVariables false
set_option maxRecDepth 100000

theorem own : ownKnob Tryd.prog.godebug = none := by kernel_rfl
theorem laidOut : laidOutB Tryd.prog = true := by kernel_rfl
theorem wf_u8 {a : Int} (h : (Lit.int .u8 a).wf = true) : ∃ n : Nat, a = n ∧ n < 256 := by
  simp only [Lit.wf, IntKind.min, IntKind.max, IntKind.signed, IntKind.bits, Bool.and_eq_true] at h
  simp at h
  exact ⟨a.toNat, by omega, by omega⟩
theorem wf_i16 {a : Int} (h : (Lit.int .i16 a).wf = true) : -32768 ≤ a ∧ a ≤ 32767 := by
  simp only [Lit.wf, IntKind.min, IntKind.max, IntKind.signed, IntKind.bits, Bool.and_eq_true, decide_eq_true_eq] at h
  simp at h
  omega
/-- What the walk is told of a slice of structs that came in: for each of its elements the fields' cells. -/
def IsS37 (w : World) (a : Option Addr) (len : Nat) : Prop :=
  len ≤ maxLen ∧ ∀ i, i < len → ∃ b off, a = some ⟨b, off, none⟩ ∧ b < w.heap.size ∧ ∃ (Code : Nat) (A : Nat) (B : Nat) (C : Nat) (N : Int), w.cell? ⟨b, off + i * 5 + 0, none⟩ = some (.int .u8 Code) ∧ w.cell? ⟨b, off + i * 5 + 1, none⟩ = some (.int .u8 A) ∧ w.cell? ⟨b, off + i * 5 + 2, none⟩ = some (.int .u8 B) ∧ w.cell? ⟨b, off + i * 5 + 3, none⟩ = some (.int .u8 C) ∧ w.cell? ⟨b, off + i * 5 + 4, none⟩ = some (.int .i16 N) ∧ Code < 256 ∧ A < 256 ∧ B < 256 ∧ C < 256 ∧ (-32768 ≤ N ∧ N ≤ 32767)
theorem add_two (b off i j : Nat) : ((⟨b, off, none⟩ : Addr).add i).add j = ⟨b, off + i + j, none⟩ := by
  unfold Addr.add
  split <;> split <;> simp_all
theorem openS37 {H : Type} {enc : TypeId × Value → H} {w : World} {base : Nat} {a : Option Addr} {len cap : Nat} {d : DataW H} {p : List MemPlace}
    (h : DataW.Trod enc Tryd.prog w base (fun _ => true) true 37 (.slice a len cap) d p) : IsS37 w a len := by
  obtain ⟨fuel, hf⟩ := h
  rcases Go.Deep.open_slice Tryd.underlying37 hf with ⟨hcs, _⟩ | ⟨x, l, c, m, n, D, Pl, hcs, _, hl, hm, hmm, _, hi⟩
  · simp [Value.cells] at hcs
    obtain ⟨rfl, rfl, rfl⟩ := hcs
    exact ⟨by unfold maxLen; omega, fun i hi => by omega⟩
  · simp [Value.cells] at hcs
    obtain ⟨rfl, rfl, rfl⟩ := hcs
    refine ⟨by omega, fun i hil => ?_⟩
    have hC : Tryd.prog.cellsOf 24 = 5 := by kernel_rfl
    have hlm : len ≤ m := by rw [hmm]; split <;> omega
    obtain ⟨b, off, spot⟩ := x
    have hspot : spot = none := by
      obtain ⟨cs0, hc0, _⟩ := hi 0 (by omega)
      obtain ⟨_, hl0, hat0⟩ := World.cells?_some hc0
      rw [hC] at hl0 hat0
      have h0 := hat0 0 (by decide)
      rw [List.getElem?_eq_getElem (by omega)] at h0
      simpa [Addr.add] using World.cell?_spot h0
    subst hspot
    obtain ⟨cs', hc, ht'⟩ := hi i (by omega)
    obtain ⟨_, hcl, hat⟩ := World.cells?_some hc
    obtain ⟨xs, n', _, _, _, hxl, hfs⟩ := DataW.trod_struct Tryd.underlying24 ht'
    rw [hC] at hcl hat
    obtain ⟨y0, hy0⟩ : ∃ y, xs[0]? = some y := ⟨_, List.getElem?_eq_getElem (by rw [hxl]; decide)⟩
    have t0 := (hfs 0 _ rfl).trans hy0
    have e0 : (cs'.drop 0).take (Tryd.prog.cellsOf 5) = [cs'[0]'(by omega)] := by
      rw [show Tryd.prog.cellsOf 5 = 1 from by kernel_rfl, List.drop_eq_getElem_cons (by omega)]; rfl
    have q0 := hat 0 (by decide)
    rw [List.getElem?_eq_getElem (by omega), add_two] at q0
    replace t0 : DataW.trod enc Tryd.prog w base (fun _ => true) true n' 5 [cs'[0]'(by omega)] = some y0 := by rw [← e0]; exact t0
    obtain ⟨z0, k0, _, w0⟩ := DataW.trod_int Tryd.underlying5 t0
    rw [List.cons.injEq] at k0
    rw [k0.1] at q0
    obtain ⟨n0, rfl, b0⟩ := wf_u8 w0
    obtain ⟨y1, hy1⟩ : ∃ y, xs[1]? = some y := ⟨_, List.getElem?_eq_getElem (by rw [hxl]; decide)⟩
    have t1 := (hfs 1 _ rfl).trans hy1
    have e1 : (cs'.drop 1).take (Tryd.prog.cellsOf 5) = [cs'[1]'(by omega)] := by
      rw [show Tryd.prog.cellsOf 5 = 1 from by kernel_rfl, List.drop_eq_getElem_cons (by omega)]; rfl
    have q1 := hat 1 (by decide)
    rw [List.getElem?_eq_getElem (by omega), add_two] at q1
    replace t1 : DataW.trod enc Tryd.prog w base (fun _ => true) true n' 5 [cs'[1]'(by omega)] = some y1 := by rw [← e1]; exact t1
    obtain ⟨z1, k1, _, w1⟩ := DataW.trod_int Tryd.underlying5 t1
    rw [List.cons.injEq] at k1
    rw [k1.1] at q1
    obtain ⟨n1, rfl, b1⟩ := wf_u8 w1
    obtain ⟨y2, hy2⟩ : ∃ y, xs[2]? = some y := ⟨_, List.getElem?_eq_getElem (by rw [hxl]; decide)⟩
    have t2 := (hfs 2 _ rfl).trans hy2
    have e2 : (cs'.drop 2).take (Tryd.prog.cellsOf 5) = [cs'[2]'(by omega)] := by
      rw [show Tryd.prog.cellsOf 5 = 1 from by kernel_rfl, List.drop_eq_getElem_cons (by omega)]; rfl
    have q2 := hat 2 (by decide)
    rw [List.getElem?_eq_getElem (by omega), add_two] at q2
    replace t2 : DataW.trod enc Tryd.prog w base (fun _ => true) true n' 5 [cs'[2]'(by omega)] = some y2 := by rw [← e2]; exact t2
    obtain ⟨z2, k2, _, w2⟩ := DataW.trod_int Tryd.underlying5 t2
    rw [List.cons.injEq] at k2
    rw [k2.1] at q2
    obtain ⟨n2, rfl, b2⟩ := wf_u8 w2
    obtain ⟨y3, hy3⟩ : ∃ y, xs[3]? = some y := ⟨_, List.getElem?_eq_getElem (by rw [hxl]; decide)⟩
    have t3 := (hfs 3 _ rfl).trans hy3
    have e3 : (cs'.drop 3).take (Tryd.prog.cellsOf 5) = [cs'[3]'(by omega)] := by
      rw [show Tryd.prog.cellsOf 5 = 1 from by kernel_rfl, List.drop_eq_getElem_cons (by omega)]; rfl
    have q3 := hat 3 (by decide)
    rw [List.getElem?_eq_getElem (by omega), add_two] at q3
    replace t3 : DataW.trod enc Tryd.prog w base (fun _ => true) true n' 5 [cs'[3]'(by omega)] = some y3 := by rw [← e3]; exact t3
    obtain ⟨z3, k3, _, w3⟩ := DataW.trod_int Tryd.underlying5 t3
    rw [List.cons.injEq] at k3
    rw [k3.1] at q3
    obtain ⟨n3, rfl, b3⟩ := wf_u8 w3
    obtain ⟨y4, hy4⟩ : ∃ y, xs[4]? = some y := ⟨_, List.getElem?_eq_getElem (by rw [hxl]; decide)⟩
    have t4 := (hfs 4 _ rfl).trans hy4
    have e4 : (cs'.drop 4).take (Tryd.prog.cellsOf 22) = [cs'[4]'(by omega)] := by
      rw [show Tryd.prog.cellsOf 22 = 1 from by kernel_rfl, List.drop_eq_getElem_cons (by omega)]; rfl
    have q4 := hat 4 (by decide)
    rw [List.getElem?_eq_getElem (by omega), add_two] at q4
    replace t4 : DataW.trod enc Tryd.prog w base (fun _ => true) true n' 22 [cs'[4]'(by omega)] = some y4 := by rw [← e4]; exact t4
    obtain ⟨z4, k4, _, w4⟩ := DataW.trod_int Tryd.underlying22 t4
    rw [List.cons.injEq] at k4
    rw [k4.1] at q4
    have b4 := wf_i16 w4
    exact ⟨b, off, rfl, World.block_lt_of_cell? _ _ q0, n0, n1, n2, n3, z4, q0, q1, q2, q3, q4, b0, b1, b2, b3, b4⟩

/-! ### the walk -/
set_option maxRecDepth 100000
theorem walk (p_l : Option Addr) (p_l_len p_l_cap : Nat) (p_at : Nat) (hp_at : p_at < 256) (w : World) (hp_l : IsS37 w p_l p_l_len) (hT : TW w) :
    Calls Tryd.prog 6 #[.slice p_l p_l_len p_l_cap, .int .u8 p_at] w fun e w' => e = .returned (.bool true) ∧ Below w.heap.size w w' := by
  obtain ⟨hm, hE⟩ := hp_l
  unfold maxLen at hm
  by_cases h1 : p_l_len = 0 ∨ 20 < p_l_len
  · exact faults_short p_l p_l_len p_l_cap p_at w h1 (by omega) hT
  · have hch : ∀ i, ∃ x : Nat × Nat × Nat × Nat × Int, i < p_l_len → ∃ b off, p_l = some ⟨b, off, none⟩ ∧ b < w.heap.size ∧ w.cell? ⟨b, off + i * 5 + 0, none⟩ = some (.int .u8 x.1) ∧ w.cell? ⟨b, off + i * 5 + 1, none⟩ = some (.int .u8 x.2.1) ∧ w.cell? ⟨b, off + i * 5 + 2, none⟩ = some (.int .u8 x.2.2.1) ∧
        w.cell? ⟨b, off + i * 5 + 3, none⟩ = some (.int .u8 x.2.2.2.1) ∧ w.cell? ⟨b, off + i * 5 + 4, none⟩ = some (.int .i16 x.2.2.2.2) ∧ (-32768 ≤ x.2.2.2.2 ∧ x.2.2.2.2 ≤ 32767) := fun i => by
      by_cases hi : i < p_l_len
      · obtain ⟨b, off, ha, hb, Co, A, B, C, N, q0, q1, q2, q3, q4, _, _, _, _, b4⟩ := hE i hi
        exact ⟨(Co, A, B, C, N), fun _ => ⟨b, off, ha, hb, q0, q1, q2, q3, q4, b4⟩⟩
      · exact ⟨(0, 0, 0, 0, 0), fun h => absurd h hi⟩
    obtain ⟨f, hf⟩ := Classical.axiomOfChoice hch
    exact faults_walk p_l p_l_len p_l_cap p_at (fun i => (f i).1) (fun i => (f i).2.1) (fun i => (f i).2.2.1) (fun i => (f i).2.2.2.1) (fun i => (f i).2.2.2.2) w
      ⟨fun i hi => by
        obtain ⟨b, off, ha, hb, q0, q1, q2, q3, q4, _⟩ := hf i hi
        exact ⟨b, off, ha, hb, q0, q1, q2, q3, q4⟩, fun i hi => by
        obtain ⟨b, off, ha, hb, q0, q1, q2, q3, q4, h5⟩ := hf i hi
        exact h5⟩ (by omega) (by omega) hp_at hT

/-! ### the row's step -/
set_option maxRecDepth 100000 in
theorem contract (H : Type) (enc : TypeId × Value → H) (W : World) (base : Nat) (args : Array Value) (ds gs : List (DataW H)) (before : List MemPlace)
    (hval0 : ∀ (j : Nat) t v, Tryd.f6.params[j]? = some t → args[j]? = some v → Value.okWide Tryd.prog W .any base t v)
    (hW : DataW.Whole enc Tryd.prog Tryd.f6.params.toList Rows.textFaultsSpec.vars false W args.toList ds gs before) (hT : TW W) :
    Calls Tryd.prog 6 args W fun e W' => ∃ v, e = .returned v ∧ Rows.textFaultsSpec.post enc Tryd.prog Tryd.f6 false true false false W args v W' := by
  have hval : ∀ (j : Nat) t v, Tryd.f6.params[j]? = some t → args[j]? = some v → Value.okWide Tryd.prog W .any base t v := hval0
  have hW' := hW
  obtain ⟨p, q, hA0, hV, rfl, hfz, hnd⟩ := hW
  have hA : DataW.TrodAll enc Tryd.prog W 0 (fun _ => true) true Tryd.f6.params.toList args.toList ds p := hA0
  rw [Tryd.params6] at hA hval
  obtain ⟨v0, vs0, d0, ds0, p0, q0, hargs, rfl, rfl, h0, r0⟩ := trodAll_cons hA
  obtain ⟨v1, vs1, d1, ds1, p1, q1, rfl, rfl, rfl, h1, r1⟩ := trodAll_cons r0
  obtain ⟨rfl, rfl, rfl⟩ := trodAll_nil r1
  obtain rfl : args = #[v0, v1] := by cases args; simp_all
  obtain ⟨rfl, rfl⟩ := trodVars_none hV
  obtain ⟨a0, len0, cap0, rfl⟩ := okWide_slice Tryd.underlying37 (hval 0 37 v0 rfl rfl)
  have k0 := h0
  have lt0 : ∀ x ∈ p0, x.block < W.heap.size := by obtain ⟨m, hm⟩ := k0; exact DataW.trod_lt m _ _ _ hm
  have w0 := openS37 h0
  obtain ⟨a1, rfl, rfl, rfl, w1⟩ := open_int Tryd.underlying5 (hval 1 5 v1 rfl rfl) h1
  obtain ⟨n1, rfl, b1⟩ := wf_u8 w1
  clear hA0 hval0
  refine (walk a0 len0 cap0 n1 b1 W w0 hT).mono fun e W' ⟨he, bel⟩ => ?_
  subst he
  exact ⟨_, rfl, _, _, _, [], _, [], hW', trodAll_mk1 (shut_bool Tryd.underlying4 _), (trodAll_cons_mk (Below.trod laidOut (by kernel_rfl) (of_decide_eq_true (by kernel_rfl)) k0 bel lt0) (trodAll_cons_mk (shut_int Tryd.underlying5 w1) trodAll_mk0)), rfl, bel.frame _, fun h => by cases h⟩

theorem laid_met (os : Os) : laidMet Tryd.prog Rows.textFaultsRow.laid ((World.laidAll Tryd.prog os Rows.textFaultsRow.laid).forCall (fun _ _ => 0) ⟨#[], #[.slice none 0 0, .int .u8 0], []⟩).memory :=
  laidMet_laidAll _ (by kernel_rfl) (by kernel_rfl)
theorem reads (os : Os) {H : Type} (enc : TypeId × Value → H) : ∃ places, DataW.whole enc Tryd.prog ((World.laidAll Tryd.prog os Rows.textFaultsRow.laid).forCall (fun _ _ => 0) ⟨#[], #[.slice none 0 0, .int .u8 0], []⟩).memory Tryd.f6.params.toList Rows.textFaultsSpec.vars false #[Value.slice none 0 0, .int .u8 0].toList 8 = some ([.nil, .lit (.int .u8 0)], [], places) :=
  ⟨[], by kernel_rfl⟩
set_option maxRecDepth 100000 in
theorem lifted (os : Os) (started : os.Started) (H : Type) (enc : TypeId × Value → H) (F : Stop.Interp) :
    ReturnsInHanded {} Tryd.checked os 6 .any ((OpenSpec.ofChange Rows.textFaultsSpec).preRow enc Tryd.prog Tryd.f6 Rows.textFaultsRow.domain false Rows.textFaultsRow.laid) (((OpenSpec.ofChange Rows.textFaultsSpec).at F).post enc Tryd.prog Tryd.f6 false true false false) := by
  obtain ⟨places, hx⟩ := reads os enc
  refine returnsInHanded_of_row (C := Tryd.checked) (s := OpenSpec.ofChange Rows.textFaultsSpec) own started (by kernel_rfl) Tryd.func6
    (wit_zip (enc := enc) (C := Tryd.checked) false (World.laidAll Tryd.prog os Rows.textFaultsRow.laid) #[.slice none 0 0, .int .u8 0] (World.laidAll_os _ _ _) (World.shaped_of_ZipB (by kernel_rfl) (by kernel_rfl)) (by kernel_rfl)
      (OpenSpec.preRow_of_cond 8 hx (by kernel_rfl) (fun k hk => by cases hk) (by kernel_rfl) (laid_met os))) ?_
  intro W base args ds gs before hval hW _ _ _ hL hS _
  exact contract H enc W base args ds gs before hval hW (tw_of2 hL hS)
theorem said : Rows.TextFaultsSaid :=
  OpenClaim.holds_of_cond 6 Tryd.f6 rfl rfl rfl rfl rfl rfl rfl ⟨rfl, rfl, rfl, rfl, rfl⟩ rfl rfl rfl rfl rfl (by kernel_rfl) Tryd.func6 (by kernel_rfl)
    (of_decide_eq_true (by kernel_rfl)) (by unfold Func.isWrapper; first | (rw [if_pos (by decide +kernel)]; kernel_rfl) | (rw [if_neg (by decide +kernel)]; exact ⟨rfl, rfl⟩))
    (fun os started H enc _ F => by rw [OpenClaim.pre_eq_preRow]; exact lifted os started H enc F)
theorem plain (f : FuncId) (fn : Func) (hf : Tryd.pinned.checked.prog.funcNamed Rows.textFaultsRow.func = some f) (hfn : Tryd.pinned.checked.prog.funcs[f]? = some fn) :
    Rows.textFaultsCard.stood.looks = Tryd.pinned.checked.prog.looks [] ∧ ∀ (j : Nat) t, fn.params[j]? = some t → Tryd.pinned.checked.prog.wantsStandIn t = false := by
  obtain rfl : f = 6 := Option.some.inj ((show Tryd.prog.funcNamed Rows.textFaultsRow.func = some 6 by kernel_rfl).symm.trans hf) |>.symm
  obtain rfl : fn = Tryd.f6 := (Option.some.inj (Tryd.func6.symm.trans hfn)).symm
  refine ⟨by kernel_rfl, fun j t ht => ?_⟩
  rw [Tryd.params6] at ht
  have hm : t ∈ [37, 5] := by simpa using Array.mem_of_getElem? ht
  have hall : ([37, 5].all fun u => !Tryd.prog.wantsStandIn u) = true := by kernel_rfl
  exact (show Tryd.prog.wantsStandIn t = false by simpa using List.all_eq_true.1 hall t hm)
/-- THE TIED CARD. -/
theorem proved : Rows.TextFaultsCardSaid :=
  Claim7.holds_tied_plain_at .later [] _ _ _ _ said (fun _ h => by cases h) (by kernel_rfl) (fun _ h => by cases h) textFaults_row_tie rfl ⟨rfl, rfl⟩ (by kernel_rfl) rfl plain (by kernel_rfl)
#print axioms proved
end Go.Proofs.YthgopodjplpefaaDoor.textFaults
