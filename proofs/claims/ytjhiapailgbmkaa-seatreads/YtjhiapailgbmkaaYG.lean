/-
  Contract of seat.Unpack: what any words are read as.
-/
import Derived.Test.YtjhiapailgbmkaaYF
namespace Go.Proofs.Ytjhiapailgbmkaa
open Go.ChangeShapes Go.WideShapes Go.ChangeAt Go.RowKit
open WM
set_option maxRecDepth 100000
set_option linter.unusedVariables false

/-- The slice's words, as far as n goes. -/
def W26 (w : World) (a : Option Addr) (n : Nat) (x : Nat → Nat) : Prop := ∃ b off, a = some ⟨b, off, none⟩ ∧ b < w.heap.size ∧ ∀ j, j < n → w.cell? ⟨b, off + j, none⟩ = some (.int .u64 (x j : Nat))
theorem W26.below {w w' : World} {a : Option Addr} {n : Nat} {x : Nat → Nat} (h : W26 w a n x) (hb : Below w.heap.size w w') : W26 w' a n x := by
  obtain ⟨b, off, h1, h2, h3⟩ := h
  exact ⟨b, off, h1, Nat.lt_of_lt_of_le h2 hb.size, fun j hj => (hb.cell h2).trans (h3 j hj)⟩
def mayB (x : Nat → Nat) : Bool := decide (x 22 ≤ 1) && (decide (x 23 ≤ 2) && (decide (x 24 < 256) && decide (x 25 < 256)))
theorem maybe_len (a : Option Addr) (n cap : Nat) (h : n ≠ 26) (w : World) : Calls Try.prog 22 #[.slice a n cap] w fun e w' => e = .returned (.bool false) ∧ w = w' := by
  have z : ((n : Int) == 26) = false := by simp; omega
  clear h
  go_enter Try.func22, Try.ntmps22
  go_wp2
  go_ret
  exact ⟨rfl, rfl⟩
theorem maybe_in {w : World} {a : Option Addr} {x : Nat → Nat} (cap : Nat) (h : W26 w a 26 x) : Calls Try.prog 22 #[.slice a 26 cap] w fun e w' => e = .returned (.bool (mayB x)) ∧ w = w' := by
  obtain ⟨b, off, rfl, hlt, hc⟩ := h
  have c1 := hc 22 (by omega)
  have c2 := hc 23 (by omega)
  have c3 := hc 24 (by omega)
  have c4 := hc 25 (by omega)
  have H1 := Lib.hid (lines_in (x 24))
  have H2 := Lib.hid (lines_in (x 25))
  obtain ⟨r, hr⟩ : ∃ r, mayB x = r := ⟨_, rfl⟩
  rw [hr]
  unfold mayB at hr
  clear hc
  generalize x 22 = x1 at *
  generalize x 23 = x2 at *
  generalize x 24 = x3 at *
  generalize x 25 = x4 at *
  by_cases h1 : x1 ≤ 1
  · have g1 : (x1 : Int) ≤ 1 := by omega
    by_cases h2 : x2 ≤ 2
    · have g2 : (x2 : Int) ≤ 2 := by omega
      by_cases h3 : x3 < 256
      · simp only [h1, h2, h3, decide_true, Bool.true_and] at hr H1
        have HR := Lib.hid hr
        clear hr h1 h2 h3
        go_enter Try.func22, Try.ntmps22
        go_wp2_with fail
        refine (H1.out _).mono ?_
        rintro e w1 ⟨rfl, rfl⟩
        go_wp2_with fail
        refine (H2.out _).mono ?_
        rintro e w1 ⟨rfl, rfl⟩
        go_wp2
        go_ret
        exact ⟨by rw [← HR.out]; rfl, rfl⟩
      · simp only [h1, h2, h3, decide_true, decide_false, Bool.true_and, Bool.false_and] at hr H1
        have HR := Lib.hid hr
        clear hr h1 h2 h3
        go_enter Try.func22, Try.ntmps22
        go_wp2_with fail
        refine (H1.out _).mono ?_
        rintro e w1 ⟨rfl, rfl⟩
        go_wp2
        go_ret
        exact ⟨by rw [← HR.out]; rfl, rfl⟩
    · have g2 : ¬ (x2 : Int) ≤ 2 := by omega
      simp only [h1, h2, decide_true, decide_false, Bool.true_and, Bool.false_and] at hr
      have HR := Lib.hid hr
      clear hr h1 h2
      go_enter Try.func22, Try.ntmps22
      go_wp2
      go_ret
      exact ⟨by rw [← HR.out]; rfl, rfl⟩
  · have g1 : ¬ (x1 : Int) ≤ 1 := by omega
    simp only [h1, decide_false, Bool.false_and] at hr
    have HR := Lib.hid hr
    clear hr h1
    go_enter Try.func22, Try.ntmps22
    go_wp2
    go_ret
    exact ⟨by rw [← HR.out]; rfl, rfl⟩

/-! ### Unpack -/
theorem results_seat {fn : Func} {p u : Tmp} (hr : fn.results = #[.cell p 26, .tmp u]) {tmps : Array Value} {W : World} {B : Nat} {s : SV} (hp : tmps.getD p undef = .pointer (some ⟨B, 0, none⟩)) (hL : LS W B s) :
    (results fn tmps).run Try.prog W = .ok (.tuple #[s.agg, tmps.getD u undef]) W := by
  have hl := run_loadVar_row (P := Try.prog) W B 26 26 s.cells (0, 0) _ hL Try.underlying26 rfl sizeS
  have hp' : tmps[p]?.getD undef = .pointer (some ⟨B, 0, none⟩) := by simpa using hp
  simp only [results, hr]
  simp [hp', asAddr, hl, SV.agg]
theorem wpList_bd0 {ops : Array Oper} {rest : List Oper} {o : Oper} {a : Act} {w : World} {Q : Exit → Act → World → Prop} (hg : o.guard = none) (ho : o.op = .build 26 #[])
    (h : wpList Try.prog ops Q rest (a.put o.dst SV.zero.agg) w) : wpList Try.prog ops Q (o :: rest) a w := by
  have hb : Try.prog.built 26 [] = some SV.zero.cells := by kernel_rfl
  have he : ((#[] : Array (Nat × Operand)).map fun (i, x) => (i, a.eval x)).toList = [] := by simp
  refine wpList_build hg 26 #[] ho ?_ ?_
  · rw [he, hb]; rfl
  · rw [he, hb]; exact h
theorem unpack_no (a : Option Addr) (n cap : Nat) (w : World) (hm : ∀ W, Below w.heap.size w W → Calls Try.prog 22 #[.slice a n cap] W fun e w' => e = .returned (.bool false) ∧ W = w') :
    Calls Try.prog 12 #[.slice a n cap] w fun e w' => e = .returned (.tuple #[SV.zero.agg, .bool false]) ∧ Below w.heap.size w w' := by
  have HZ := zeroS_run
  have HM := Lib.hid hm
  have HL := Lib.hid (ls_new w SV.zero)
  have HB := Lib.hid (below_new w (.cells SV.zero.cells 26))
  have HO := Lib.hid ((ow_box w SV.zero).put SV.zero)
  clear hm
  unfold SV.agg at *
  go_enter Try.func12, Try.ntmps12
  go_wp2_with fail
  refine (HM.out _ HB.out).mono ?_
  rintro e w1 ⟨rfl, rfl⟩
  go_wp2_with (first
    | (refine wpList_bd0 rfl rfl ?_; unfold SV.agg)
    | (refine wpList_stS rfl (.tmp 2) (.tmp 8) rfl w.heap.size rfl SV.zero SV.zero rfl HL.out ?_))
  exact bodyPost_ret (results_seat rfl rfl (HO.out).ls) rfl ⟨rfl, (HO.out).bel⟩
/-- The seat that is read. -/
def readV (x : Nat → Nat) : SV := ⟨x, x 16, x 17, x 18, x 19, x 20, x 21, decide (x 22 = 1), x 23, x 24, x 25⟩
def readH (x : Nat → Nat) : SV := ⟨fun _ => 0, x 16, x 17, x 18, x 19, x 20, x 21, decide (x 22 = 1), x 23, x 24, x 25⟩
theorem builtR (p b v e c d : Nat) (o : Bool) (s q m : Nat) : Try.prog.built 26 [(1, .int .u64 p), (2, .int .u64 b), (3, .int .u64 v), (4, .int .u64 e), (5, .int .u64 c), (6, .int .u64 d), (7, .bool o), (8, .int .u8 s), (9, .int .u32 q), (10, .int .u32 m)] =
    some (SV.cells ⟨fun _ => 0, p, b, v, e, c, d, o, s, q, m⟩) := by kernel_rfl
/-- The worlds of Unpack's literal. -/
def upW (x : Nat → Nat) (V : World) : Nat → World
  | 0 => V
  | 1 => V.alloc (.cells SV.zero.cells 26)
  | _ => (V.alloc (.cells SV.zero.cells 26)).setRow V.heap.size (readH x).cells
theorem upW_below (x : Nat → Nat) (V : World) (j : Nat) : Below V.heap.size V (upW x V j) := by
  match j with
  | 0 => exact Below.refl _ _
  | 1 => exact below_new _ _
  | j + 2 => exact (below_new V _).grown (grown_setRowS _ _ _) (by simp) (fun j hj => by injection hj with hj; omega)
theorem srcW {V U : World} {b off : Nat} {x : Nat → Nat} (hlt : b < V.heap.size) (hc : ∀ j, j < 26 → V.cell? ⟨b, off + j, none⟩ = some (.int .u64 (x j : Nat))) (hb : Below V.heap.size V U) (j : Nat) (v : Value) (hj : (wordsV x 16)[j]? = some v) :
    U.cell? ((⟨b, off, none⟩ : Addr).add j) = some v := by
  have hl : j < 16 := by
    have := (List.getElem?_eq_some_iff.1 hj).1
    rwa [wordsV_len] at this
  rw [wordsV_get x hl] at hj
  rw [add_to, ← hj]
  exact (hb.cell hlt).trans (hc j (by omega))
theorem wordsV_one (x : Nat → Nat) (n : Nat) : ∀ v ∈ wordsV x n, v.oneCell' = true := by
  intro v hv
  simp only [wordsV, List.mem_map] at hv
  obtain ⟨j, _, rfl⟩ := hv
  rfl
theorem read_copy (x : Nat → Nat) : (((readH x).cells.toList.take 0) ++ (wordsV x 16 ++ (readH x).cells.toList.drop (0 + (wordsV x 16).length))).toArray = (readV x).cells := by rfl
/-- Two seats of a call's own: the one that is handed back, and another one behind it. -/
structure Ow2U (w w' : World) (B C : Nat) (s t : SV) : Prop where
  a : LS w' B s
  b : LS w' C t
  bel : Below w.heap.size w w'
  lt : B < C
  le : w.heap.size ≤ B
set_option maxHeartbeats 1000000 in
theorem unpack_yes {w : World} {a : Option Addr} {x : Nat → Nat} (cap : Nat) (h : W26 w a 26 x) (hm : mayB x = true) :
    Calls Try.prog 12 #[.slice a 26 cap] w fun e w' => e = .returned (.tuple #[(readV x).agg, .bool true]) ∧ Below w.heap.size w w' := by
  have HZ := zeroS_run
  have HM := Lib.hid (fun W (h : W26 W a 26 x) => maybe_in cap h)
  rw [hm] at HM
  have HB := Lib.hid (below_new w (.cells SV.zero.cells 26))
  have HL := Lib.hid (ls_new w SV.zero)
  have hx := h.below HB.out
  have HX := Lib.hid hx
  unfold mayB at hm
  simp only [Bool.and_eq_true, decide_eq_true_eq] at hm
  obtain ⟨m1, m2, m3, m4⟩ := hm
  have HBR := Lib.hid (builtR (x 16) (x 17) (x 18) (x 19) (x 20) (x 21) (decide (x 22 = 1)) (x 23) (x 24) (x 25))
  have HU : Hid (((x 22 : Int) == 1) = decide (x 22 = 1) ∧ IntKind.u8.wrap (x 23 : Int) = x 23 ∧ IntKind.u32.wrap (x 24 : Int) = x 24 ∧ IntKind.u32.wrap (x 25 : Int) = x 25) := Lib.hid (by
    refine ⟨?_, ?_, ?_, ?_⟩
    · by_cases h : x 22 = 1
      · simp [h]
      · rw [decide_eq_false h, beq_eq_false_iff_ne]; omega
    · rw [IntKind.wrap_u8]; omega
    · rw [IntKind.wrap_u32]; omega
    · rw [IntKind.wrap_u32]; omega)
  clear h m1 m2 m3 m4
  unfold SV.agg at *
  go_enter Try.func12, Try.ntmps12
  go_wp2_with fail
  refine (HM.out _ HX.out).mono ?_
  rintro e w1 ⟨rfl, rfl⟩
  go_wp2_with fail
  generalize w.alloc (.cells SV.zero.cells 26) = V at *
  obtain ⟨b, off, rfl, hlt, hc⟩ := hx
  have hc' := fun j i (hi : i < 26) => ((upW_below x V j).cell (p := ⟨b, off + i, none⟩) hlt).trans (hc i hi)
  have d1 := fun j => hc' j 16 (by omega)
  have d2 := fun j => hc' j 17 (by omega)
  have d3 := fun j => hc' j 18 (by omega)
  have d4 := fun j => hc' j 19 (by omega)
  have d5 := fun j => hc' j 20 (by omega)
  have d6 := fun j => hc' j 21 (by omega)
  have d7 := fun j => hc' j 22 (by omega)
  have d8 := fun j => hc' j 23 (by omega)
  have d9 := fun j => hc' j 24 (by omega)
  have d10 := fun j => hc' j 25 (by omega)
  have HW0 : Hid (upW x V 0 = V) := Lib.hid rfl
  have HW1 : Hid (upW x V 1 = (upW x V 0).alloc (.cells SV.zero.cells 26)) := Lib.hid rfl
  have HW2 : Hid (upW x V 2 = (upW x V 1).setRow V.heap.size (readH x).cells) := Lib.hid rfl
  have HG1 : Hid ((upW x V 1).heap[V.heap.size]? = some (.cells SV.zero.cells 26)) := Lib.hid (ls_new V SV.zero)
  have HE : Hid (∀ n, LS ((upW x V 2).drewN n) V.heap.size (readH x) ∧ Below V.heap.size V ((upW x V 2).drewN n)) := Lib.hid (fun n => ⟨LS.put (ls_new V SV.zero) _, below_draws (upW_below x V 2) n⟩)
  have HH : Hid ((readH x).cells = SV.cells ⟨fun _ => 0, x 16, x 17, x 18, x 19, x 20, x 21, decide (x 22 = 1), x 23, x 24, x 25⟩) := Lib.hid rfl
  rw [← HH.out] at HBR
  clear hc'
  generalize upW x V = W at *
  refine RQ.wp_region_turns W (fun i => [35, 36].contains i) (by kernel_rfl) (by kernel_rfl) (by kernel_rfl) (by kernel_rfl) HW0.out ?_
  iterate 34 (refine RQ.wpT_reads rfl (fun K hK => ?_); go_simp; refine hK _ ?_; clear hK K)
  refine RQ.wpT_build rfl rfl 26 _ rfl _ ?hl _ HBR.out ?_
  case hl => simp [go_sem]; exact HU.out
  go_simp
  have HV0 : Hid ((W 0).heap.size = V.heap.size) := Lib.hid (by rw [HW0.out])
  refine RQ.wpT_turns rfl rfl _ (RQ.turns_alloc 26 rfl SV.zero.cells zeroS_run HW1.out) ?_
  rw [HV0.out]
  go_simp
  refine RQ.wpT_turns rfl rfl _ (RQ.turns_store_row 26 (.tmp 4) (.tmp 43) rfl V.heap.size (readH x).cells SV.zero.cells 26 rfl rfl HG1.out sizeS rfl (cells_one _) HW2.out) ?_
  refine RQ.wpT_nil ?_
  intro n
  go_simp
  obtain ⟨l1, l2⟩ := HE.out n
  have HS := Lib.hid ((srcW hlt hc l2))
  have HL1 := Lib.hid (HL.out.below l2)
  have HLT := (HL.out).lt
  have O1 : Hid (Ow2U w ((W 2).drewN n) w.heap.size V.heap.size SV.zero (readH x)) := Lib.hid ⟨HL1.out, l1, below_up HB.out l2, HLT, Nat.le_refl _⟩
  have HV1 := Lib.hid l1
  clear l1 l2 HE HL HL1 HU HM HX HZ HW0 HW1 HW2 HG1 HV0 HBR HH d1 d2 d3 d4 d5 d6 d7 d8 d9 d10 hc HB
  generalize (W 2).drewN n = U at *
  generalize (readH x).cells = RH at *
  generalize V.heap.size = C at *
  have O2 : Hid (LS (U.setRow C (readV x).cells) C (readV x) ∧ LS (U.setRow C (readV x).cells) w.heap.size SV.zero ∧ Below w.heap.size w (U.setRow C (readV x).cells)) :=
    Lib.hid ⟨(O1.out).b.put _, (O1.out).a.kept (grown_setRowS _ _ _) (by simp; omega), (O1.out).bel.grown (grown_setRowS _ _ _) (O1.out).bel.size (fun j hj => by injection hj with hj; omega)⟩
  have O3 : Hid (LS ((U.setRow C (readV x).cells).setRow w.heap.size (readV x).cells) w.heap.size (readV x) ∧ Below w.heap.size w ((U.setRow C (readV x).cells).setRow w.heap.size (readV x).cells)) :=
    Lib.hid ⟨(O2.out).2.1.put _, (O2.out).2.2.grown (grown_setRowS _ _ _) (O2.out).2.2.size (fun j hj => by injection hj with hj; omega)⟩
  clear O1
  go_wp2_with (first
    | (refine wpList_copy_own rfl (.tmp 45) (.tmp 46) 28 28 rfl 22 (by kernel_rfl) (by kernel_rfl) C 0 16 16 ⟨b, off, none⟩ 26 cap rfl rfl (readH x).cells 26 HV1.out (wordsV x 16) (by rw [wordsV_len]; rfl) HS.out (by rw [wordsV_len]; simp [SV.cells]) (wordsV_one x 16) ?_
       rw [read_copy])
    | (refine wpList_ldS rfl (.tmp 4) rfl C rfl (readV x) (O2.out).1 ?_; unfold SV.agg)
    | (refine wpList_stS rfl (.tmp 2) (.tmp 48) rfl w.heap.size rfl SV.zero (readV x) rfl (O2.out).2.1 ?_))
  exact bodyPost_ret (results_seat rfl rfl (O3.out).1) rfl ⟨rfl, (O3.out).2⟩
end Go.Proofs.Ytjhiapailgbmkaa
