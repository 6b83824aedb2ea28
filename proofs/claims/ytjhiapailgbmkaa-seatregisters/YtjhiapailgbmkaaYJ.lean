/-
  The walk of SeatTraps.
-/
import Derived.Test.YtjhiapailgbmkaaYI
namespace Go.Proofs.Ytjhiapailgbmkaa
open Go.ChangeShapes Go.WideShapes Go.ChangeAt Go.RowKit
set_option maxRecDepth 100000
set_option linter.unusedVariables false

theorem wpQuiet_val {P : Program} {ops : Array Oper} {C : World → Prop} {Q : Act → Prop} {a : Act} {o : Oper} {rest : List Oper} (hw : Region.wanted o (yielded ops a.tmps) = true) (v : Value) (h1 : ∀ w, C w → (execOp a.eval o).run P w = .ok (.value v) w)
    (h : wpQuiet P ops C Q rest (a.put o.dst v)) : wpQuiet P ops C Q (o :: rest) a := by
  unfold wpQuiet
  rw [if_pos hw]
  refine ⟨v, fun w hw' => ?_, h⟩
  unfold Oper.quietAt
  rw [h1 w hw']
  exact ⟨rfl, rfl⟩
theorem wpQuiet_ask {P : Program} {ops : Array Oper} {C : World → Prop} {Q : Act → Prop} {a : Act} {o : Oper} {rest : List Oper} (hw : Region.wanted o (yielded ops a.tmps) = true) (f : FuncId) (args : Array Value) (ho : ∀ w, (execOp a.eval o).run P w = .ok (.enter f args) w) (v : Value)
    (h1 : ∀ w, C w → Calls P f args w (fun e w'' => e = .returned v ∧ C w'')) (h : wpQuiet P ops C Q rest (a.put o.dst v)) : wpQuiet P ops C Q (o :: rest) a := by
  unfold wpQuiet
  rw [if_pos hw]
  refine ⟨v, fun w hw' => ?_, h⟩
  unfold Oper.quietAt
  rw [ho w]
  exact ⟨rfl, h1 w hw'⟩
theorem run_ldS {w : World} {B : Nat} {s : SV} (h : LS w B s) {a : Act} {o : Oper} (x : Operand) (ho : o.op = .load 26 x) (hx : a.eval x = .pointer (some ⟨B, 0, none⟩)) : (execOp a.eval o).run Try.prog w = .ok (.value s.agg) w := by
  unfold execOp
  simp only [ho, hx, Instr.loadAt, Instr.sureAddr, Sem.run_bind, Sem.run_pure, Result.andThen_ok, run_loadVar_row w B 26 26 s.cells (0, 0) _ h Try.underlying26 rfl sizeS]
  rfl
theorem run_neSop {w : World} {s : SV} {a : Act} {o : Oper} (x y : Operand) (ho : o.op = .binOp .neq 26 x y 26) (hx : a.eval x = s.agg) (hy : a.eval y = s.agg) : (execOp a.eval o).run Try.prog w = .ok (.value (.bool false)) w := by
  simp [execOp, ho, hx, hy, run_neS, guardS]
set_option maxHeartbeats 2000000 in
theorem seatTraps_core (S : SV) (c d : Nat) (w : World) : Calls Try.prog 5 #[S.agg, .int .u64 c, .int .u64 d] w fun e w' => e = .returned (.bool true) ∧ Below w.heap.size w w' := by
  have HZ := zeroS_run
  have HN := Lib.hid (near_in S)
  have HL := Lib.hid (ls_new w S)
  have HO := Lib.hid (ow_box w S)
  have HA := Lib.hid awake11_in
  generalize nearV S = T at *
  have HTR := Lib.hid (fun U B (h : LS U B T) => trap_in h c d)
  have HRT := Lib.hid (reftrap_in T c d)
  have HBK := Lib.hid (fun U B (h : LS U B (trapV T c d)) => back_in h)
  unfold SV.agg at *
  go_enter Try.func5, Try.ntmps5
  go_wp2_with (refine wpList_ldS rfl (.tmp 3) rfl w.heap.size rfl S HL.out ?_; unfold SV.agg)
  refine (HN.out _).mono ?_
  rintro e w1 ⟨rfl, b1⟩
  have O1 := Lib.hid ((HO.out).below b1)
  have O2 := Lib.hid ((O1.out).put T)
  have L1 := Lib.hid (O1.out).ls
  clear b1 HN HL HO O1
  have hsz : (w1.setRow w.heap.size T.cells).heap.size = w1.heap.size := by simp
  have HSZ := Lib.hid hsz
  have o4 := (O2.out).twin T
  rw [hsz] at o4
  have O4 := Lib.hid o4
  clear hsz o4
  go_wp2_with (first
    | (refine wpList_stS rfl (.tmp 3) (.tmp 9) rfl w.heap.size rfl S T rfl L1.out ?_)
    | (refine wpList_ldS rfl (.tmp 3) rfl w.heap.size rfl T (O2.out).ls ?_; unfold SV.agg)
    | (refine wpList_stS rfl (.tmp 7) (.tmp 10) rfl w1.heap.size rfl SV.zero T rfl (ls_zeroAt _ _ HSZ.out) ?_))
  refine (HTR.out _ _ (O4.out).a.ls).mono ?_
  rintro e w2 ⟨rfl, h2⟩
  have O5 : Hid (Ow2 w w2 w.heap.size w1.heap.size (trapV T c d) T) := Lib.hid ((O4.out).turnA h2)
  clear h2 O4 O2 L1 HTR
  have HP : Hid ((backV (trapV T c d)).op = true) := Lib.hid rfl
  have HQ : Hid (T.ve ≠ 0 → (backV (trapV T c d)).pc = T.pc ∧ (backV (trapV T c d)).ca = c ∧ (backV (trapV T c d)).ad = d) := Lib.hid (fun h => by unfold trapV; rw [if_neg h]; exact ⟨rfl, rfl, rfl⟩)
  generalize backV (trapV T c d) = Z at *
  generalize trapV T c d = Y at *
  generalize w1.heap.size = C at *
  go_wp2_with fail
  refine wp_region_later (by kernel_rfl) (by kernel_rfl) ?_
  have LA : Hid (∀ w', (∃ s, w' = later w2 s) → LS w' w.heap.size Y) := Lib.hid (by rintro _ ⟨s, rfl⟩; exact (O5.out).a.ls.below (below_later w2 s))
  have LB : Hid (∀ w', (∃ s, w' = later w2 s) → LS w' C T) := Lib.hid (by rintro _ ⟨s, rfl⟩; exact (O5.out).b.ls.below (below_later w2 s))
  refine wpQuiet_val rfl Y.agg (fun w' h' => run_ldS (LA.out w' h') (.tmp 3) rfl rfl) ?_
  go_simp
  refine wpQuiet_val rfl T.agg (fun w' h' => run_ldS (LB.out w' h') (.tmp 7) rfl rfl) ?_
  go_simp
  iterate 2 (refine wpQuiet_step (fun K hK => ?_); go_simp; refine hK _ ?_; clear hK K)
  refine wpQuiet_ask rfl 17 #[T.agg, .int .u64 c, .int .u64 d] (fun w => by simp [go_sem]) Y.agg (by rintro _ ⟨s, rfl⟩; exact later_left ((HRT.out _).mono (fun e w' h => h))) ?_
  go_simp
  refine wpQuiet_val rfl (.bool false) (fun w' _ => run_neSop (s := Y) (.tmp 14) (.tmp 18) rfl rfl rfl) ?_
  refine wpQuiet_nil ?_
  intro s3
  go_simp
  have O6 := Lib.hid ((O5.out).below (below_later w2 s3))
  clear O5 LA LB
  generalize later w2 s3 = w3 at *
  have c1 := (O6.out).b.ls.ve'
  by_cases hv : T.ve = 0
  · rw [hv] at c1
    clear HQ hv
    go_wp2_with fail
    refine (HA.out _).mono ?_
    rintro e w4 ⟨rfl, h4⟩
    have O7 := Lib.hid ((O6.out).below h4)
    clear h4 O6
    go_wp2
    go_ret
    exact ⟨rfl, (O7.out).a.bel⟩
  · have z : ((T.ve : Int) == 0) = false := by simp; omega
    obtain ⟨q1, q2, q3⟩ := HQ.out hv
    clear HQ hv
    have Q1 := Lib.hid q1
    have Q2 := Lib.hid q2
    have Q3 := Lib.hid q3
    clear q1 q2 q3
    go_wp2_with fail
    refine (HBK.out _ _ (O6.out).a.ls).mono ?_
    rintro e w4 ⟨rfl, h4⟩
    have O7 := Lib.hid ((O6.out).turnA h4)
    clear h4 O6 HBK c1
    go_wp2_with fail
    refine (HA.out _).mono ?_
    rintro e w5 ⟨rfl, h5⟩
    have O8 := Lib.hid ((O7.out).below h5)
    clear h5 O7
    have a1 := (O8.out).a.ls.pc'
    have a2 := (O8.out).a.ls.op'
    have a3 := (O8.out).a.ls.ca'
    have a4 := (O8.out).a.ls.ad'
    have b1 := (O8.out).b.ls.pc'
    rw [Q1.out] at a1
    rw [Q2.out] at a3
    rw [Q3.out] at a4
    rw [HP.out] at a2
    go_wp2
    go_ret
    exact ⟨rfl, (O8.out).a.bel⟩
end Go.Proofs.Ytjhiapailgbmkaa
