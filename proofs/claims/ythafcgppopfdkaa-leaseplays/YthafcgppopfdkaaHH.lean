/-
  The walk of LeaseGets.
-/
import Derived.Test.YthafcgppopfdkaaHG
namespace Go.Proofs.Ythafcgppopfdkaa
open Go.ChangeShapes Go.WideShapes Go.ChangeAt Go.RowKit
set_option maxRecDepth 100000
set_option linter.unusedVariables false

theorem wpQuiet_valH {P : Program} {ops : Array Oper} {C : World → Prop} {Q : Act → Prop} {a : Act} {o : Oper} {rest : List Oper} (hw : Region.wanted o (yielded ops a.tmps) = true) (v : Value) (h1 : ∀ w, C w → (execOp a.eval o).run P w = .ok (.value v) w)
    (h : wpQuiet P ops C Q rest (a.put o.dst v)) : wpQuiet P ops C Q (o :: rest) a := by
  unfold wpQuiet
  rw [if_pos hw]
  refine ⟨v, fun w hw' => ?_, h⟩
  unfold Oper.quietAt
  rw [h1 w hw']
  exact ⟨rfl, rfl⟩
theorem wpQuiet_askH {P : Program} {ops : Array Oper} {C : World → Prop} {Q : Act → Prop} {a : Act} {o : Oper} {rest : List Oper} (hw : Region.wanted o (yielded ops a.tmps) = true) (f : FuncId) (args : Array Value) (ho : ∀ w, (execOp a.eval o).run P w = .ok (.enter f args) w) (v : Value)
    (h1 : ∀ w, C w → Calls P f args w (fun e w'' => e = .returned v ∧ C w'')) (h : wpQuiet P ops C Q rest (a.put o.dst v)) : wpQuiet P ops C Q (o :: rest) a := by
  unfold wpQuiet
  rw [if_pos hw]
  refine ⟨v, fun w hw' => ?_, h⟩
  unfold Oper.quietAt
  rw [ho w]
  exact ⟨rfl, h1 w hw'⟩
theorem run_ldLop {w : World} {B : Nat} {v : LsV} (h : BL w B 42 v.cells) {a : Act} {o : Oper} (x : Operand) (ho : o.op = .load 42 x) (hx : a.eval x = .pointer (some ⟨B, 0, none⟩)) : (execOp a.eval o).run Try.prog w = .ok (.value (.agg v.cells)) w := by
  unfold execOp
  simp only [ho, hx, Instr.loadAt, Instr.sureAddr, Sem.run_bind, Sem.run_pure, Result.andThen_ok, run_loadVar_row w B 42 42 v.cells (0, 0) _ h Try.underlying42 rfl sizeL]
theorem run_ldE {w : World} {B n : Nat} {v : LsV} (h : Row6 w B n v) : (loadVar 42 ⟨B, n * 6, none⟩).run Try.prog w = .ok (.agg v.cells) w := by
  have hl : (loadCells ⟨B, n * 6, none⟩ v.cells.toList.length).run Try.prog w = .ok v.cells.toList.toArray w := run_loadCells_list (P := Try.prog) w ⟨B, n * 6, none⟩ v.cells.toList (fun j u hv => by
    have hj : j < 6 := by
      have := (List.getElem?_eq_some_iff.1 hv).1
      simpa [LsV.cells] using this
    rw [add_to]
    have h6 : j = 0 ∨ j = 1 ∨ j = 2 ∨ j = 3 ∨ j = 4 ∨ j = 5 := by omega
    rcases h6 with rfl | rfl | rfl | rfl | rfl | rfl
    · rw [Nat.add_zero, h.c0]; exact hv
    · rw [h.c1]; exact hv
    · rw [h.c2]; exact hv
    · rw [h.c3]; exact hv
    · rw [h.c4]; exact hv
    · rw [h.c5]; exact hv)
  have hagg := run_aggA 42 true (by rw [Try.underlying42]) w
  have hs := sizeL
  cases hq : Try.prog.info? 42 with
  | none => simp [hq] at hs
  | some i =>
    have hs' : i.size = 6 := by simpa [hq] using hs
    have h6 : v.cells.toList.length = 6 := rfl
    rw [h6] at hl
    simp only [Array.toArray_toList] at hl
    simp [loadVar, Sem.run_bind, hagg, sizeOf, typeInfo, hq, hs', hl]
theorem run_ldEop {w : World} {B n : Nat} {v : LsV} (h : Row6 w B n v) {a : Act} {o : Oper} (x : Operand) (ho : o.op = .load 42 x) (hx : a.eval x = .pointer (some ⟨B, n * 6, none⟩)) : (execOp a.eval o).run Try.prog w = .ok (.value (.agg v.cells)) w := by
  unfold execOp
  simp only [ho, hx, Instr.loadAt, Instr.sureAddr, Sem.run_bind, Sem.run_pure, Result.andThen_ok, run_ldE h]
theorem run_eqLop {w : World} {v : LsV} {a : Act} {o : Oper} (x y : Operand) (ho : o.op = .binOp .eql 42 x y 42) (hx : a.eval x = .agg v.cells) (hy : a.eval y = .agg v.cells) : (execOp a.eval o).run Try.prog w = .ok (.value (.bool true)) w := by
  have hg := run_eqGuard_agg (P := Try.prog) w .eql 42 x y v.cells v.cells (by kernel_rfl)
  simp [execOp, ho, hx, hy, run_eql_struct w, eq_lease 9998 v, hg]
theorem getV0 (b : Nat → LsV) (n : Int) : ∃ v e, (okB b n = false → e = 2) ∧ (okB b n = true → e = 0 ∧ v = b n.toNat) ∧ (okB b n = false → v = LsV.zero) ∧ ∀ w, Calls Try.prog 23 #[.agg (BKA b), .int .i64 n] w fun e' w' => e' = .returned (.tuple #[.agg v.cells, .int .i64 e]) ∧ Below w.heap.size w w' := by
  cases h : okB b n
  · exact ⟨LsV.zero, 2, fun _ => rfl, fun h => (by cases h), fun _ => rfl, get_no h⟩
  · obtain ⟨m, rfl, hm, ho⟩ := okB_yes h
    exact ⟨b m, 0, fun h => (by cases h), fun _ => ⟨rfl, rfl⟩, fun h => (by cases h), get_yes hm ho⟩
theorem wpList_bd0' {ops : Array Oper} {rest : List Oper} {o : Oper} {a : Act} {w : World} {Q : Exit → Act → World → Prop} (hw : Region.wanted o (yielded ops a.tmps) = true) (ho : o.op = .build 42 #[]) (_ : True = True)
    (h : wpList Try.prog ops Q rest (a.put o.dst (.agg LsV.zero.cells)) w) : wpList Try.prog ops Q (o :: rest) a w := by
  have hb := built_zero
  have he : ((#[] : Array (Nat × Operand)).map fun (i, x) => (i, a.eval x)).toList = [] := by simp
  refine wpList_step fun _ hK => ?_
  rw [if_pos hw]
  refine wp_build 42 #[] ho ?_ ?_
  · rw [he, hb]; rfl
  · rw [he, hb]; exact hK _ _ h
/-- What stands in LeaseGets. -/
structure GeI (w wr : World) (K X : Nat) (b : Nat → LsV) (v : LsV) : Prop where
  l : OB w wr w.heap.size 43 (BKA b)
  k : OB w wr K 44 (BKA b)
  x : OB w wr X 42 v.cells
theorem GeI.below {w wr w' : World} {K X : Nat} {b : Nat → LsV} {v : LsV} (h : GeI w wr K X b v) (hb : Below wr.heap.size wr w') : GeI w w' K X b v := ⟨h.l.below hb, h.k.below hb, h.x.below hb⟩
set_option maxHeartbeats 4000000 in
theorem leaseGets_core (b : Nat → LsV) (n : Int) (w : World) :
    Calls Try.prog 8 #[.agg (BKA b), .int .i64 n] w fun e w' => e = .returned (.bool true) ∧ Below w.heap.size w w' := by
  have HZ := zeroB_run
  have HY := zeroL_run
  have HA := Lib.hid awake14_in
  obtain ⟨v, er, he0, he1, hz, hg⟩ := getV0 b n
  have HV0 := Lib.hid hz
  have HG := Lib.hid hg
  have HE0 := Lib.hid he0
  have HE1 := Lib.hid he1
  have o1 := Lib.hid (ob_new (Below.refl w.heap.size w) 43 (BKA b))
  have b2 := below_new w (.cells (BKA b) 43)
  have o2 := Lib.hid ((o1.out).below (lay_below _ 44 (BKA fun _ => LsV.zero) (BKA b)))
  have o3 := Lib.hid (ob_lay b2 44 (BKA fun _ => LsV.zero) (BKA b))
  have hsz : (w.alloc (.cells (BKA b) 43)).heap.size = w.heap.size + 1 := by simp
  have z3 := Lib.hid (bl_newAt (w.alloc (.cells (BKA b) 43)) 44 (BKA fun _ => LsV.zero) (w.heap.size + 1) hsz)
  rw [hsz] at o2 o3
  clear he0 he1 hg hz b2 hsz
  go_enter Try.func8, Try.ntmps8
  go_wp2_with (first
    | (refine wpList_ldB2 rfl (.tmp 2) rfl w.heap.size rfl 43 b (o1.out).bl ?_)
    | (refine wpList_stB rfl (.tmp 5) (.tmp 8) rfl (w.heap.size + 1) rfl 44 (fun _ => LsV.zero) b rfl z3.out ?_)
    | (refine wpList_ldB rfl (.tmp 5) rfl (w.heap.size + 1) rfl 44 b (o3.out).bl ?_))
  refine (HG.out _).mono ?_
  rintro e w1 ⟨rfl, b1⟩
  have HI : Hid (GeI w ((w1.alloc (.cells LsV.zero.cells 42)).setRow w1.heap.size v.cells) (w.heap.size + 1) w1.heap.size b v) := Lib.hid
    ⟨((o2.out).below b1).below (lay_below _ _ _ _), ((o3.out).below b1).below (lay_below _ _ _ _), ob_lay ((o3.out).below b1).bel _ _ _⟩
  have z4 := Lib.hid (newL w1 LsV.zero)
  clear o1 o2 o3 z3 b1 HG
  go_upto_region 3 with (refine wpList_stL rfl (.tmp 6) (.tmp 13) rfl w1.heap.size rfl LsV.zero v rfl z4.out ?_)
  generalize (w1.alloc (.cells LsV.zero.cells 42)).setRow w1.heap.size v.cells = V at *
  generalize w1.heap.size = X at *
  clear z4
  cases ho : okB b n
  · obtain rfl := (HE0.out) ho
    have hz := HV0.out ho
    obtain rfl : v = LsV.zero := hz
    by_cases k0 : n < 0
    · clear HE0 HE1 HV0 ho
      go_wp2_with fail
      refine (HA.out _).mono ?_
      rintro e w5 ⟨rfl, b5⟩
      have HF := Lib.hid ((HI.out).below b5)
      clear HI b5
      go_wp2_with (first
        | (refine wpList_ldL rfl (.tmp 6) rfl X rfl LsV.zero (HF.out).x.bl ?_)
        | (refine wpList_bd0' rfl rfl rfl ?_)
        | (refine wpList_eqL rfl (.tmp 34) (.tmp 35) rfl LsV.zero rfl rfl ?_))
      go_ret
      exact ⟨rfl, (HF.out).l.bel⟩
    by_cases k1 : 15 < n
    · clear HE0 HE1 HV0 ho
      go_wp2_with fail
      refine (HA.out _).mono ?_
      rintro e w5 ⟨rfl, b5⟩
      have HF := Lib.hid ((HI.out).below b5)
      clear HI b5
      go_wp2_with (first
        | (refine wpList_ldL rfl (.tmp 6) rfl X rfl LsV.zero (HF.out).x.bl ?_)
        | (refine wpList_bd0' rfl rfl rfl ?_)
        | (refine wpList_eqL rfl (.tmp 34) (.tmp 35) rfl LsV.zero rfl rfl ?_))
      go_ret
      exact ⟨rfl, (HF.out).l.bel⟩
    obtain ⟨m, rfl⟩ := Int.eq_ofNat_of_zero_le (by omega : 0 ≤ n)
    have hm : m < 16 := by omega
    have hon : (b m).on = false := by
      unfold okB at ho
      rw [decide_eq_true ⟨by omega, by omega⟩] at ho
      simpa using ho
    have c0 := ((HI.out).l.bl.row6 m hm).c0
    rw [hon] at c0
    have k2 : (m : Int) < 16 := by omega
    clear HE0 HE1 HV0 ho hon
    go_wp2_with fail
    refine (HA.out _).mono ?_
    rintro e w5 ⟨rfl, b5⟩
    have HF := Lib.hid ((HI.out).below b5)
    clear HI b5 c0
    go_wp2_with (first
      | (refine wpList_ldL rfl (.tmp 6) rfl X rfl LsV.zero (HF.out).x.bl ?_)
      | (refine wpList_bd0' rfl rfl rfl ?_)
      | (refine wpList_eqL rfl (.tmp 34) (.tmp 35) rfl LsV.zero rfl rfl ?_))
    go_ret
    exact ⟨rfl, (HF.out).l.bel⟩
  · obtain ⟨rfl, hv⟩ := (HE1.out) ho
    obtain ⟨m, rfl, hm, hon⟩ := okB_yes ho
    obtain rfl : v = b m := hv
    have c0 := ((HI.out).l.bl.row6 m hm).c0
    rw [hon] at c0
    have k0 : ¬ ((m : Int) < 0) := by omega
    have k1 : ¬ (15 < (m : Int)) := by omega
    have k2 : (m : Int) < 16 := by omega
    clear HE0 HE1 HV0 ho hon
    go_wp2_with fail
    have LA : Hid (∀ w', (∃ s, w' = later V s) → GeI w w' (w.heap.size + 1) X b (b m)) := Lib.hid (by rintro _ ⟨s, rfl⟩; exact (HI.out).below (below_later V s))
    refine wp_region_later (by kernel_rfl) (by kernel_rfl) ?_
    refine wpQuiet_askH rfl 17 #[] (fun w => by simp [go_sem]) (.bool true) (by rintro _ ⟨s, rfl⟩; exact later_left ((HA.out _).mono (fun e w' h => h))) ?_
    go_simp
    iterate 5 (refine wpQuiet_step (fun K hK => ?_); go_simp; refine hK _ ?_; clear hK K)
    refine wpQuiet_valH rfl (.agg (b m).cells) (fun w' h' => run_ldLop (LA.out w' h').x.bl (.tmp 6) rfl rfl) ?_
    go_simp
    iterate 2 (refine wpQuiet_step (fun K hK => ?_); go_simp; refine hK _ ?_; clear hK K)
    refine wpQuiet_valH rfl (.agg (b m).cells) (fun w' h' => run_ldEop ((LA.out w' h').l.bl.row6 m hm) (.tmp 46) rfl rfl) ?_
    go_simp
    refine wpQuiet_valH rfl (.bool true) (fun w' h' => run_eqLop (v := b m) (.tmp 44) (.tmp 47) rfl rfl rfl) ?_
    go_simp
    iterate 2 (refine wpQuiet_step (fun K hK => ?_); go_simp; refine hK _ ?_; clear hK K)
    refine wpQuiet_nil ?_
    intro s3
    go_simp
    have HF := Lib.hid ((HI.out).below (below_later V s3))
    clear LA c0
    generalize later V s3 = w3 at *
    go_wp2
    go_ret
    exact ⟨rfl, (HF.out).l.bel⟩
end Go.Proofs.Ythafcgppopfdkaa
