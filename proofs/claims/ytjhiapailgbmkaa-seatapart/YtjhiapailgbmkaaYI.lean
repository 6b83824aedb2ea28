/-
  The walks of SeatKeeps and SeatTraps.
-/
import Derived.Test.YtjhiapailgbmkaaYH
namespace Go.Proofs.Ytjhiapailgbmkaa
open Go.ChangeShapes Go.WideShapes Go.ChangeAt Go.RowKit
set_option maxRecDepth 100000
set_option linter.unusedVariables false

/-- Two seats of a law's own. -/
structure Ow2 (w w' : World) (B C : Nat) (s t : SV) : Prop where
  a : Ow w w' B s
  b : Ow w w' C t
  ne : B ≠ C
theorem Ow2.turnA {w w1 w2 : World} {B C : Nat} {s t s' : SV} (h : Ow2 w w1 B C s t) (k : Sn w1 w2 B s') : Ow2 w w2 B C s' t := ⟨h.a.turn k, h.b.kept k.gr (fun e => h.ne e.symm) h.a.lb, h.ne⟩
theorem Ow2.turnB {w w1 w2 : World} {B C : Nat} {s t t' : SV} (h : Ow2 w w1 B C s t) (k : Sn w1 w2 C t') : Ow2 w w2 B C s t' := ⟨h.a.kept k.gr h.ne h.b.lb, h.b.turn k, h.ne⟩
theorem Ow2.below {w w1 w2 : World} {B C : Nat} {s t : SV} (h : Ow2 w w1 B C s t) (hb : Below w1.heap.size w1 w2) : Ow2 w w2 B C s t := ⟨h.a.below hb, h.b.below hb, h.ne⟩
theorem Ow2.drawn {w w1 : World} {B C : Nat} {s t : SV} (h : Ow2 w w1 B C s t) (n : Nat) : Ow2 w (w1.drewN n) B C s t := ⟨h.a.drawn n, h.b.drawn n, h.ne⟩
/-- 'was := s'. -/
theorem Ow.twin {w U : World} {B : Nat} {s : SV} (h : Ow w U B s) (t : SV) : Ow2 w ((U.alloc (.cells SV.zero.cells 26)).setRow U.heap.size t.cells) B U.heap.size s t :=
  have hl := h.ls.lt
  have hn := ow_new h.bel t
  ⟨(h.below (below_new U _)).kept (grown_setRowS _ _ _) (by omega) hn.lb, hn, by omega⟩
theorem run_ldR {w : World} {B : Nat} {s : SV} (h : LS w B s) : (loadVar 23 ⟨B, 0, none⟩).run Try.prog w = .ok (.agg (regs s)) w := by
  have hl : (loadCells ⟨B, 0, none⟩ (regs s).toList.length).run Try.prog w = .ok (regs s).toList.toArray w := run_loadCells_list (P := Try.prog) w ⟨B, 0, none⟩ (regs s).toList (fun j v hv => by
    have hj : j < 16 := by
      have := (List.getElem?_eq_some_iff.1 hv).1
      simpa [regs] using this
    have h2 := regs_is s j hj
    have h3 : (regs s).toList[j]? = (regs s)[j]? := by simp
    rw [h3, h2] at hv
    injection hv with hv
    rw [add_at, reg_cell h j hj, hv])
  have hagg := run_aggs 23 true (by rw [Try.underlying23]) w
  have hs : (Try.prog.info? 23).map (·.size) = some 16 := by kernel_rfl
  cases hq : Try.prog.info? 23 with
  | none => simp [hq] at hs
  | some i =>
    have hs' : i.size = 16 := by simpa [hq] using hs
    have h16 : (regs s).toList.length = 16 := rfl
    rw [h16] at hl
    simp only [Array.toArray_toList] at hl
    simp [loadVar, Sem.run_bind, hagg, sizeOf, typeInfo, hq, hs', hl]
theorem wpList_ldR {ops : Array Oper} {rest : List Oper} {o : Oper} {a : Act} {w : World} {Q : Exit → Act → World → Prop} (hw : Region.wanted o (yielded ops a.tmps) = true) (x : Operand) (ho : o.op = .load 23 x)
    (B : Nat) (hx : a.eval x = .pointer (some ⟨B, 0, none⟩)) (s : SV) (hL : LS w B s) (h : wpList Try.prog ops Q rest (a.put o.dst (.agg (regs s))) w) : wpList Try.prog ops Q (o :: rest) a w :=
  wpList_step fun _ hK => by
    rw [if_pos hw]
    unfold Oper.wp execOp
    simp only [ho, hx, Instr.loadAt, Instr.sureAddr, Sem.run_bind, Sem.run_pure, Result.andThen_ok, run_ldR hL]
    exact hK _ _ h
theorem sameR_self (s : SV) : sameR s s = true := by simp [sameR]
theorem run_neR (s t : SV) (hr : s.r = t.r) (w : World) : (binOp .neq 23 (.agg (regs s)) (.agg (regs t))).run Try.prog w = .ok (.bool false) w := by
  have e : regs s = regs t := by unfold regs; rw [hr]
  rw [e, run_neq_struct w 23, eq_regs2 9998 t t w, sameR_self]; rfl
theorem run_eqR (s t : SV) (hr : s.r = t.r) (w : World) : (binOp .eql 23 (.agg (regs s)) (.agg (regs t))).run Try.prog w = .ok (.bool true) w := by
  have e : regs s = regs t := by unfold regs; rw [hr]
  rw [e, run_eql_struct w 23, eq_regs2 9998 t t w, sameR_self]; rfl
theorem guardR (op : BinOp) (x y : Operand) (s t : SV) (w : World) : (eqGuard op 23 x y (.agg (regs s)) (.agg (regs t))).run Try.prog w = .ok () w := run_eqGuard_agg w op _ x y _ _ (by kernel_rfl)
theorem wpList_neR {ops : Array Oper} {rest : List Oper} {o : Oper} {a : Act} {w : World} {Q : Exit → Act → World → Prop} (hw : Region.wanted o (yielded ops a.tmps) = true) (x y : Operand) (ho : o.op = .binOp .neq 23 x y 23)
    (s t : SV) (hr : s.r = t.r) (hx : a.eval x = .agg (regs s)) (hy : a.eval y = .agg (regs t)) (h : wpList Try.prog ops Q rest (a.put o.dst (.bool false)) w) : wpList Try.prog ops Q (o :: rest) a w :=
  wpList_step fun _ hK => by
    rw [if_pos hw]
    unfold Oper.wp
    simp [execOp, ho, hx, hy, run_neR s t hr, guardR]
    exact hK _ _ h
theorem wpList_eqR {ops : Array Oper} {rest : List Oper} {o : Oper} {a : Act} {w : World} {Q : Exit → Act → World → Prop} (hw : Region.wanted o (yielded ops a.tmps) = true) (x y : Operand) (ho : o.op = .binOp .eql 23 x y 23)
    (s t : SV) (hr : s.r = t.r) (hx : a.eval x = .agg (regs s)) (hy : a.eval y = .agg (regs t)) (h : wpList Try.prog ops Q rest (a.put o.dst (.bool true)) w) : wpList Try.prog ops Q (o :: rest) a w :=
  wpList_step fun _ hK => by
    rw [if_pos hw]
    unfold Oper.wp
    simp [execOp, ho, hx, hy, run_eqR s t hr, guardR]
    exact hK _ _ h
theorem ls_zeroAt (U : World) (B : Nat) (h : U.heap.size = B) : LS (U.alloc (.cells SV.zero.cells 26)) B SV.zero := by subst h; exact ls_new U SV.zero
def keepV (s : SV) : SV := if s.ve = 0 then { s with ve := 4 } else s
theorem keepV_ve (s : SV) : (keepV s).ve ≠ 0 := by unfold keepV; split <;> simp_all
def goesV (s : SV) (c d : Nat) : SV := { s with ep := s.pc, pc := s.ve, ca := c, ad := d, op := false }
set_option maxHeartbeats 2000000 in
theorem seatKeeps_core (S : SV) (c d : Nat) (w : World) : Calls Try.prog 8 #[S.agg, .int .u64 c, .int .u64 d] w fun e w' => e = .returned (.bool true) ∧ Below w.heap.size w w' := by
  have HZ := zeroS_run
  have HN := Lib.hid (near_in S)
  have HL := Lib.hid (ls_new w S)
  have HO := Lib.hid (ow_box w S)
  have HA := Lib.hid awake11_in
  generalize nearV S = T at *
  have HTR := Lib.hid (fun U B (h : LS U B (keepV T)) => trap_goes h (keepV_ve T) c d)
  have HBK := Lib.hid (fun U B (h : LS U B (goesV (keepV T) c d)) => back_in h)
  unfold SV.agg at *
  go_enter Try.func8, Try.ntmps8
  go_wp2_with (refine wpList_ldS rfl (.tmp 3) rfl w.heap.size rfl S HL.out ?_; unfold SV.agg)
  refine (HN.out _).mono ?_
  rintro e w1 ⟨rfl, b1⟩
  have O1 := Lib.hid ((HO.out).below b1)
  have O2 := Lib.hid ((O1.out).put T)
  have L1 := Lib.hid (O1.out).ls
  clear b1 HN HL HO O1
  by_cases hv : T.ve = 0
  · have hk : keepV T = { T with ve := 4 } := by unfold keepV; rw [if_pos hv]
    have c1 := (O2.out).ls.ve'
    rw [hv] at c1
    have f1 := (O2.out).ls.fz 18
    have O3 := Lib.hid ((O2.out).turn ((Sn.self (O2.out).ls).cell (t := { T with ve := 4 }) 18 (.int .u64 4) rfl))
    have hsz : ((w1.setRow w.heap.size T.cells).setCell ⟨w.heap.size, 18, none⟩ (.int .u64 4)).heap.size = w1.heap.size := by simp [World.setCell]
    have HSZ := Lib.hid hsz
    rw [← hk] at O3
    have o4 := (O3.out).twin (keepV T)
    rw [hsz] at o4
    have O4 := Lib.hid o4
    clear hv hk hsz o4
    go_wp2_with (first
      | (refine wpList_stS rfl (.tmp 3) (.tmp 9) rfl w.heap.size rfl S T rfl L1.out ?_)
      | (refine wpList_ldS rfl (.tmp 3) rfl w.heap.size rfl (keepV T) (O3.out).ls ?_; unfold SV.agg)
      | (refine wpList_stS rfl (.tmp 7) (.tmp 14) rfl w1.heap.size rfl SV.zero (keepV T) rfl (ls_zeroAt _ _ HSZ.out) ?_))
    refine (HTR.out _ _ (O4.out).b.ls).mono ?_
    rintro e w2 ⟨rfl, h2⟩
    have O5 : Hid (Ow2 w w2 w.heap.size w1.heap.size (keepV T) (goesV (keepV T) c d)) := Lib.hid ((O4.out).turnB h2)
    have a1 := (O5.out).a.ls.pc'
    have a2 := (O5.out).a.ls.ba'
    have a3 := (O5.out).a.ls.ve'
    have a4 := (O5.out).a.ls.st'
    have a5 := (O5.out).a.ls.pd'
    have a6 := (O5.out).a.ls.ma'
    have b1 : w2.cell? ⟨w1.heap.size, 16, none⟩ = some (.int .u64 (keepV T).ve) := (O5.out).b.ls.pc'
    have b2 : w2.cell? ⟨w1.heap.size, 17, none⟩ = some (.int .u64 (keepV T).ba) := (O5.out).b.ls.ba'
    have b3 : w2.cell? ⟨w1.heap.size, 18, none⟩ = some (.int .u64 (keepV T).ve) := (O5.out).b.ls.ve'
    have b4 : w2.cell? ⟨w1.heap.size, 19, none⟩ = some (.int .u64 (keepV T).pc) := (O5.out).b.ls.ep'
    have b5 : w2.cell? ⟨w1.heap.size, 22, none⟩ = some (.bool false) := (O5.out).b.ls.op'
    have b6 : w2.cell? ⟨w1.heap.size, 23, none⟩ = some (.int .u8 (keepV T).st) := (O5.out).b.ls.st'
    have b7 : w2.cell? ⟨w1.heap.size, 24, none⟩ = some (.int .u32 (keepV T).pd) := (O5.out).b.ls.pd'
    have b8 : w2.cell? ⟨w1.heap.size, 25, none⟩ = some (.int .u32 (keepV T).ma) := (O5.out).b.ls.ma'
    have R1 : Hid ((goesV (keepV T) c d).r = (keepV T).r) := Lib.hid rfl
    have R2 : Hid ((backV (goesV (keepV T) c d)).r = (keepV T).r) := Lib.hid rfl
    have E1 : Hid ((backV (goesV (keepV T) c d)).pc = (keepV T).pc) := Lib.hid rfl
    have E2 : Hid ((backV (goesV (keepV T) c d)).op = true) := Lib.hid rfl
    have E3 : Hid ((backV (goesV (keepV T) c d)).pd = (keepV T).pd) := Lib.hid rfl
    clear h2 O4 O3 O2 HTR
    generalize backV (goesV (keepV T) c d) = Z at *
    generalize goesV (keepV T) c d = Y at *
    generalize keepV T = X at *
    generalize w1.heap.size = C at *
    go_wp2_with (first
      | (refine wpList_ldR rfl (.tmp 18) rfl C rfl Y (O5.out).b.ls ?_)
      | (refine wpList_ldR rfl (.tmp 20) rfl w.heap.size rfl X (O5.out).a.ls ?_)
      | (refine wpList_neR rfl (.tmp 19) (.tmp 21) rfl Y X R1.out rfl rfl ?_))
    refine (HBK.out _ _ (O5.out).b.ls).mono ?_
    rintro e w3 ⟨rfl, h3⟩
    have O6 := Lib.hid ((O5.out).turnB h3)
    clear h3 O5 HBK a1 a2 a3 a4 a5 a6 b1 b2 b3 b4 b5 b6 b7 b8
    go_wp2_with fail
    refine (HA.out _).mono ?_
    rintro e w4 ⟨rfl, h4⟩
    have O7 := Lib.hid ((O6.out).below h4)
    clear h4 O6
    have a1 := (O7.out).a.ls.pc'
    have a2 := (O7.out).a.ls.pd'
    have b1 := (O7.out).b.ls.pc'
    have b2 := (O7.out).b.ls.op'
    have b3 := (O7.out).b.ls.pd'
    rw [E1.out] at b1
    rw [E2.out] at b2
    rw [E3.out] at b3
    go_wp2_with (first
      | (refine wpList_ldR rfl (.tmp 79) rfl C rfl Z (O7.out).b.ls ?_)
      | (refine wpList_ldR rfl (.tmp 81) rfl w.heap.size rfl X (O7.out).a.ls ?_)
      | (refine wpList_eqR rfl (.tmp 80) (.tmp 82) rfl Z X R2.out rfl rfl ?_))
    go_ret
    exact ⟨rfl, (O7.out).a.bel⟩
  · have hk : keepV T = T := by unfold keepV; rw [if_neg hv]
    rw [hk] at HTR HBK
    have c1 := (O2.out).ls.ve'
    have z : ((T.ve : Int) == 0) = false := by simp; omega
    have hsz : (w1.setRow w.heap.size T.cells).heap.size = w1.heap.size := by simp
    have HSZ := Lib.hid hsz
    have o4 := (O2.out).twin T
    rw [hsz] at o4
    have O4 := Lib.hid o4
    clear hv hsz o4 hk
    go_wp2_with (first
      | (refine wpList_stS rfl (.tmp 3) (.tmp 9) rfl w.heap.size rfl S T rfl L1.out ?_)
      | (refine wpList_ldS rfl (.tmp 3) rfl w.heap.size rfl T (O2.out).ls ?_; unfold SV.agg)
      | (refine wpList_stS rfl (.tmp 7) (.tmp 14) rfl w1.heap.size rfl SV.zero T rfl (ls_zeroAt _ _ HSZ.out) ?_))
    clear z c1
    refine (HTR.out _ _ (O4.out).b.ls).mono ?_
    rintro e w2 ⟨rfl, h2⟩
    have O5 : Hid (Ow2 w w2 w.heap.size w1.heap.size T (goesV T c d)) := Lib.hid ((O4.out).turnB h2)
    have a1 := (O5.out).a.ls.pc'
    have a2 := (O5.out).a.ls.ba'
    have a3 := (O5.out).a.ls.ve'
    have a4 := (O5.out).a.ls.st'
    have a5 := (O5.out).a.ls.pd'
    have a6 := (O5.out).a.ls.ma'
    have b1 : w2.cell? ⟨w1.heap.size, 16, none⟩ = some (.int .u64 T.ve) := (O5.out).b.ls.pc'
    have b2 : w2.cell? ⟨w1.heap.size, 17, none⟩ = some (.int .u64 T.ba) := (O5.out).b.ls.ba'
    have b3 : w2.cell? ⟨w1.heap.size, 18, none⟩ = some (.int .u64 T.ve) := (O5.out).b.ls.ve'
    have b4 : w2.cell? ⟨w1.heap.size, 19, none⟩ = some (.int .u64 T.pc) := (O5.out).b.ls.ep'
    have b5 : w2.cell? ⟨w1.heap.size, 22, none⟩ = some (.bool false) := (O5.out).b.ls.op'
    have b6 : w2.cell? ⟨w1.heap.size, 23, none⟩ = some (.int .u8 T.st) := (O5.out).b.ls.st'
    have b7 : w2.cell? ⟨w1.heap.size, 24, none⟩ = some (.int .u32 T.pd) := (O5.out).b.ls.pd'
    have b8 : w2.cell? ⟨w1.heap.size, 25, none⟩ = some (.int .u32 T.ma) := (O5.out).b.ls.ma'
    have R1 : Hid ((goesV T c d).r = T.r) := Lib.hid rfl
    have R2 : Hid ((backV (goesV T c d)).r = T.r) := Lib.hid rfl
    have E1 : Hid ((backV (goesV T c d)).pc = T.pc) := Lib.hid rfl
    have E2 : Hid ((backV (goesV T c d)).op = true) := Lib.hid rfl
    have E3 : Hid ((backV (goesV T c d)).pd = T.pd) := Lib.hid rfl
    clear h2 O4 O2 HTR
    generalize backV (goesV T c d) = Z at *
    generalize goesV T c d = Y at *
    generalize T = X at *
    generalize w1.heap.size = C at *
    go_wp2_with (first
      | (refine wpList_ldR rfl (.tmp 18) rfl C rfl Y (O5.out).b.ls ?_)
      | (refine wpList_ldR rfl (.tmp 20) rfl w.heap.size rfl X (O5.out).a.ls ?_)
      | (refine wpList_neR rfl (.tmp 19) (.tmp 21) rfl Y X R1.out rfl rfl ?_))
    refine (HBK.out _ _ (O5.out).b.ls).mono ?_
    rintro e w3 ⟨rfl, h3⟩
    have O6 := Lib.hid ((O5.out).turnB h3)
    clear h3 O5 HBK a1 a2 a3 a4 a5 a6 b1 b2 b3 b4 b5 b6 b7 b8
    go_wp2_with fail
    refine (HA.out _).mono ?_
    rintro e w4 ⟨rfl, h4⟩
    have O7 := Lib.hid ((O6.out).below h4)
    clear h4 O6
    have a1 := (O7.out).a.ls.pc'
    have a2 := (O7.out).a.ls.pd'
    have b1 := (O7.out).b.ls.pc'
    have b2 := (O7.out).b.ls.op'
    have b3 := (O7.out).b.ls.pd'
    rw [E1.out] at b1
    rw [E2.out] at b2
    rw [E3.out] at b3
    go_wp2_with (first
      | (refine wpList_ldR rfl (.tmp 79) rfl C rfl Z (O7.out).b.ls ?_)
      | (refine wpList_ldR rfl (.tmp 81) rfl w.heap.size rfl X (O7.out).a.ls ?_)
      | (refine wpList_eqR rfl (.tmp 80) (.tmp 82) rfl Z X R2.out rfl rfl ?_))
    go_ret
    exact ⟨rfl, (O7.out).a.bel⟩
end Go.Proofs.Ytjhiapailgbmkaa
