/-
  What the laws of layer 9 call of their own: near, awake.
-/
import Derived.Test.YtfiahkjaeeoepaaDoorLB
namespace Go.Proofs.YtfiahkjaeeoepaaDoor
open Go.ChangeShapes Go.WideShapes Go.ChangeAt Go.RowKit
set_option maxRecDepth 100000
set_option linter.unusedVariables false

def nearV (s : SV) : SV := { s with st := s.st % 3, pd := s.pd % 256, ma := s.ma % 256 }
theorem wpList_bdS {ops : Array Oper} {rest : List Oper} {o : Oper} {a : Act} {w : World} {Q : Exit → Act → World → Prop} (hg : o.guard = none) (x y : Operand) (ho : o.op = .build 26 #[(10, x), (7, y)])
    (m : Nat) (b : Bool) (hx : a.eval x = .int .u32 m) (hy : a.eval y = .bool b) (h : wpList Tryd.prog ops Q rest (a.put o.dst ({ SV.zero with op := b, ma := m } : SV).agg) w) : wpList Tryd.prog ops Q (o :: rest) a w := by
  have hb : Tryd.prog.built 26 [(10, .int .u32 m), (7, .bool b)] = some ({ SV.zero with op := b, ma := m } : SV).cells := by kernel_rfl
  have he : (#[(10, x), (7, y)].map fun (i, x) => (i, a.eval x)).toList = [(10, .int .u32 m), (7, .bool b)] := by simp [hx, hy]
  refine wpList_build hg 26 #[(10, x), (7, y)] ho ?_ ?_
  · rw [he, hb]; rfl
  · rw [he, hb]; exact h
theorem near_cells (s : SV) : ((s.cells.setIfInBounds 23 (.int .u8 ((s.st : Int) % 3))).setIfInBounds 24 (.int .u32 ((s.pd : Int) % 256))).setIfInBounds 25 (.int .u32 ((s.ma : Int) % 256)) = (nearV s).cells := by
  rw [show ((s.st : Int) % 3) = ((s.st % 3 : Nat) : Int) by omega, show ((s.pd : Int) % 256) = ((s.pd % 256 : Nat) : Int) by omega, show ((s.ma : Int) % 256) = ((s.ma % 256 : Nat) : Int) by omega]
  rfl
set_option maxHeartbeats 400000 in
theorem near_in (s : SV) (w : World) : Calls Tryd.prog 8 #[s.agg] w fun e w' => e = .returned (nearV s).agg ∧ Below w.heap.size w w' := by
  have HZ := zeroS_run
  have i1 : s.cells[23]? = some (.int .u8 s.st) := rfl
  have i2 : s.cells[24]? = some (.int .u32 s.pd) := rfl
  have i3 : s.cells[25]? = some (.int .u32 s.ma) := rfl
  have HC := Lib.hid (near_cells s)
  unfold SV.agg at *
  go_enter Tryd.func8, Tryd.ntmps8
  go_wp2_with (first
    | (rw [HC.out]; refine wpList_ldS rfl (.tmp 1) rfl w.heap.size rfl (nearV s) (heap_alloc2_old w _ _) ?_)
    | (refine wpList_stS rfl (.tmp 2) (.tmp 15) rfl (w.heap.size + 1) rfl SV.zero (nearV s) rfl (heap_alloc2_new w _ _) ?_))
  refine bodyPost_ret (v := .agg (nearV s).cells) (results_cell_row rfl _ _ (w.heap.size + 1) 26 _ (0, 0) _ rfl (setRow_heap _ (w.heap.size + 1) SV.zero.cells _ 26 (0, 0) (heap_alloc2_new w _ _)) Tryd.underlying26 rfl sizeS) rfl ⟨rfl, ?_⟩
  exact (below_more (below_new w _) _).grown (grown_setRowS _ _ _) (by simp; omega) (fun j hj => by injection hj with hj; omega)
/-- A seat of a law's own, behind w. -/
structure Ow (w w' : World) (B : Nat) (s : SV) : Prop where
  ls : LS w' B s
  lb : w.heap.size ≤ B
  bel : Below w.heap.size w w'
theorem Ow.turn {w w1 w2 : World} {B : Nat} {s t : SV} (h : Ow w w1 B s) (k : Sn w1 w2 B t) : Ow w w2 B t :=
  ⟨k.ls, h.lb, h.bel.grown k.gr h.bel.size (fun j hj => by injection hj with hj; rw [← hj]; exact h.lb)⟩
theorem Ow.drawn {w w1 : World} {B : Nat} {s : SV} (h : Ow w w1 B s) (n : Nat) : Ow w (w1.drewN n) B s := ⟨h.ls, h.lb, below_draws h.bel n⟩
theorem Ow.below {w w1 w2 : World} {B : Nat} {s : SV} (h : Ow w w1 B s) (hb : Below w1.heap.size w1 w2) : Ow w w2 B s := ⟨h.ls.below hb, h.lb, below_up h.bel hb⟩
theorem Ow.tab {w w1 : World} {B : Nat} {s : SV} (h : Ow w w1 B s) (hT : TabAt w) : TabAt w1 := hT.below h.bel
theorem ow_new {w0 w : World} (hb : Below w0.heap.size w0 w) (s : SV) : Ow w0 ((w.alloc (.cells SV.zero.cells 26)).setRow w.heap.size s.cells) w.heap.size s :=
  ⟨LS.put (ls_new w SV.zero) s, hb.size, (below_more hb _).grown (grown_setRowS _ _ _) (by have := hb.size; simp; omega) (fun j hj => by injection hj with hj; have := hb.size; omega)⟩
def seatA (p : Nat) : SV := { SV.zero with op := true, ma := 6, pd := p }
theorem seatA_ctz : Lib.ctz 64 (coN (seatA 6)) = 1 := by decide +kernel
theorem seatA_ctz2 : Lib.ctz 64 (coN (seatA 4)) = 2 := by decide +kernel
theorem seatA_take : takeV (seatA 6) = seatA 4 := by unfold takeV; rw [seatA_ctz]; rfl
theorem seatA_take2 : takeV (seatA 4) = seatA 0 := by unfold takeV; rw [seatA_ctz2]; rfl
theorem wake_ready (s : SV) (h : s.st ≠ 1) : wakeV s = s := by unfold wakeV wakeB; rw [if_neg (by simp [h])]
theorem seatA_raise : wakeV (raiseV (seatA 0) 2) = seatA 4 := wake_ready _ (by decide)
theorem seatA_raise2 : wakeV (raiseV (seatA 4) 1) = seatA 6 := wake_ready _ (by decide)
set_option maxHeartbeats 1000000 in
theorem awake9_in (w : World) (hT : TabAt w) : Calls Tryd.prog 10 #[] w fun e w' => e = .returned (.bool true) ∧ Below w.heap.size w w' := by
  have HZ := zeroS_run
  have HT := Lib.hid hT
  have O0 := Lib.hid (ow_new (Below.refl _ w) (seatA 0))
  have H1 := Lib.hid (fun U (h : LS U w.heap.size (seatA 0)) => (raise_ok h 2 (by omega) (by decide) (by decide) (by decide)))
  rw [seatA_raise] at H1
  have H2 := Lib.hid (fun U (h : LS U w.heap.size (seatA 4)) => (raise_ok h 1 (by omega) (by decide) (by decide) (by decide)))
  rw [seatA_raise2] at H2
  have H3 := Lib.hid (fun U (h : LS U w.heap.size (seatA 6)) hU => (take_yes h hU (by decide) (by decide) (by decide) rfl))
  rw [seatA_ctz, seatA_take] at H3
  have H4 := Lib.hid (fun U (h : LS U w.heap.size (seatA 4)) hU => (take_yes h hU (by decide) (by decide) (by decide) rfl))
  rw [seatA_ctz2, seatA_take2] at H4
  clear hT
  unfold SV.agg at *
  go_enter Tryd.func10, Tryd.ntmps10
  go_wp2_with (first
    | (refine wpList_bdS rfl (.const (.int .u32 6)) (.const (.bool true)) rfl 6 true rfl rfl ?_; rw [show ({ SV.zero with op := true, ma := 6 } : SV).agg = .agg (seatA 0).cells from rfl])
    | (refine wpList_stS rfl (.tmp 1) (.tmp 6) rfl w.heap.size rfl SV.zero (seatA 0) rfl (ls_new w _) ?_))
  refine (H1.out _ (O0.out).ls).mono ?_
  rintro e w1 ⟨rfl, h1⟩
  have O1 := Lib.hid ((O0.out).turn h1)
  clear h1 H1 O0
  go_wp2_with fail
  refine (H2.out _ (O1.out).ls).mono ?_
  rintro e w2 ⟨rfl, h2⟩
  have O2 := Lib.hid ((O1.out).turn h2)
  clear h2 H2 O1
  go_wp2_with fail
  refine (H3.out _ (O2.out).ls ((O2.out).tab HT.out)).mono ?_
  rintro e w3 ⟨rfl, h3⟩
  have O3 := Lib.hid ((O2.out).turn h3)
  clear h3 H3 O2
  go_wp2_with fail
  refine (H4.out _ (O3.out).ls ((O3.out).tab HT.out)).mono ?_
  rintro e w4 ⟨rfl, h4⟩
  have O4 := Lib.hid ((O3.out).turn h4)
  clear h4 H4 O3
  have c1 : w4.cell? ⟨w.heap.size, 24, none⟩ = some (.int .u32 0) := (O4.out).ls.pd'
  go_wp2
  go_ret
  exact ⟨rfl, (O4.out).bel⟩
end Go.Proofs.YtfiahkjaeeoepaaDoor
