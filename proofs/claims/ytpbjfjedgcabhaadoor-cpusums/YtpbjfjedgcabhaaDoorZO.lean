/-
  What the laws of layer 12 call of their own: awake; CpuIdle.
-/
import Derived.Test.YtpbjfjedgcabhaaDoorZN
import Derived.Test.YtpbjfjedgcabhaaDoorCR
namespace Go.Proofs.YtpbjfjedgcabhaaDoor
open Go.ChangeShapes Go.WideShapes Go.ChangeAt Go.RowKit
open WM CM
set_option maxRecDepth 100000
set_option linter.unusedVariables false

theorem wpList_bd0 {ops : Array Oper} {rest : List Oper} {o : Oper} {a : Act} {w : World} {Q : Exit → Act → World → Prop} (hg : o.guard = none) (ho : o.op = .build 26 #[])
    (h : wpList Tryd.prog ops Q rest (a.put o.dst SV.zero.agg) w) : wpList Tryd.prog ops Q (o :: rest) a w := by
  have hb : Tryd.prog.built 26 [] = some SV.zero.cells := by kernel_rfl
  have he : ((#[] : Array (Nat × Operand)).map fun (i, x) => (i, a.eval x)).toList = [] := by simp
  refine wpList_build hg 26 #[] ho ?_ ?_
  · rw [he, hb]; rfl
  · rw [he, hb]; exact h
theorem zero_ok : SV.zero.ok := ⟨fun _ _ => by simp [SV.zero], by decide, by decide, by decide, by decide, by decide, by decide, by decide, by decide, by decide⟩
theorem Trn.to_below {S : Nat → Prop} {N : Nat} {w w1 w2 : World} (h : Trn S w1 w2) (hb : Below N w w1) (hN : N ≤ w1.heap.size) (hs : ∀ i, S i → N ≤ i) : Below N w w2 :=
  ⟨h.os.trans hb.os, h.tape.trans hb.tape, h.output.trans hb.output, Nat.le_trans hb.size h.size, fun i hi => (h.block i (Nat.lt_of_lt_of_le hi hN) (fun e => by have := hs i e; omega)).trans (hb.block i hi)⟩

/-! ### awake -/
def awF (i : Nat) : Nat := [5, 0, 64, 4].getD i 0
theorem awF_lt (i : Nat) : awF i < 256 := by
  unfold awF
  match i with
  | 0 => decide
  | 1 => decide
  | 2 => decide
  | 3 => decide
  | i + 4 => simp
def awM : MV := svM 1 1 4 0 awF (fun _ => 0) 32
theorem aw_kind : (stV SV.zero awM 0 0).2.2.1 = 0 := by decide +kernel
theorem aw_num : (stV SV.zero awM 0 0).2.2.2 = 0 := by decide +kernel
theorem aw_reg : (stV SV.zero awM 0 0).1.r 1 = 5 := by decide +kernel
theorem aw_pc : (stV SV.zero awM 0 0).1.pc = 4 := by decide +kernel
def awC : Array Value := #[.int .u8 5, .int .u8 0, .int .u8 64, .int .u8 4]
theorem aw_bytes (w : World) : BytesAt (w.alloc (.cells awC 5)) (some ⟨w.heap.size, 0, none⟩) 4 awF := by
  intro i hi
  refine ⟨_, _, rfl, ?_⟩
  rw [Nat.zero_add, cell_of (heap_alloc_new w (.cells awC 5))]
  have h : i = 0 ∨ i = 1 ∨ i = 2 ∨ i = 3 := by omega
  rcases h with rfl | rfl | rfl | rfl <;> rfl
set_option maxHeartbeats 1000000 in
theorem awake12_in (w : World) (hT : TabAt w) : Calls Tryd.prog 10 #[] w fun e w' => e = .returned (.bool true) ∧ Below w.heap.size w w' := by
  have HW := Lib.hid (refword_in 1 1 0 0 5 w (by decide) (by decide) (by decide) (by decide))
  rw [show wordN 1 1 0 0 5 = 71303173 by decide] at HW
  have HZ := zeroS_run
  have HS := Lib.hid (fun U g (hU : BytesAt U (some ⟨g, 0, none⟩) 4 awF) => some_in 1 1 (some ⟨g, 0, none⟩) none 4 0 4 0 awF (fun _ => 0) awF_lt (fun _ => by omega) (by omega) (by omega) U hU (BytesAt.none_ _ _ _))
  have HT := Lib.hid hT
  clear hT
  unfold SV.agg at HZ
  go_enter Tryd.func10, Tryd.ntmps10
  go_wp2_with fail
  refine (HW.out).mono ?_
  rintro e w1 ⟨rfl, hb1⟩
  have HB1 := Lib.hid hb1
  clear HW hb1
  go_wp2_with (refine wpList_buildSlice rfl 28 5 4 _ rfl awC _ _ und8 rfl rfl (by decide) (by decide) (by kernel_rfl) ?_)
  refine (HS.out _ _ (aw_bytes w1)).mono ?_
  rintro e w2 ⟨L1, L2, rfl, hI⟩
  have HB2 := Lib.hid (below_up (below_up HB1.out (below_new w1 (.cells awC 5))) hI.bel)
  have HI := Lib.hid hI
  clear hI
  go_wp2_with (first
    | (refine wpList_bd0 rfl rfl ?_; unfold SV.agg)
    | (refine wpList_stS rfl (.tmp 4) (.tmp 23) rfl w2.heap.size rfl SV.zero SV.zero rfl (ls_new w2 _) ?_))
  have hbu : Below w2.heap.size w2 ((w2.alloc (.cells SV.zero.cells 26)).setRow w2.heap.size SV.zero.cells) := (below_new w2 _).grown (grown_setRowS _ _ _) (by simp) (fun j hj => by injection hj with hj; omega)
  have hls : LS ((w2.alloc (.cells SV.zero.cells 26)).setRow w2.heap.size SV.zero.cells) w2.heap.size SV.zero := (ls_new w2 SV.zero).put SV.zero
  have hmm := (HI.out).m1.below hbu
  have hpg := pg_new (HI.out).m1 (i := w2.heap.size) (Nat.le_refl _)
  have hlm := (HI.out).m1.lt
  have hst := step_in hls hmm zero_ok (((HT.out).below HB2.out).below hbu) (by omega) hpg 0 0 (by decide)
  have hk : (stV SV.zero (svM 1 1 4 0 awF (fun x => 0) 32) 0 0).2.2.1 = 0 := aw_kind
  have hn : (stV SV.zero (svM 1 1 4 0 awF (fun x => 0) 32) 0 0).2.2.2 = 0 := aw_num
  have hr1 : (stV SV.zero (svM 1 1 4 0 awF (fun x => 0) 32) 0 0).1.r 1 = 5 := aw_reg
  have hpc : (stV SV.zero (svM 1 1 4 0 awF (fun x => 0) 32) 0 0).1.pc = 4 := aw_pc
  rw [hk, hn] at hst
  have HST := Lib.hid hst
  have HBU := Lib.hid (below_up HB2.out hbu)
  have hs0 := (HBU.out).size
  have hs1 := hbu.size
  have hb1 : ∀ i, pgS L1 (svM 1 1 4 0 awF (fun x => 0) 32) i → w.heap.size ≤ i := by
    rintro i ⟨q, hq, hh, rfl⟩
    have h1 := (HI.out).b1 q hq hh
    have h2 := (HB1.out).size
    simp at h1
    omega
  have hs2 := (HB2.out).size
  clear hst hls hmm hpg hk hn hbu
  generalize (stV SV.zero (svM 1 1 4 0 awF (fun x => 0) 32) 0 0).1 = t at *
  generalize (stV SV.zero (svM 1 1 4 0 awF (fun x => 0) 32) 0 0).2.1 = m' at *
  generalize (w2.alloc (.cells SV.zero.cells 26)).setRow w2.heap.size SV.zero.cells = U at *
  refine (HST.out).mono ?_
  rintro e w3 ⟨rfl, hA⟩
  have q1 := hA.ls.reg 1 (by decide)
  have q2 := hA.ls.pc'
  rw [hr1] at q1
  rw [hpc] at q2
  have hlt := hA.ls.lt
  have hne : ¬ w2.heap.size = w3.heap.size := by omega
  have HB3 := Lib.hid (hA.tr.to_below HBU.out hs0 (fun i hi => by rcases hi with rfl | hi; exact hs2; exact hb1 i hi))
  clear hA
  unfold exV
  go_wp2
  go_ret
  exact ⟨rfl, below_more HB3.out _⟩

/-! ### seats of a law's own -/
/-- A seat of a law's own, behind w. -/
structure Ow (w w' : World) (B : Nat) (s : SV) : Prop where
  ls : LS w' B s
  lb : w.heap.size ≤ B
  bel : Below w.heap.size w w'
theorem Ow.turn {w w1 w2 : World} {B : Nat} {s t : SV} (h : Ow w w1 B s) (k : Sn w1 w2 B t) : Ow w w2 B t :=
  ⟨k.ls, h.lb, h.bel.grown k.gr h.bel.size (fun j hj => by injection hj with hj; rw [← hj]; exact h.lb)⟩
theorem Ow.drawn {w w1 : World} {B : Nat} {s : SV} (h : Ow w w1 B s) (n : Nat) : Ow w (w1.drewN n) B s := ⟨h.ls, h.lb, below_draws h.bel n⟩
theorem Ow.below {w w1 w2 : World} {B : Nat} {s : SV} (h : Ow w w1 B s) (hb : Below w1.heap.size w1 w2) : Ow w w2 B s := ⟨h.ls.below hb, h.lb, below_up h.bel hb⟩
theorem Ow.put {w w1 : World} {B : Nat} {s : SV} (h : Ow w w1 B s) (t : SV) : Ow w (w1.setRow B t.cells) B t := h.turn ⟨h.ls.put t, grown_setRowS _ _ _⟩
theorem ow_box (w : World) (s : SV) : Ow w (w.alloc (.cells s.cells 26)) w.heap.size s := ⟨ls_new w s, Nat.le_refl _, below_new w _⟩
theorem ow_new {w0 w : World} (hb : Below w0.heap.size w0 w) (s : SV) : Ow w0 ((w.alloc (.cells SV.zero.cells 26)).setRow w.heap.size s.cells) w.heap.size s :=
  ⟨LS.put (ls_new w SV.zero) s, hb.size, (below_more hb _).grown (grown_setRowS _ _ _) (by have := hb.size; simp; omega) (fun j hj => by injection hj with hj; have := hb.size; omega)⟩
theorem Ow.kept {w w1 w2 : World} {B C : Nat} {s : SV} (h : Ow w w1 B s) (hg : w1.grownBy w2 (some C)) (hn : B ≠ C) (hc : w.heap.size ≤ C) : Ow w w2 B s :=
  ⟨h.ls.kept hg (by simpa using hn), h.lb, h.bel.grown hg h.bel.size (fun j hj => by injection hj with hj; omega)⟩

/-! ### Step of nothing -/
theorem step_idle2 {w : World} {B : Nat} {s : SV} (L : Ly) (h : LS w B s) (hst : s.st ≠ 0) (time : Nat) (me : Int) :
    Calls Tryd.prog 16 #[.pointer (some ⟨B, 0, none⟩), busV L, .int .u64 time, .int .i64 me] w fun e w' => e = .returned (exV 5 0) ∧ Below w.heap.size w w' := by
  have c1 := h.st'
  have z : ((s.st : Int) != 0) = true := by simp; omega
  have hlt := h.lt
  have hne : ¬ B = w.heap.size := by omega
  have hnB := nilB L
  have HB := Lib.hid (below_new w (.cells #[.int .u8 5, .int .u64 0] 50))
  clear h hst
  unfold exV
  unfold busV at *
  generalize memR L = r at *
  go_enter Tryd.func16, Tryd.ntmps16
  go_wp2
  refine bodyPost_ret (v := .agg #[.int .u8 5, .int .u64 0]) (by simp [results, Tryd.results16, go_sem]) rfl ⟨rfl, HB.out⟩
theorem step_nil (w : World) (v : Value) (time : Nat) (me : Int) :
    Calls Tryd.prog 16 #[.pointer none, v, .int .u64 time, .int .i64 me] w fun e w' => e = .returned (exV 5 0) ∧ Below w.heap.size w w' := by
  have HB := Lib.hid (below_new w (.cells #[.int .u8 5, .int .u64 0] 50))
  unfold exV
  go_enter Tryd.func16, Tryd.ntmps16
  go_wp2
  refine bodyPost_ret (v := .agg #[.int .u8 5, .int .u64 0]) (by simp [results, Tryd.results16, go_sem]) rfl ⟨rfl, HB.out⟩
theorem nilN (w : World) : (binOp .eql 65 .nilIface .nilIface).run Tryd.prog w = .ok (.bool true) w := by rfl
theorem step_nobus (w : World) (p : Addr) (time : Nat) (me : Int) :
    Calls Tryd.prog 16 #[.pointer (some p), .nilIface, .int .u64 time, .int .i64 me] w fun e w' => e = .returned (exV 5 0) ∧ Below w.heap.size w w' := by
  have HB := Lib.hid (below_new w (.cells #[.int .u8 5, .int .u64 0] 50))
  have hn := nilN
  unfold exV
  go_enter Tryd.func16, Tryd.ntmps16
  go_wp2
  refine bodyPost_ret (v := .agg #[.int .u8 5, .int .u64 0]) (by simp [results, Tryd.results16, go_sem]) rfl ⟨rfl, HB.out⟩
end Go.Proofs.YtpbjfjedgcabhaaDoor
