/-
  Contracts of package seat, and of what the laws of layer 11 call: near, New, one, lines, Trap, Back, whole; the document's Trap.
-/
import Derived.Test.YtpbjfjedgcabhaaDoorLA
import Derived.Test.YtpbjfjedgcabhaaDoorGP
import Derived.Deep.RegionWith
import Derived.Deep.RegionHeld3
import Derived.RegionTactic
import Derived.BigRegion
namespace Go.Proofs.YtpbjfjedgcabhaaDoor
open Go.ChangeShapes Go.WideShapes Go.ChangeAt Go.RowKit
set_option maxRecDepth 100000
set_option linter.unusedVariables false

/-- A seat that may be, of words of 64 bits. -/
structure SV.ok (s : SV) : Prop where
  r : ∀ i, i < 16 → s.r i < 18446744073709551616
  pc : s.pc < 18446744073709551616
  ba : s.ba < 18446744073709551616
  ve : s.ve < 18446744073709551616
  ep : s.ep < 18446744073709551616
  ca : s.ca < 18446744073709551616
  ad : s.ad < 18446744073709551616
  st : s.st < 3
  pd : s.pd < 256
  ma : s.ma < 256
/-! ### near, New -/
def nearV (s : SV) : SV := { s with st := s.st % 3, pd := s.pd % 256, ma := s.ma % 256 }
theorem near_cells (s : SV) : ((s.cells.setIfInBounds 23 (.int .u8 ((s.st : Int) % 3))).setIfInBounds 24 (.int .u32 ((s.pd : Int) % 256))).setIfInBounds 25 (.int .u32 ((s.ma : Int) % 256)) = (nearV s).cells := by
  rw [show ((s.st : Int) % 3) = ((s.st % 3 : Nat) : Int) by omega, show ((s.pd : Int) % 256) = ((s.pd % 256 : Nat) : Int) by omega, show ((s.ma : Int) % 256) = ((s.ma % 256 : Nat) : Int) by omega]
  rfl
set_option maxHeartbeats 400000 in
theorem near_in (s : SV) (w : World) : Calls Tryd.prog 11 #[s.agg] w fun e w' => e = .returned (nearV s).agg ∧ Below w.heap.size w w' := by
  have HZ := zeroS_run
  have i1 : s.cells[23]? = some (.int .u8 s.st) := rfl
  have i2 : s.cells[24]? = some (.int .u32 s.pd) := rfl
  have i3 : s.cells[25]? = some (.int .u32 s.ma) := rfl
  have HC := Lib.hid (near_cells s)
  unfold SV.agg at *
  go_enter Tryd.func11, Tryd.ntmps11
  go_wp2_with (first
    | (rw [HC.out]; refine wpList_ldS rfl (.tmp 1) rfl w.heap.size rfl (nearV s) (heap_alloc2_old w _ _) ?_)
    | (refine wpList_stS rfl (.tmp 2) (.tmp 15) rfl (w.heap.size + 1) rfl SV.zero (nearV s) rfl (heap_alloc2_new w _ _) ?_))
  refine bodyPost_ret (v := .agg (nearV s).cells) (results_cell_row rfl _ _ (w.heap.size + 1) 26 _ (0, 0) _ rfl (setRow_heap _ (w.heap.size + 1) SV.zero.cells _ 26 (0, 0) (heap_alloc2_new w _ _)) Tryd.underlying26 rfl sizeS) rfl ⟨rfl, ?_⟩
  exact (below_more (below_new w _) _).grown (grown_setRowS _ _ _) (by simp; omega) (fun j hj => by injection hj with hj; omega)
theorem wpList_bdZ {ops : Array Oper} {rest : List Oper} {o : Oper} {a : Act} {w : World} {Q : Exit → Act → World → Prop} (hg : o.guard = none) (x : Operand) (ho : o.op = .build 26 #[(8, x)])
    (hx : a.eval x = .int .u8 0) (h : wpList Tryd.prog ops Q rest (a.put o.dst SV.zero.agg) w) : wpList Tryd.prog ops Q (o :: rest) a w := by
  have hb : Tryd.prog.built 26 [(8, .int .u8 0)] = some SV.zero.cells := by kernel_rfl
  have he : (#[(8, x)].map fun (i, x) => (i, a.eval x)).toList = [(8, .int .u8 0)] := by simp [hx]
  refine wpList_build hg 26 #[(8, x)] ho ?_ ?_
  · rw [he, hb]; rfl
  · rw [he, hb]; exact h

/-! ### one, lines -/
def oneN (b : Bool) : Nat := if b then 1 else 0
theorem one_in (b : Bool) (w : World) : Calls Tryd.prog 76 #[.bool b] w fun e w' => e = .returned (.int .u64 (oneN b : Nat)) ∧ w = w' := by
  cases b
  · go_enter Tryd.func76, Tryd.ntmps76
    go_wp2
    go_ret
    exact ⟨rfl, rfl⟩
  · go_enter Tryd.func76, Tryd.ntmps76
    go_wp2
    go_ret
    exact ⟨rfl, rfl⟩

/-! ### Trap, Back -/
def trapV (s : SV) (c d : Nat) : SV := if s.ve = 0 then { s with st := 2 } else { s with ep := s.pc, pc := s.ve, ca := c, ad := d, op := false }
def backV (s : SV) : SV := { s with pc := s.ep, op := true }
theorem LS.setPc {w : World} {B : Nat} {s : SV} (h : LS w B s) (n : Nat) : LS (w.setCell ⟨B, 16, none⟩ (.int .u64 n)) B { s with pc := n } := h.set 16 _ rfl
theorem LS.setBa {w : World} {B : Nat} {s : SV} (h : LS w B s) (n : Nat) : LS (w.setCell ⟨B, 17, none⟩ (.int .u64 n)) B { s with ba := n } := h.set 17 _ rfl
theorem LS.setVe {w : World} {B : Nat} {s : SV} (h : LS w B s) (n : Nat) : LS (w.setCell ⟨B, 18, none⟩ (.int .u64 n)) B { s with ve := n } := h.set 18 _ rfl
theorem LS.setEp {w : World} {B : Nat} {s : SV} (h : LS w B s) (n : Nat) : LS (w.setCell ⟨B, 19, none⟩ (.int .u64 n)) B { s with ep := n } := h.set 19 _ rfl
theorem LS.setCa {w : World} {B : Nat} {s : SV} (h : LS w B s) (n : Nat) : LS (w.setCell ⟨B, 20, none⟩ (.int .u64 n)) B { s with ca := n } := h.set 20 _ rfl
theorem LS.setAd {w : World} {B : Nat} {s : SV} (h : LS w B s) (n : Nat) : LS (w.setCell ⟨B, 21, none⟩ (.int .u64 n)) B { s with ad := n } := h.set 21 _ rfl
theorem LS.pc' {w : World} {B : Nat} {s : SV} (h : LS w B s) : w.cell? ⟨B, 16, none⟩ = some (.int .u64 s.pc) := h.cell 16
theorem LS.ba' {w : World} {B : Nat} {s : SV} (h : LS w B s) : w.cell? ⟨B, 17, none⟩ = some (.int .u64 s.ba) := h.cell 17
theorem LS.ve' {w : World} {B : Nat} {s : SV} (h : LS w B s) : w.cell? ⟨B, 18, none⟩ = some (.int .u64 s.ve) := h.cell 18
theorem LS.ep' {w : World} {B : Nat} {s : SV} (h : LS w B s) : w.cell? ⟨B, 19, none⟩ = some (.int .u64 s.ep) := h.cell 19
theorem LS.ca' {w : World} {B : Nat} {s : SV} (h : LS w B s) : w.cell? ⟨B, 20, none⟩ = some (.int .u64 s.ca) := h.cell 20
theorem LS.ad' {w : World} {B : Nat} {s : SV} (h : LS w B s) : w.cell? ⟨B, 21, none⟩ = some (.int .u64 s.ad) := h.cell 21
theorem LS.drewN {w : World} {B : Nat} {s : SV} (h : LS w B s) (n : Nat) : LS (w.drewN n) B s := h
theorem Sn.trans {a b c : World} {B : Nat} {s t : SV} (h : Sn a b B s) (k : Sn b c B t) : Sn a c B t := ⟨k.ls, grown_trans h.gr k.gr⟩
theorem Sn.self {w : World} {B : Nat} {s : SV} (h : LS w B s) : Sn w w B s := ⟨h, ⟨rfl, rfl, rfl, Nat.le_refl _, fun _ _ _ => rfl⟩⟩
theorem Sn.drawn {w w' : World} {B : Nat} {s : SV} (h : Sn w w' B s) (n : Nat) : Sn w (w'.drewN n) B s := ⟨h.ls, grown_drawn h.gr n⟩
theorem Sn.cell {w w' : World} {B : Nat} {s t : SV} (h : Sn w w' B s) (i : Nat) (v : Value) (he : s.cells.setIfInBounds i v = t.cells) : Sn w (w'.setCell ⟨B, i, none⟩ v) B t :=
  ⟨h.ls.set i v he, grown_trans h.gr (grown_setCellS w' ⟨B, i, none⟩ v)⟩
theorem trap_nil (c d : Nat) (w : World) : Calls Tryd.prog 31 #[.pointer none, .int .u64 c, .int .u64 d] w fun e w' => e = .returned (.tuple #[]) ∧ w = w' := by
  go_enter Tryd.func31, Tryd.ntmps31
  go_wp2
  refine bodyPost_ret (results_none rfl _ _ _) rfl ?_
  exact ⟨rfl, rfl⟩
theorem back_nil (w : World) : Calls Tryd.prog 45 #[.pointer none] w fun e w' => e = .returned (.tuple #[]) ∧ w = w' := by
  go_enter Tryd.func45, Tryd.ntmps45
  go_wp2
  refine bodyPost_ret (results_none rfl _ _ _) rfl ?_
  exact ⟨rfl, rfl⟩
theorem back_in {w : World} {B : Nat} {s : SV} (h : LS w B s) : Calls Tryd.prog 45 #[.pointer (some ⟨B, 0, none⟩)] w fun e w' => e = .returned (.tuple #[]) ∧ Sn w w' B (backV s) := by
  have c1 := h.ep'
  have f1 := h.fz 16
  have f2 := h.fz 22
  have c2 := h.pc'
  have c3 := h.op'
  have H : Hid (Sn w ((w.setCell ⟨B, 16, none⟩ (.int .u64 s.ep)).setCell ⟨B, 22, none⟩ (.bool true)) B (backV s)) := Lib.hid (((Sn.self h).cell (t := { s with pc := s.ep }) 16 _ rfl).cell 22 _ rfl)
  clear h
  generalize backV s = t at *
  generalize s.ep = x at *
  go_enter Tryd.func45, Tryd.ntmps45
  go_wp2
  go_end0
  exact ⟨rfl, H.out⟩
theorem trap_dead {w : World} {B : Nat} {s : SV} (h : LS w B s) (hv : s.ve = 0) (c d : Nat) : Calls Tryd.prog 31 #[.pointer (some ⟨B, 0, none⟩), .int .u64 c, .int .u64 d] w fun e w' => e = .returned (.tuple #[]) ∧ Sn w w' B { s with st := 2 } := by
  have c1 := h.ve'
  rw [hv] at c1
  have f1 := h.fz 23
  have c2 := h.st'
  have H : Hid (Sn w (w.setCell ⟨B, 23, none⟩ (.int .u8 2)) B { s with st := 2 }) := Lib.hid ((Sn.self h).cell 23 _ rfl)
  clear h hv
  go_enter Tryd.func31, Tryd.ntmps31
  go_wp2
  refine bodyPost_ret (results_none rfl _ _ _) rfl ?_
  exact ⟨rfl, H.out⟩
set_option maxHeartbeats 4000000 in
theorem trap_goes {w : World} {B : Nat} {s : SV} (h : LS w B s) (hv : s.ve ≠ 0) (c d : Nat) : Calls Tryd.prog 31 #[.pointer (some ⟨B, 0, none⟩), .int .u64 c, .int .u64 d] w
    fun e w' => e = .returned (.tuple #[]) ∧ Sn w w' B { s with ep := s.pc, pc := s.ve, ca := c, ad := d, op := false } := by
  have c1 := h.ve'
  have z : ((s.ve : Int) == 0) = false := by simp; omega
  have f1 := h.fz 16
  have f2 := h.fz 19
  have f3 := h.fz 20
  have f4 := h.fz 21
  have f5 := h.fz 22
  have c2 := h.pc'
  have c3 := h.ep'
  have c4 := h.ca'
  have c5 := h.ad'
  have c6 := h.op'
  have H : Hid (∀ n, Sn w ((((((w.drewN n).setCell ⟨B, 19, none⟩ (.int .u64 s.pc)).setCell ⟨B, 16, none⟩ (.int .u64 s.ve)).setCell ⟨B, 20, none⟩ (.int .u64 c)).setCell ⟨B, 21, none⟩ (.int .u64 d)).setCell ⟨B, 22, none⟩ (.bool false)) B { s with ep := s.pc, pc := s.ve, ca := c, ad := d, op := false }) :=
    Lib.hid (fun n => ((((((Sn.self h).drawn n).cell (t := { s with ep := s.pc }) 19 _ rfl).cell (t := { s with ep := s.pc, pc := s.ve }) 16 _ rfl).cell (t := { s with ep := s.pc, pc := s.ve, ca := c }) 20 _ rfl).cell (t := { s with ep := s.pc, pc := s.ve, ca := c, ad := d }) 21 _ rfl).cell 22 _ rfl)
  clear h hv
  generalize ({ s with ep := s.pc, pc := s.ve, ca := c, ad := d, op := false } : SV) = t at *
  generalize s.ve = v at *
  generalize s.pc = p at *
  go_enter Tryd.func31, Tryd.ntmps31
  go_wp2
  go_region
  all_goals go_wp2
  all_goals go_end0
  all_goals exact ⟨rfl, H.out 1⟩
theorem trap_in {w : World} {B : Nat} {s : SV} (h : LS w B s) (c d : Nat) : Calls Tryd.prog 31 #[.pointer (some ⟨B, 0, none⟩), .int .u64 c, .int .u64 d] w fun e w' => e = .returned (.tuple #[]) ∧ Sn w w' B (trapV s c d) := by
  unfold trapV
  by_cases hv : s.ve = 0
  · rw [if_pos hv]; exact trap_dead h hv c d
  · rw [if_neg hv]; exact trap_goes h hv c d
end Go.Proofs.YtpbjfjedgcabhaaDoor
