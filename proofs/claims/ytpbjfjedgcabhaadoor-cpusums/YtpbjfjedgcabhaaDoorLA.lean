/-
  A seat in memory: a block of 26 cells, known whole; loads, stores and comparisons of whole seats. Nothing of the program stands here but the numbers of its types.
-/
import Derived.Test.YtpbjfjedgcabhaaDoorRows
import Derived.Test.YtpbjfjedgcabhaaDoorLT
import Derived.Laws.Rows
import Derived.Laws.Tables
import Derived.Laws.StructEq
import Derived.WalkKit
import Derived.ProofKit
import Derived.OpenShut
import Derived.BigFrame
import Derived.Lib.Hide
namespace Go.Proofs.YtpbjfjedgcabhaaDoor
open Go.ChangeShapes Go.WideShapes Go.ChangeAt Go.RowKit
set_option maxRecDepth 100000

/-- A seat, plain. -/
structure SV where
  r : Nat → Nat
  pc : Nat
  ba : Nat
  ve : Nat
  ep : Nat
  ca : Nat
  ad : Nat
  op : Bool
  st : Nat
  pd : Nat
  ma : Nat
def SV.cells (s : SV) : Array Value := #[.int .u64 (s.r 0), .int .u64 (s.r 1), .int .u64 (s.r 2), .int .u64 (s.r 3), .int .u64 (s.r 4), .int .u64 (s.r 5), .int .u64 (s.r 6), .int .u64 (s.r 7),
  .int .u64 (s.r 8), .int .u64 (s.r 9), .int .u64 (s.r 10), .int .u64 (s.r 11), .int .u64 (s.r 12), .int .u64 (s.r 13), .int .u64 (s.r 14), .int .u64 (s.r 15),
  .int .u64 s.pc, .int .u64 s.ba, .int .u64 s.ve, .int .u64 s.ep, .int .u64 s.ca, .int .u64 s.ad, .bool s.op, .int .u8 s.st, .int .u32 s.pd, .int .u32 s.ma]
def SV.agg (s : SV) : Value := .agg s.cells
/-- The seat lies in block B. -/
def LS (w : World) (B : Nat) (s : SV) : Prop := w.heap[B]? = some (.cells s.cells 26)
theorem LS.lt {w : World} {B : Nat} {s : SV} (h : LS w B s) : B < w.heap.size := (Array.getElem?_eq_some_iff.1 h).1
theorem LS.fz {w : World} {B : Nat} {s : SV} (h : LS w B s) (i : Nat) : w.frozen? ⟨B, i, none⟩ = false := by
  have h' : w.heap[B]? = some (.cells s.cells 26) := h
  simp [World.frozen?, h']
theorem LS.cell {w : World} {B : Nat} {s : SV} (h : LS w B s) (i : Nat) : w.cell? ⟨B, i, none⟩ = s.cells[i]? := by
  have h' : w.heap[B]? = some (.cells s.cells 26) := h
  simp [World.cell?, h']
theorem LS.kept {w w' : World} {B : Nat} {s : SV} {row : Option Nat} (h : LS w B s) (hg : w.grownBy w' row) (hr : some B ≠ row) : LS w' B s := (hg.block B h.lt hr).trans h
theorem LS.below {w w' : World} {B : Nat} {s : SV} (h : LS w B s) (hb : Below w.heap.size w w') : LS w' B s := (hb.block B h.lt).trans h
theorem ls_new (w : World) (s : SV) : LS (w.alloc (.cells s.cells 26)) w.heap.size s := heap_alloc_new w _
theorem LS.set {w : World} {B : Nat} {s t : SV} (h : LS w B s) (i : Nat) (v : Value) (he : s.cells.setIfInBounds i v = t.cells) : LS (w.setCell ⟨B, i, none⟩ v) B t := by
  rw [setCell_eq_setRow w B i s.cells 26 (0, 0) v h]
  unfold LS
  rw [setRow_heap w B s.cells _ 26 (0, 0) h, he]
theorem LS.setOp {w : World} {B : Nat} {s : SV} (h : LS w B s) (b : Bool) : LS (w.setCell ⟨B, 22, none⟩ (.bool b)) B { s with op := b } := h.set 22 _ rfl
theorem LS.setSt {w : World} {B : Nat} {s : SV} (h : LS w B s) (n : Nat) : LS (w.setCell ⟨B, 23, none⟩ (.int .u8 n)) B { s with st := n } := h.set 23 _ rfl
theorem LS.setPd {w : World} {B : Nat} {s : SV} (h : LS w B s) (n : Nat) : LS (w.setCell ⟨B, 24, none⟩ (.int .u32 n)) B { s with pd := n } := h.set 24 _ rfl
theorem LS.setMa {w : World} {B : Nat} {s : SV} (h : LS w B s) (n : Nat) : LS (w.setCell ⟨B, 25, none⟩ (.int .u32 n)) B { s with ma := n } := h.set 25 _ rfl
theorem LS.put {w : World} {B : Nat} {s : SV} (h : LS w B s) (t : SV) : LS (w.setRow B t.cells) B t := by
  unfold LS
  exact setRow_heap w B s.cells _ 26 (0, 0) h
theorem grown_setRowS (w : World) (g : Nat) (cs : Array Value) : w.grownBy (w.setRow g cs) (some g) :=
  ⟨rfl, rfl, rfl, by simp [World.setRow], fun k _ hk => setRow_other w g k cs (fun e => hk (by rw [e]))⟩
theorem grown_setCellS (w : World) (p : Addr) (u : Value) : w.grownBy (w.setCell p u) (some p.block) :=
  ⟨rfl, rfl, rfl, by simp [World.setCell], fun k _ hk => Below.heap_setCell w p u k (fun e => hk (by rw [e]))⟩
/-- The four that calls of layer 9 read. -/
theorem LS.op' {w : World} {B : Nat} {s : SV} (h : LS w B s) : w.cell? ⟨B, 22, none⟩ = some (.bool s.op) := h.cell 22
theorem LS.st' {w : World} {B : Nat} {s : SV} (h : LS w B s) : w.cell? ⟨B, 23, none⟩ = some (.int .u8 s.st) := h.cell 23
theorem LS.pd' {w : World} {B : Nat} {s : SV} (h : LS w B s) : w.cell? ⟨B, 24, none⟩ = some (.int .u32 s.pd) := h.cell 24
theorem LS.ma' {w : World} {B : Nat} {s : SV} (h : LS w B s) : w.cell? ⟨B, 25, none⟩ = some (.int .u32 s.ma) := h.cell 25

/-! ### loads, stores, comparisons of whole seats -/
theorem cells_one (t : SV) : t.cells.all (·.oneCell') = true := by simp [SV.cells, Value.oneCell']
theorem sizeS : (Tryd.prog.info? 26).map (·.size) = some 26 := by kernel_rfl
theorem wpList_ldS {ops : Array Oper} {rest : List Oper} {o : Oper} {a : Act} {w : World} {Q : Exit → Act → World → Prop} (hw : Region.wanted o (yielded ops a.tmps) = true) (x : Operand) (ho : o.op = .load 26 x)
    (B : Nat) (hx : a.eval x = .pointer (some ⟨B, 0, none⟩)) (s : SV) (hL : LS w B s) (h : wpList Tryd.prog ops Q rest (a.put o.dst s.agg) w) : wpList Tryd.prog ops Q (o :: rest) a w :=
  wpList_step fun _ hK => by rw [if_pos hw]; exact wp_load_row 26 x ho B hx 26 s.cells (0, 0) _ hL Tryd.underlying26 rfl sizeS (hK _ _ h)
theorem wpList_stS {ops : Array Oper} {rest : List Oper} {o : Oper} {a : Act} {w : World} {Q : Exit → Act → World → Prop} (hw : Region.wanted o (yielded ops a.tmps) = true) (x y : Operand) (ho : o.op = .store 26 x y)
    (B : Nat) (hx : a.eval x = .pointer (some ⟨B, 0, none⟩)) (s t : SV) (hy : a.eval y = t.agg) (hL : LS w B s) (h : wpList Tryd.prog ops Q rest (a.put o.dst undef) (w.setRow B t.cells)) : wpList Tryd.prog ops Q (o :: rest) a w :=
  wpList_step fun _ hK => by rw [if_pos hw]; exact wp_store_row 26 x y ho B t.cells hx hy 26 s.cells hL sizeS rfl (cells_one t) (hK _ _ h)
def regs (s : SV) : Array Value := #[.int .u64 (s.r 0), .int .u64 (s.r 1), .int .u64 (s.r 2), .int .u64 (s.r 3), .int .u64 (s.r 4), .int .u64 (s.r 5), .int .u64 (s.r 6), .int .u64 (s.r 7),
  .int .u64 (s.r 8), .int .u64 (s.r 9), .int .u64 (s.r 10), .int .u64 (s.r 11), .int .u64 (s.r 12), .int .u64 (s.r 13), .int .u64 (s.r 14), .int .u64 (s.r 15)]
theorem run_size64 (w : World) : (Go.sizeOf 22).run Tryd.prog w = .ok 1 w := by kernel_rfl
theorem run_agg64 (w : World) : (Go.isAgg 22).run Tryd.prog w = .ok false w := by kernel_rfl
theorem forIn_still {P : Program} {β : Type} (b : β) (body : Nat → β → Sem (ForInStep β)) : ∀ (l : List Nat) (w : World), (∀ i ∈ l, ∀ w, (body i b).run P w = .ok (.yield b) w) → (forIn l b body).run P w = .ok b w
  | [], w, _ => by simp
  | i :: l, w, h => by
    simp only [List.forIn_cons, Sem.run_bind, h i (by simp) w, Result.andThen_ok]
    exact forIn_still b body l w (fun j hj => h j (by simp [hj]))
theorem regs_at (s : SV) (i : Nat) (hi : i < 16) : ∃ n : Nat, (regs s)[i]? = some (.int .u64 n) := by
  have h : i = 0 ∨ i = 1 ∨ i = 2 ∨ i = 3 ∨ i = 4 ∨ i = 5 ∨ i = 6 ∨ i = 7 ∨ i = 8 ∨ i = 9 ∨ i = 10 ∨ i = 11 ∨ i = 12 ∨ i = 13 ∨ i = 14 ∨ i = 15 := by omega
  rcases h with rfl | rfl | rfl | rfl | rfl | rfl | rfl | rfl | rfl | rfl | rfl | rfl | rfl | rfl | rfl | rfl <;> exact ⟨_, rfl⟩
theorem eq_regs (d : Nat) (s : SV) (w : World) : (Op.equalIn (d + 2) 23 (.agg (regs s)) (.agg (regs s))).run Tryd.prog w = .ok true w := by
  have u0 := Tryd.underlying23
  have u1 := Tryd.underlying22
  have hx := regs_at s
  generalize regs s = xs at *
  simp only [Op.equalIn, Sem.run_bind, run_underlying u0, run_size64, Result.andThen_ok, Std.Legacy.Range.forIn_eq_forIn_range']
  rw [forIn_still]
  · simp
  · intro i hi w
    obtain ⟨n, hn⟩ := hx i (by simp [List.mem_range'] at hi; omega)
    simp [run_underlying u1, part, hn]
theorem eqFields_still {P : Program} (d : Nat) (xs : Array Value) : ∀ (fs : List Field) (w : World), (∀ f ∈ fs, ∃ v, ∀ w, (part f.type xs f.offset).run P w = .ok v w ∧ (Op.equalIn d f.type v v).run P w = .ok true w) → (Op.eqFields d xs xs fs).run P w = .ok true w
  | [], w, _ => by simp [Op.eqFields]
  | f :: fs, w, h => by
    obtain ⟨v, hv⟩ := h f (by simp)
    have ih := eqFields_still d xs fs w (fun g hg => h g (by simp [hg]))
    simp only [Op.eqFields]
    split
    · simp only [Sem.run_bind, (hv w).1, (hv w).2, Result.andThen_ok]
      simpa using ih
    · exact ih
theorem fieldsS : (Tryd.prog.fieldsOf 26).toList.map (fun f => (f.type, f.offset)) = [(23, 0), (22, 16), (22, 17), (22, 18), (22, 19), (22, 20), (22, 21), (4, 22), (5, 23), (24, 24), (24, 25)] := by kernel_rfl
theorem run_aggs (t : TypeId) (b : Bool) (h : (match Tryd.prog.underlying t with | some (.struct _) => true | some (.array _ _) => true | some _ => false | none => !b) = b) (w : World) : (Go.isAgg t).run Tryd.prog w = .ok b w := by
  unfold Go.isAgg
  cases hu : Tryd.prog.underlying t with
  | none => rw [hu] at h; cases b <;> simp at h
  | some d =>
    rw [hu] at h
    rw [Sem.run_bind, run_underlying hu w]
    cases d <;> simp_all
theorem part_one (xs : Array Value) (t : TypeId) (i : Nat) (v : Value) (hi : xs[i]? = some v) (h : (match Tryd.prog.underlying t with | some (.struct _) => true | some (.array _ _) => true | some _ => false | none => true) = false) (w : World) : (part t xs i).run Tryd.prog w = .ok v w := by
  unfold part
  rw [Sem.run_bind, run_aggs t false h w]
  simp [hi]
theorem eq_seat (d : Nat) (s : SV) (w : World) : (Op.equalIn (d + 3) 26 s.agg s.agg).run Tryd.prog w = .ok true w := by
  unfold SV.agg
  rw [run_equalIn_struct w (d + 2) 26 _ _ (by kernel_rfl) (by kernel_rfl)]
  apply eqFields_still
  intro f hf
  have hm : (f.type, f.offset) ∈ (Tryd.prog.fieldsOf 26).toList.map (fun f => (f.type, f.offset)) := List.mem_map.2 ⟨f, hf, rfl⟩
  rw [fieldsS] at hm
  generalize f.type = t at *
  generalize f.offset = o at *
  simp only [List.mem_cons, Prod.mk.injEq, List.not_mem_nil, or_false] at hm
  have u1 := Tryd.underlying22
  have u2 := Tryd.underlying4
  have u3 := Tryd.underlying5
  have u4 := Tryd.underlying24
  rcases hm with ⟨rfl, rfl⟩ | ⟨rfl, rfl⟩ | ⟨rfl, rfl⟩ | ⟨rfl, rfl⟩ | ⟨rfl, rfl⟩ | ⟨rfl, rfl⟩ | ⟨rfl, rfl⟩ | ⟨rfl, rfl⟩ | ⟨rfl, rfl⟩ | ⟨rfl, rfl⟩ | ⟨rfl, rfl⟩
  · refine ⟨.agg (regs s), fun w => ⟨?_, eq_regs d s w⟩⟩
    unfold part
    rw [Sem.run_bind, run_aggs 23 true (by rw [Tryd.underlying23]) w]
    simp
    rfl
  · exact ⟨.int .u64 s.pc, fun w => ⟨part_one s.cells _ 16 _ rfl (by rw [u1]) w, by rw [run_equalIn_int w _ _ _ _ _ _ u1]; simp⟩⟩
  · exact ⟨.int .u64 s.ba, fun w => ⟨part_one s.cells _ 17 _ rfl (by rw [u1]) w, by rw [run_equalIn_int w _ _ _ _ _ _ u1]; simp⟩⟩
  · exact ⟨.int .u64 s.ve, fun w => ⟨part_one s.cells _ 18 _ rfl (by rw [u1]) w, by rw [run_equalIn_int w _ _ _ _ _ _ u1]; simp⟩⟩
  · exact ⟨.int .u64 s.ep, fun w => ⟨part_one s.cells _ 19 _ rfl (by rw [u1]) w, by rw [run_equalIn_int w _ _ _ _ _ _ u1]; simp⟩⟩
  · exact ⟨.int .u64 s.ca, fun w => ⟨part_one s.cells _ 20 _ rfl (by rw [u1]) w, by rw [run_equalIn_int w _ _ _ _ _ _ u1]; simp⟩⟩
  · exact ⟨.int .u64 s.ad, fun w => ⟨part_one s.cells _ 21 _ rfl (by rw [u1]) w, by rw [run_equalIn_int w _ _ _ _ _ _ u1]; simp⟩⟩
  · exact ⟨.bool s.op, fun w => ⟨part_one s.cells _ 22 _ rfl (by rw [u2]) w, by rw [run_equalIn_bool' w _ _ _ _ u2]; simp⟩⟩
  · exact ⟨.int .u8 s.st, fun w => ⟨part_one s.cells _ 23 _ rfl (by rw [u3]) w, by rw [run_equalIn_int w _ _ _ _ _ _ u3]; simp⟩⟩
  · exact ⟨.int .u32 s.pd, fun w => ⟨part_one s.cells _ 24 _ rfl (by rw [u4]) w, by rw [run_equalIn_int w _ _ _ _ _ _ u4]; simp⟩⟩
  · exact ⟨.int .u32 s.ma, fun w => ⟨part_one s.cells _ 25 _ rfl (by rw [u4]) w, by rw [run_equalIn_int w _ _ _ _ _ _ u4]; simp⟩⟩
theorem run_eqS (s : SV) (w : World) : (binOp .eql 26 s.agg s.agg).run Tryd.prog w = .ok (.bool true) w := by
  unfold SV.agg
  rw [run_eql_struct w 26]
  have h := eq_seat 9997 s w
  unfold SV.agg at h
  rw [h]; rfl
theorem run_neS (s : SV) (w : World) : (binOp .neq 26 s.agg s.agg).run Tryd.prog w = .ok (.bool false) w := by
  unfold SV.agg
  rw [run_neq_struct w 26]
  have h := eq_seat 9997 s w
  unfold SV.agg at h
  rw [h]; rfl
theorem guardS (op : BinOp) (x y : Operand) (s t : SV) (w : World) : (eqGuard op 26 x y s.agg t.agg).run Tryd.prog w = .ok () w := run_eqGuard_agg w op _ x y _ _ (by kernel_rfl)
theorem wpList_eqS {ops : Array Oper} {rest : List Oper} {o : Oper} {a : Act} {w : World} {Q : Exit → Act → World → Prop} (hw : Region.wanted o (yielded ops a.tmps) = true) (x y : Operand) (ho : o.op = .binOp .eql 26 x y 26)
    (s : SV) (hx : a.eval x = s.agg) (hy : a.eval y = s.agg) (h : wpList Tryd.prog ops Q rest (a.put o.dst (.bool true)) w) : wpList Tryd.prog ops Q (o :: rest) a w :=
  wpList_step fun _ hK => by
    rw [if_pos hw]
    unfold Oper.wp
    simp [execOp, ho, hx, hy, run_eqS, guardS]
    exact hK _ _ h
theorem wpList_neS {ops : Array Oper} {rest : List Oper} {o : Oper} {a : Act} {w : World} {Q : Exit → Act → World → Prop} (hw : Region.wanted o (yielded ops a.tmps) = true) (x y : Operand) (ho : o.op = .binOp .neq 26 x y 26)
    (s : SV) (hx : a.eval x = s.agg) (hy : a.eval y = s.agg) (h : wpList Tryd.prog ops Q rest (a.put o.dst (.bool false)) w) : wpList Tryd.prog ops Q (o :: rest) a w :=
  wpList_step fun _ hK => by
    rw [if_pos hw]
    unfold Oper.wp
    simp [execOp, ho, hx, hy, run_neS, guardS]
    exact hK _ _ h
def SV.zero : SV := ⟨fun _ => 0, 0, 0, 0, 0, 0, 0, false, 0, 0, 0⟩
theorem zeroS_run (W : World) : (zeroValue 26).run Tryd.prog W = .ok SV.zero.agg W := by kernel_rfl
/-- What a call that turns a seat, and nothing else, leaves. -/
structure Sn (w w' : World) (B : Nat) (t : SV) : Prop where
  ls : LS w' B t
  gr : w.grownBy w' (some B)
end Go.Proofs.YtpbjfjedgcabhaaDoor
