/-
  Arrays in blocks of their own: known whole; elements that are read and written, whole loads and stores, what a call hands back of one.
-/
import Derived.Test.YthafcgppopfdkaaGP
import Derived.Laws.Rows
import Derived.Laws.Tables
import Derived.Laws.StructEq
import Derived.BigFrame
namespace Go.Proofs.Ythafcgppopfdkaa
open Go.ChangeShapes Go.WideShapes Go.ChangeAt Go.RowKit
set_option maxRecDepth 100000
set_option linter.unusedVariables false

def updA {α : Type} (f : Nat → α) (p : Nat) (v : α) : Nat → α := fun i => if i = p then v else f i
theorem updA_same {α : Type} (f : Nat → α) (p : Nat) (v : α) : updA f p v p = v := if_pos rfl
theorem updA_other {α : Type} (f : Nat → α) (p : Nat) (v : α) (i : Nat) (h : i ≠ p) : updA f p v i = f i := if_neg h
def aggD (d : TypeDesc) : Bool := match d with | .struct _ | .array _ _ => true | _ => false
/-- A list of n cells. -/
def arrA (n : Nat) (c : Nat → Value) : Array Value := ((List.range n).map c).toArray
theorem arrA_size (n : Nat) (c : Nat → Value) : (arrA n c).size = n := by simp [arrA]
theorem arrA_at {n : Nat} (c : Nat → Value) {i : Nat} (h : i < n) : (arrA n c)[i]? = some (c i) := by simp [arrA, h]
theorem arrA_over {n : Nat} (c : Nat → Value) {i : Nat} (h : ¬ i < n) : (arrA n c)[i]? = none := by simp [arrA]; omega
theorem arrA_congr {n : Nat} {c d : Nat → Value} (h : ∀ i, i < n → c i = d i) : arrA n c = arrA n d := by
  unfold arrA
  congr 1
  exact List.map_congr_left fun i hi => h i (by simpa using hi)
theorem arrA_set (n : Nat) (c : Nat → Value) (k : Nat) (v : Value) : (arrA n c).setIfInBounds k v = arrA n (updA c k v) := by
  apply Array.ext_getElem?
  intro i
  rw [Array.getElem?_setIfInBounds]
  by_cases hi : i < n
  · rw [arrA_at (updA c k v) hi, arrA_size]
    by_cases e : k = i
    · subst e
      rw [if_pos rfl, if_pos hi, updA_same]
    · rw [if_neg e, arrA_at _ hi, updA_other _ _ _ _ (fun h => e h.symm)]
  · rw [arrA_over _ hi, arrA_over _ hi]
    by_cases e : k = i
    · subst e
      rw [if_pos rfl, if_neg (by rw [arrA_size]; exact hi)]
    · rw [if_neg e]
theorem arrA_one {n : Nat} {c : Nat → Value} (h : ∀ i, (c i).oneCell' = true) : (arrA n c).all (·.oneCell') = true := by
  simp [arrA, h]
/-- Block B is known whole. -/
def BL (w : World) (B : Nat) (ty : TypeId) (cs : Array Value) : Prop := w.heap[B]? = some (.cells cs ty)
theorem BL.lt {w : World} {B : Nat} {ty : TypeId} {cs : Array Value} (h : BL w B ty cs) : B < w.heap.size := (Array.getElem?_eq_some_iff.1 h).1
theorem BL.fz {w : World} {B : Nat} {ty : TypeId} {cs : Array Value} (h : BL w B ty cs) (i : Nat) : w.frozen? ⟨B, i, none⟩ = false := by
  have h' : w.heap[B]? = some (.cells cs ty) := h
  simp [World.frozen?, h']
theorem BL.cell {w : World} {B : Nat} {ty : TypeId} {cs : Array Value} (h : BL w B ty cs) (i : Nat) : w.cell? ⟨B, i, none⟩ = cs[i]? := by
  have h' : w.heap[B]? = some (.cells cs ty) := h
  simp [World.cell?, h']
theorem BL.at {w : World} {B : Nat} {ty : TypeId} {n : Nat} {c : Nat → Value} (h : BL w B ty (arrA n c)) {i : Nat} (hi : i < n) : w.cell? ⟨B, i, none⟩ = some (c i) := (h.cell i).trans (arrA_at c hi)
theorem BL.kept {w w' : World} {B : Nat} {ty : TypeId} {cs : Array Value} {row : Option Nat} (h : BL w B ty cs) (hg : w.grownBy w' row) (hr : some B ≠ row) : BL w' B ty cs := (hg.block B h.lt hr).trans h
theorem BL.below {w w' : World} {B : Nat} {ty : TypeId} {cs : Array Value} (h : BL w B ty cs) (hb : Below w.heap.size w w') : BL w' B ty cs := (hb.block B h.lt).trans h
theorem bl_new (w : World) (ty : TypeId) (cs : Array Value) : BL (w.alloc (.cells cs ty)) w.heap.size ty cs := heap_alloc_new w _
theorem BL.set {w : World} {B : Nat} {ty : TypeId} {cs ds : Array Value} (h : BL w B ty cs) (i : Nat) (v : Value) (he : cs.setIfInBounds i v = ds) : BL (w.setCell ⟨B, i, none⟩ v) B ty ds := by
  rw [setCell_eq_setRow w B i cs ty (0, 0) v h]
  unfold BL
  rw [setRow_heap w B cs _ ty (0, 0) h, he]
theorem BL.put {w : World} {B : Nat} {ty : TypeId} {cs : Array Value} (h : BL w B ty cs) (ds : Array Value) : BL (w.setRow B ds) B ty ds := by
  unfold BL
  exact setRow_heap w B cs _ ty (0, 0) h
/-- A block of one's own, behind w. -/
structure OB (w w' : World) (B : Nat) (ty : TypeId) (cs : Array Value) : Prop where
  bl : BL w' B ty cs
  lb : w.heap.size ≤ B
  bel : Below w.heap.size w w'
theorem OB.below {w w1 w2 : World} {B : Nat} {ty : TypeId} {cs : Array Value} (h : OB w w1 B ty cs) (hb : Below w1.heap.size w1 w2) : OB w w2 B ty cs := ⟨h.bl.below hb, h.lb, below_up h.bel hb⟩
theorem OB.set {w w1 : World} {B : Nat} {ty : TypeId} {cs ds : Array Value} (h : OB w w1 B ty cs) (i : Nat) (v : Value) (he : cs.setIfInBounds i v = ds) : OB w (w1.setCell ⟨B, i, none⟩ v) B ty ds :=
  ⟨h.bl.set i v he, h.lb, h.bel.grown (grown_setCell _ _ _) h.bel.size (fun j hj => by injection hj with hj; rw [← hj]; exact h.lb)⟩
theorem OB.put {w w1 : World} {B : Nat} {ty : TypeId} {cs : Array Value} (h : OB w w1 B ty cs) (ds : Array Value) : OB w (w1.setRow B ds) B ty ds :=
  ⟨h.bl.put ds, h.lb, h.bel.grown (grown_setRow _ _ _) h.bel.size (fun j hj => by injection hj with hj; rw [← hj]; exact h.lb)⟩
theorem OB.kept {w w1 w2 : World} {B C : Nat} {ty : TypeId} {cs : Array Value} (h : OB w w1 B ty cs) (hg : w1.grownBy w2 (some C)) (hn : B ≠ C) (hc : w.heap.size ≤ C) : OB w w2 B ty cs :=
  ⟨h.bl.kept hg (by simpa using hn), h.lb, h.bel.grown hg h.bel.size (fun j hj => by injection hj with hj; omega)⟩
theorem ob_new {w0 w : World} (hb : Below w0.heap.size w0 w) (ty : TypeId) (cs : Array Value) : OB w0 (w.alloc (.cells cs ty)) w.heap.size ty cs := ⟨bl_new w ty cs, hb.size, below_more hb _⟩
/-- A new block, and what is stored into it at once. -/
theorem ob_lay {w0 w : World} (hb : Below w0.heap.size w0 w) (ty : TypeId) (zs cs : Array Value) : OB w0 ((w.alloc (.cells zs ty)).setRow w.heap.size cs) w.heap.size ty cs := (ob_new hb ty zs).put cs
theorem lay_below (w : World) (ty : TypeId) (zs cs : Array Value) : Below w.heap.size w ((w.alloc (.cells zs ty)).setRow w.heap.size cs) :=
  (below_new w _).grown (grown_setRow _ w.heap.size cs) (by simp) (fun j hj => by injection hj with hj; omega)
theorem bl_newAt (U : World) (ty : TypeId) (cs : Array Value) (B : Nat) (h : U.heap.size = B) : BL (U.alloc (.cells cs ty)) B ty cs := by subst h; exact bl_new U ty cs

section
variable {ops : Array Oper} {rest : List Oper} {o : Oper} {a : Act} {w : World} {Q : Exit → Act → World → Prop}
theorem wpList_ldA (hw : Region.wanted o (yielded ops a.tmps) = true) (ty : TypeId) (x : Operand) (ho : o.op = .load ty x) (B : Nat) (hx : a.eval x = .pointer (some ⟨B, 0, none⟩)) (t : TypeId) (cs : Array Value) (d : TypeDesc)
    (hu : Try.prog.underlying ty = some d) (hd : aggD d = true) (hi : (Try.prog.info? ty).map (·.size) = some cs.size) (hL : BL w B t cs)
    (h : wpList Try.prog ops Q rest (a.put o.dst (.agg cs)) w) : wpList Try.prog ops Q (o :: rest) a w :=
  wpList_step fun _ hK => by rw [if_pos hw]; exact wp_load_row ty x ho B hx t cs (0, 0) d hL hu (by cases d <;> first | rfl | exact hd) hi (hK _ _ h)
theorem wpList_stA (hw : Region.wanted o (yielded ops a.tmps) = true) (ty : TypeId) (x y : Operand) (ho : o.op = .store ty x y) (B : Nat) (hx : a.eval x = .pointer (some ⟨B, 0, none⟩)) (t : TypeId) (cs ds : Array Value)
    (hy : a.eval y = .agg ds) (hi : (Try.prog.info? ty).map (·.size) = some ds.size) (hs : cs.size = ds.size) (h1 : ds.all (·.oneCell') = true) (hL : BL w B t cs)
    (h : wpList Try.prog ops Q rest (a.put o.dst undef) (w.setRow B ds)) : wpList Try.prog ops Q (o :: rest) a w :=
  wpList_step fun _ hK => by
    rw [if_pos hw]
    exact wp_store_row ty x y ho B ds hx hy t cs hL hi hs h1 (hK _ _ h)
end
theorem run_aggA (t : TypeId) (b : Bool) (h : (match Try.prog.underlying t with | some (.struct _) => true | some (.array _ _) => true | some _ => false | none => !b) = b) (w : World) : (Go.isAgg t).run Try.prog w = .ok b w := by
  unfold Go.isAgg
  cases hu : Try.prog.underlying t with
  | none => rw [hu] at h; cases b <;> simp at h
  | some d =>
    rw [hu] at h
    rw [Sem.run_bind, run_underlying hu w]
    cases d <;> simp_all
theorem part_oneA (xs : Array Value) (t : TypeId) (i : Nat) (v : Value) (hi : xs[i]? = some v) (h : (match Try.prog.underlying t with | some (.struct _) => true | some (.array _ _) => true | some _ => false | none => true) = false) (w : World) : (part t xs i).run Try.prog w = .ok v w := by
  unfold part
  rw [Sem.run_bind, run_aggA t false h w]
  simp [hi]
theorem run_sizeA (t : TypeId) (n : Nat) (h : (Try.prog.info? t).map (·.size) = some n) (w : World) : (Go.sizeOf t).run Try.prog w = .ok n w := by
  cases hq : Try.prog.info? t with
  | none => rw [hq] at h; simp at h
  | some i => 
    rw [hq] at h
    have : i.size = n := by simpa using h
    simp [Go.sizeOf, typeInfo, hq, this]
/-- An element of an array by value, of one cell. -/
theorem run_idx1 (t e : TypeId) (n : Nat) (hu : Try.prog.underlying t = some (.array n e)) (hs : (Try.prog.info? e).map (·.size) = some 1) (he : (match Try.prog.underlying e with | some (.struct _) => true | some (.array _ _) => true | some _ => false | none => true) = false)
    (cs : Array Value) (k : IntKind) (i : Nat) (v : Value) (hi : i < n) (hv : cs[i]? = some v) (w : World) : (Instr.index t (.agg cs) (.int k i)).run Try.prog w = .ok v w := by
  have h1 : (0 : Int) ≤ (i : Int) ∧ (i : Int) < (n : Int) := by omega
  have hp := part_oneA cs e (i * 1) v (by simpa using hv) he w
  have hz := run_sizeA e 1 hs w
  simp [Instr.index, run_underlying hu, asIntOf, h1, hz, hi]
  simpa using hp
theorem forIn_stillA {P : Program} {β : Type} (b : β) (body : Nat → β → Sem (ForInStep β)) : ∀ (l : List Nat) (w : World), (∀ i ∈ l, ∀ w, (body i b).run P w = .ok (.yield b) w) → (forIn l b body).run P w = .ok b w
  | [], w, _ => by simp
  | i :: l, w, h => by
    simp only [List.forIn_cons, Sem.run_bind, h i (by simp) w, Result.andThen_ok]
    exact forIn_stillA b body l w (fun j hj => h j (by simp [hj]))
/-- An array is equal to itself where its elements are. -/
theorem eq_arr_self (d : Nat) (t e : TypeId) (n m : Nat) (hu : Try.prog.underlying t = some (.array n e)) (hs : (Try.prog.info? e).map (·.size) = some m) (cs : Array Value)
    (hel : ∀ i, i < n → ∃ v, ∀ w, (part e cs (i * m)).run Try.prog w = .ok v w ∧ (Op.equalIn d e v v).run Try.prog w = .ok true w) (w : World) :
    (Op.equalIn (d + 1) t (.agg cs) (.agg cs)).run Try.prog w = .ok true w := by
  simp only [Op.equalIn, Sem.run_bind, run_underlying hu, run_sizeA e m hs, Result.andThen_ok, Std.Legacy.Range.forIn_eq_forIn_range']
  rw [forIn_stillA]
  · simp
  · intro i hi w
    obtain ⟨v, hv⟩ := hel i (by simp [List.mem_range'] at hi; omega)
    simp [(hv w).1, (hv w).2]
section
variable {ops : Array Oper} {rest : List Oper} {o : Oper} {a : Act} {w : World} {Q : Exit → Act → World → Prop}
theorem wpList_eqA (hw : Region.wanted o (yielded ops a.tmps) = true) (ty : TypeId) (x y : Operand) (ho : o.op = .binOp .eql ty x y ty) (cs : Array Value) (hx : a.eval x = .agg cs) (hy : a.eval y = .agg cs)
    (hm : Try.prog.eqGuardType Try.prog.depth ty = false) (he : ∀ w, (Op.equalIn 10000 ty (.agg cs) (.agg cs)).run Try.prog w = .ok true w)
    (h : wpList Try.prog ops Q rest (a.put o.dst (.bool true)) w) : wpList Try.prog ops Q (o :: rest) a w :=
  wpList_step fun _ hK => by
    rw [if_pos hw]
    unfold Oper.wp
    simp [execOp, ho, hx, hy, run_eql_struct w, he, run_eqGuard_agg w .eql ty x y cs cs hm]
    exact hK _ _ h
theorem wpList_neA (hw : Region.wanted o (yielded ops a.tmps) = true) (ty : TypeId) (x y : Operand) (ho : o.op = .binOp .neq ty x y ty) (cs : Array Value) (hx : a.eval x = .agg cs) (hy : a.eval y = .agg cs)
    (hm : Try.prog.eqGuardType Try.prog.depth ty = false) (he : ∀ w, (Op.equalIn 10000 ty (.agg cs) (.agg cs)).run Try.prog w = .ok true w)
    (h : wpList Try.prog ops Q rest (a.put o.dst (.bool false)) w) : wpList Try.prog ops Q (o :: rest) a w :=
  wpList_step fun _ hK => by
    rw [if_pos hw]
    unfold Oper.wp
    simp [execOp, ho, hx, hy, run_neq_struct w, he, run_eqGuard_agg w .neq ty x y cs cs hm]
    exact hK _ _ h
end
theorem results_arr {fn : Func} {p : Tmp} {ty : TypeId} (hr : fn.results = #[.cell p ty]) {tmps : Array Value} {W : World} {B : Nat} {t : TypeId} {cs : Array Value} (d : TypeDesc) (hu : Try.prog.underlying ty = some d)
    (hd : aggD d = true) (hi : (Try.prog.info? ty).map (·.size) = some cs.size) (hp : tmps.getD p undef = .pointer (some ⟨B, 0, none⟩)) (hL : BL W B t cs) :
    (results fn tmps).run Try.prog W = .ok (.agg cs) W := results_cell_row hr tmps W B t cs (0, 0) d hp hL hu (by cases d <;> first | rfl | exact hd) hi
theorem results_arr2 {fn : Func} {p u : Tmp} {ty : TypeId} (hr : fn.results = #[.cell p ty, .tmp u]) {tmps : Array Value} {W : World} {B : Nat} {t : TypeId} {cs : Array Value} (d : TypeDesc) (hu : Try.prog.underlying ty = some d)
    (hd : aggD d = true) (hi : (Try.prog.info? ty).map (·.size) = some cs.size) (hp : tmps.getD p undef = .pointer (some ⟨B, 0, none⟩)) (hL : BL W B t cs) :
    (results fn tmps).run Try.prog W = .ok (.tuple #[.agg cs, tmps.getD u undef]) W := by
  have hl := run_loadVar_row (P := Try.prog) W B t ty cs (0, 0) d hL hu (by cases d <;> first | rfl | exact hd) hi
  have hp' : tmps[p]?.getD undef = .pointer (some ⟨B, 0, none⟩) := by simpa using hp
  simp only [results, hr]
  simp [hp', asAddr, hl]
theorem results_arr3 {fn : Func} {p u v : Tmp} {ty : TypeId} (hr : fn.results = #[.cell p ty, .tmp u, .tmp v]) {tmps : Array Value} {W : World} {B : Nat} {t : TypeId} {cs : Array Value} (d : TypeDesc) (hu : Try.prog.underlying ty = some d)
    (hd : aggD d = true) (hi : (Try.prog.info? ty).map (·.size) = some cs.size) (hp : tmps.getD p undef = .pointer (some ⟨B, 0, none⟩)) (hL : BL W B t cs) :
    (results fn tmps).run Try.prog W = .ok (.tuple #[.agg cs, tmps.getD u undef, tmps.getD v undef]) W := by
  have hl := run_loadVar_row (P := Try.prog) W B t ty cs (0, 0) d hL hu (by cases d <;> first | rfl | exact hd) hi
  have hp' : tmps[p]?.getD undef = .pointer (some ⟨B, 0, none⟩) := by simpa using hp
  simp only [results, hr]
  simp [hp', asAddr, hl]
end Go.Proofs.Ythafcgppopfdkaa
