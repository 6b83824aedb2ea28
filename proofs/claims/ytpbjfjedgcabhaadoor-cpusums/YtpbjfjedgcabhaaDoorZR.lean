/-
  RQ's walk where the callees make memory of their own: the world at stage k is W k and new blocks behind it. And a store into one cell.
-/
import Derived.Test.YtpbjfjedgcabhaaDoorRQ
import Derived.BigQuiet
import Derived.Lib.Hide
namespace Go.Proofs.YtpbjfjedgcabhaaDoor.ZR
open Go Go.RowKit Go.Proofs.YtpbjfjedgcabhaaDoor.RQ
set_option maxRecDepth 100000
set_option linter.unusedVariables false

theorem later_self (w : World) : ∃ s, w = later w s := later_of_below (Below.refl _ _)
theorem later_setCell (w s : World) (p : Addr) (v : Value) (hp : p.block < w.heap.size) : (later w s).setCell p v = later (w.setCell p v) s := by
  unfold later World.setCell
  congr 1
  apply Array.ext_getElem?
  intro k
  simp only [Array.getElem?_modify, Array.getElem?_append, Array.size_modify]
  by_cases hk : k < w.heap.size
  · rw [if_pos hk, if_pos hk]
  · rw [if_neg hk, if_neg hk, if_neg (by omega)]
/-- ONE WALK IN THE TEXT's ORDER SERVES EVERY ORDER, the callees making what memory they like. -/
theorem wp_region_tl {P : Program} {id : Nat} {Q : Exit → Act → World → Prop} {a : Act} {w : World} {L : List Oper} (W : Nat → World) (sp : Nat → Bool) (hm : P.follows .mixedOrders = true) (hn : Region.noSelect L.toArray = true)
    (hA : okA .any 0 L = true) (hB : okC .any L.toArray sp 0 L = true) (h0 : W 0 = w)
    (h : wpT P L.toArray (fun k w' => ∃ s, w' = later (W k) s) sp (fun k a' => ∀ s, Q .normal a' (later (W k) s)) L 0 0 a) : (Code.region id L.toArray true).wp P Q a w := by
  subst h0
  refine wp_region_any hm ?_
  have hs : L.toArray.size = L.length := by simp
  rw [hs]
  refine wpAny_of_T (C := fun k w' => ∃ s, w' = later (W k) s) (sp := sp) (Q := fun k a' => ∀ s, Q .normal a' (later (W k) s)) (fun k a' w' ⟨n, hw⟩ hq => by subst hw; exact hq n) L.length _ 0 a _ (later_drew (W 0)) ?_
  exact wpAnyT_lex L hn hA hB L 0 _ 0 a (by simp) (by simp) ⟨by simp, fun i hi => by rw [Array.getElem?_replicate, if_pos hi]; simp⟩ h
/-- A call that leaves what was there alone. -/
theorem wpT_ask {P : Program} {ops : Array Oper} {W : Nat → World} {sp : Nat → Bool} {Q : Nat → Act → Prop} {o : Oper} {rest : List Oper} {i k : Nat} {a : Act} (hs : sp i = false) (hw : Region.wanted o (yielded ops a.tmps) = true)
    (f : FuncId) (args : Array Value) (ho : ∀ w, (execOp a.eval o).run P w = .ok (.enter f args) w) (v : Value)
    (hc : ∀ j s, Calls P f args (later (W j) s) (fun e w'' => e = .returned v ∧ Below (later (W j) s).heap.size (later (W j) s) w''))
    (h : wpT P ops (fun k w' => ∃ s, w' = later (W k) s) sp Q rest (i + 1) k (a.put o.dst v)) : wpT P ops (fun k w' => ∃ s, w' = later (W k) s) sp Q (o :: rest) i k a := by
  refine wpT_reads hs (fun K hK => ?_)
  rw [if_pos hw]
  refine ⟨v, fun j w' hw' => ?_, hK _ h⟩
  obtain ⟨n, rfl⟩ := hw'
  unfold Oper.quietAt
  rw [ho]
  exact ⟨rfl, later_left (hc j n)⟩
/-- A value that is the same at every stage. -/
theorem wpT_val {P : Program} {ops : Array Oper} {W : Nat → World} {sp : Nat → Bool} {Q : Nat → Act → Prop} {o : Oper} {rest : List Oper} {i k : Nat} {a : Act} (hs : sp i = false) (hw : Region.wanted o (yielded ops a.tmps) = true)
    (v : Value) (h1 : ∀ j s, (execOp a.eval o).run P (later (W j) s) = .ok (.value v) (later (W j) s))
    (h : wpT P ops (fun k w' => ∃ s, w' = later (W k) s) sp Q rest (i + 1) k (a.put o.dst v)) : wpT P ops (fun k w' => ∃ s, w' = later (W k) s) sp Q (o :: rest) i k a := by
  refine wpT_reads hs (fun K hK => ?_)
  rw [if_pos hw]
  refine ⟨v, fun j w' hw' => ?_, hK _ h⟩
  obtain ⟨n, rfl⟩ := hw'
  unfold Oper.quietAt
  rw [h1]
  exact ⟨rfl, rfl⟩
/-- A store into one cell. -/
theorem turns_store_cell {P : Program} {o : Oper} {a : Act} {W : Nat → World} {k : Nat} (ty : TypeId) (x y : Operand) (ho : o.op = .store ty x y) (p : Addr) (v : Value) (hx : a.eval x = .pointer (some p)) (hy : a.eval y = v)
    (hp : p.block < (W k).heap.size) (hr : ∀ s, (execOp a.eval o).run P (later (W k) s) = .ok .skip ((later (W k) s).setCell p v)) (hW : W (k + 1) = (W k).setCell p v) :
    turns P o a (fun w' => ∃ s, w' = later (W k) s) (fun w' => ∃ s, w' = later (W (k + 1)) s) undef := by
  rintro w' ⟨s, rfl⟩
  rw [hr s]
  exact ⟨rfl, s, by rw [hW, later_setCell _ _ _ _ hp]⟩
/-- One whose answer hangs on its stage: it counts as a turning one, the world staying as it is. -/
theorem turns_val {P : Program} {o : Oper} {a : Act} {W : Nat → World} {k : Nat} (v : Value) (h1 : ∀ s, (execOp a.eval o).run P (later (W k) s) = .ok (.value v) (later (W k) s)) (hW : W (k + 1) = W k) :
    turns P o a (fun w' => ∃ s, w' = later (W k) s) (fun w' => ∃ s, w' = later (W (k + 1)) s) v := by
  rintro w' ⟨s, rfl⟩
  rw [h1 s]
  exact ⟨rfl, s, by rw [hW]⟩
theorem turns_ask {P : Program} {o : Oper} {a : Act} {W : Nat → World} {k : Nat} (f : FuncId) (args : Array Value) (ho : ∀ w, (execOp a.eval o).run P w = .ok (.enter f args) w) (v : Value)
    (hc : ∀ s, Calls P f args (later (W k) s) (fun e w'' => e = .returned v ∧ Below (later (W k) s).heap.size (later (W k) s) w'')) (hW : W (k + 1) = W k) :
    turns P o a (fun w' => ∃ s, w' = later (W k) s) (fun w' => ∃ s, w' = later (W (k + 1)) s) v := by
  rintro w' ⟨s, rfl⟩
  rw [ho]
  rw [hW]
  exact later_left (hc s)
theorem run_ld1 {P : Program} {w : World} {a : Act} {o : Oper} (t : TypeId) (x : Operand) (ho : o.op = .load t x) (p : Addr) (v : Value) (hx : a.eval x = .pointer (some p)) (hr : (loadVar t p).run P w = .ok v w) : (execOp a.eval o).run P w = .ok (.value v) w := by
  unfold execOp
  simp only [ho, hx, Instr.loadAt, Instr.sureAddr, Sem.run_bind, Sem.run_pure, Result.andThen_ok, hr]
theorem run_st1 {P : Program} {w w' : World} {a : Act} {o : Oper} (t : TypeId) (x y : Operand) (ho : o.op = .store t x y) (p : Addr) (v : Value) (hx : a.eval x = .pointer (some p)) (hy : a.eval y = v) (hr : (storeVar t p v).run P w = .ok () w') : (execOp a.eval o).run P w = .ok .skip w' := by
  unfold execOp
  simp only [ho, hx, hy, Instr.storeAt, Instr.sureAddr, Sem.run_bind, Sem.run_pure, Result.andThen_ok, hr]
/-- The worlds of a region whose one store is into one cell: with what is read ahead of it (stage 0), and without. -/
def stW (W : World) (p : Addr) (v : Value) : Nat → World
  | 0 => W
  | 1 => W
  | _ => W.setCell p v
def stW1 (W : World) (p : Addr) (v : Value) : Nat → World
  | 0 => W
  | _ => W.setCell p v

/-! ### classes of worlds of any make -/
theorem wp_region_C {P : Program} {id : Nat} {Q : Exit → Act → World → Prop} {a : Act} {w : World} {L : List Oper} (C : Nat → World → Prop) (sp : Nat → Bool) (hm : P.follows .mixedOrders = true) (hn : Region.noSelect L.toArray = true)
    (hA : okA .any 0 L = true) (hB : okC .any L.toArray sp 0 L = true) (h0 : C 0 w.drew)
    (h : wpT P L.toArray C sp (fun k a' => ∀ w', C k w' → Q .normal a' w') L 0 0 a) : (Code.region id L.toArray true).wp P Q a w := by
  refine wp_region_any hm ?_
  have hs : L.toArray.size = L.length := by simp
  rw [hs]
  refine wpAny_of_T (C := C) (sp := sp) (Q := fun k a' => ∀ w', C k w' → Q .normal a' w') (fun k a' w' hw hq => hq w' hw) L.length _ 0 a _ h0 ?_
  exact wpAnyT_lex L hn hA hB L 0 _ 0 a (by simp) (by simp) ⟨by simp, fun i hi => by rw [Array.getElem?_replicate, if_pos hi]; simp⟩ h
theorem valC {P : Program} {ops : Array Oper} {C : Nat → World → Prop} {sp : Nat → Bool} {Q : Nat → Act → Prop} {o : Oper} {rest : List Oper} {i k : Nat} {a : Act} (hs : sp i = false) (hw : Region.wanted o (yielded ops a.tmps) = true)
    (v : Value) (h1 : ∀ j w', C j w' → (execOp a.eval o).run P w' = .ok (.value v) w')
    (h : wpT P ops C sp Q rest (i + 1) k (a.put o.dst v)) : wpT P ops C sp Q (o :: rest) i k a := by
  refine wpT_reads hs (fun K hK => ?_)
  rw [if_pos hw]
  refine ⟨v, fun j w' hw' => ?_, hK _ h⟩
  unfold Oper.quietAt
  rw [h1 j w' hw']
  exact ⟨rfl, rfl⟩
theorem askC {P : Program} {ops : Array Oper} {C : Nat → World → Prop} {sp : Nat → Bool} {Q : Nat → Act → Prop} {o : Oper} {rest : List Oper} {i k : Nat} {a : Act} (hs : sp i = false) (hw : Region.wanted o (yielded ops a.tmps) = true)
    (f : FuncId) (args : Array Value) (ho : ∀ w, (execOp a.eval o).run P w = .ok (.enter f args) w) (v : Value)
    (hc : ∀ j w', C j w' → Calls P f args w' (fun e w'' => e = .returned v ∧ C j w''))
    (h : wpT P ops C sp Q rest (i + 1) k (a.put o.dst v)) : wpT P ops C sp Q (o :: rest) i k a := by
  refine wpT_reads hs (fun K hK => ?_)
  rw [if_pos hw]
  refine ⟨v, fun j w' hw' => ?_, hK _ h⟩
  unfold Oper.quietAt
  rw [ho]
  exact ⟨rfl, hc j w' hw'⟩
theorem turnsC_val {P : Program} {o : Oper} {a : Act} {C D : World → Prop} (v : Value) (h1 : ∀ w', C w' → (execOp a.eval o).run P w' = .ok (.value v) w') (hD : ∀ w', C w' → D w') : turns P o a C D v := by
  intro w' hw
  rw [h1 w' hw]
  exact ⟨rfl, hD w' hw⟩
theorem turnsC_ask {P : Program} {o : Oper} {a : Act} {C D : World → Prop} (f : FuncId) (args : Array Value) (ho : ∀ w, (execOp a.eval o).run P w = .ok (.enter f args) w) (v : Value)
    (hc : ∀ w', C w' → Calls P f args w' (fun e w'' => e = .returned v ∧ D w'')) : turns P o a C D v := by
  intro w' hw
  rw [ho]
  exact hc w' hw
theorem turnsC_st {P : Program} {o : Oper} {a : Act} {C D : World → Prop} (p : Addr) (v : Value) (h1 : ∀ w', C w' → (execOp a.eval o).run P w' = .ok .skip (w'.setCell p v)) (hD : ∀ w', C w' → D (w'.setCell p v)) : turns P o a C D undef := by
  intro w' hw
  rw [h1 w' hw]
  exact ⟨rfl, hD w' hw⟩
end Go.Proofs.YtpbjfjedgcabhaaDoor.ZR
