/-
  When two seats are the same: comparisons of whole seats, and of their registers.
-/
import Derived.Test.YtjhiapailgbmkaaYG
namespace Go.Proofs.Ytjhiapailgbmkaa
open Go.ChangeShapes Go.WideShapes Go.ChangeAt Go.RowKit
set_option maxRecDepth 100000
set_option linter.unusedVariables false

theorem forIn_or {P : Program} {β : Type} (b c : β) (t : Nat → Bool) (body : Nat → β → Sem (ForInStep β)) : ∀ (l : List Nat) (w : World), (∀ i ∈ l, ∀ w, (body i b).run P w = .ok (if t i then .yield b else .done c) w) → (forIn l b body).run P w = .ok (if l.all t then b else c) w
  | [], w, _ => by simp
  | i :: l, w, h => by
    have h1 := h i (by simp) w
    by_cases ht : t i = true
    · rw [if_pos ht] at h1
      simp only [List.forIn_cons, Sem.run_bind, h1, Result.andThen_ok, List.all_cons, ht, Bool.true_and]
      exact forIn_or b c t body l w (fun j hj => h j (by simp [hj]))
    · rw [if_neg ht] at h1
      simp only [List.forIn_cons, Sem.run_bind, h1, Result.andThen_ok, List.all_cons, ht, Bool.false_and]
      simp
theorem regs_is (s : SV) (i : Nat) (hi : i < 16) : (regs s)[i]? = some (.int .u64 (s.r i : Nat)) := by
  have h : i = 0 ∨ i = 1 ∨ i = 2 ∨ i = 3 ∨ i = 4 ∨ i = 5 ∨ i = 6 ∨ i = 7 ∨ i = 8 ∨ i = 9 ∨ i = 10 ∨ i = 11 ∨ i = 12 ∨ i = 13 ∨ i = 14 ∨ i = 15 := by omega
  rcases h with rfl | rfl | rfl | rfl | rfl | rfl | rfl | rfl | rfl | rfl | rfl | rfl | rfl | rfl | rfl | rfl <;> rfl
def sameR (s t : SV) : Bool := (List.range 16).all fun i => s.r i == t.r i
theorem eq_regs2 (d : Nat) (s t : SV) (w : World) : (Op.equalIn (d + 2) 23 (.agg (regs s)) (.agg (regs t))).run Try.prog w = .ok (sameR s t) w := by
  have u0 := Try.underlying23
  have u1 := Try.underlying22
  have hx := regs_is s
  have hy := regs_is t
  unfold sameR
  generalize regs s = xs at *
  generalize regs t = ys at *
  simp only [Op.equalIn, Sem.run_bind, run_underlying u0, run_size64, Result.andThen_ok, Std.Legacy.Range.forIn_eq_forIn_range']
  rw [forIn_or (β := Option Bool × Unit) (b := (none, ())) (c := (some false, ())) (t := fun i => s.r i == t.r i)]
  · have e : (List.range' 0 [:16].size) = List.range 16 := by decide
    rw [e]
    cases (List.range 16).all fun i => s.r i == t.r i <;> simp
  · intro i hi w
    have hi16 : i < 16 := by simp [List.mem_range'] at hi; omega
    have h1 := hx i hi16
    have h2 := hy i hi16
    by_cases he : s.r i = t.r i
    · simp [run_underlying u1, part, h1, h2, he]
    · have he' : ¬ ((s.r i : Int) = (t.r i : Int)) := by omega
      simp [run_underlying u1, part, h1, h2, he, he']
/-- Does the field at this place agree? -/
def sameO (s t : SV) (o : Nat) : Bool := match o with
  | 0 => sameR s t
  | 16 => s.pc == t.pc
  | 17 => s.ba == t.ba
  | 18 => s.ve == t.ve
  | 19 => s.ep == t.ep
  | 20 => s.ca == t.ca
  | 21 => s.ad == t.ad
  | 22 => s.op == t.op
  | 23 => s.st == t.st
  | 24 => s.pd == t.pd
  | _ => s.ma == t.ma
def sameB (s t : SV) : Bool := [0, 16, 17, 18, 19, 20, 21, 22, 23, 24, 25].all (sameO s t)
theorem eqFields_all {P : Program} (d : Nat) (xs ys : Array Value) (r : Nat → Bool) : ∀ (fs : List Field) (w : World), (∀ f ∈ fs, f.name ≠ "_" ∧ ∃ u v, ∀ w, (part f.type xs f.offset).run P w = .ok u w ∧ (part f.type ys f.offset).run P w = .ok v w ∧ (Op.equalIn d f.type u v).run P w = .ok (r f.offset) w) →
    (Op.eqFields d xs ys fs).run P w = .ok ((fs.map (·.offset)).all r) w
  | [], w, _ => by simp [Op.eqFields]
  | f :: fs, w, h => by
    obtain ⟨hn, u, v, hv⟩ := h f (by simp)
    have ih := eqFields_all d xs ys r fs w (fun g hg => h g (by simp [hg]))
    simp only [Op.eqFields, List.map_cons, List.all_cons]
    rw [if_pos hn]
    simp only [Sem.run_bind, (hv w).1, (hv w).2.1, (hv w).2.2, Result.andThen_ok]
    by_cases hr : r f.offset = true
    · simpa [hr] using ih
    · simp [hr]
theorem namesS : (Try.prog.fieldsOf 26).toList.all (fun f => f.name != "_") = true := by kernel_rfl
theorem offsS : (Try.prog.fieldsOf 26).toList.map (fun f => f.offset) = [0, 16, 17, 18, 19, 20, 21, 22, 23, 24, 25] := by kernel_rfl
theorem beq_cast (a b : Nat) : (((a : Nat) : Int) == (b : Int)) = (a == b) := by
  by_cases h : a = b
  · simp [h]
  · rw [beq_eq_false_iff_ne.2 h, beq_eq_false_iff_ne]; omega
theorem eq_seat2 (d : Nat) (s t : SV) (w : World) : (Op.equalIn (d + 3) 26 s.agg t.agg).run Try.prog w = .ok (sameB s t) w := by
  unfold SV.agg
  rw [run_equalIn_struct w (d + 2) 26 _ _ (by kernel_rfl) (by kernel_rfl), eqFields_all (d + 2) s.cells t.cells (sameO s t)]
  · rw [offsS]; rfl
  intro f hf
  refine ⟨by have := List.all_eq_true.1 namesS f hf; simpa using this, ?_⟩
  have hm : (f.type, f.offset) ∈ (Try.prog.fieldsOf 26).toList.map (fun f => (f.type, f.offset)) := List.mem_map.2 ⟨f, hf, rfl⟩
  rw [fieldsS] at hm
  generalize f.type = y at *
  generalize f.offset = o at *
  simp only [List.mem_cons, Prod.mk.injEq, List.not_mem_nil, or_false] at hm
  have u1 := Try.underlying22
  have u2 := Try.underlying4
  have u3 := Try.underlying5
  have u4 := Try.underlying24
  rcases hm with ⟨rfl, rfl⟩ | ⟨rfl, rfl⟩ | ⟨rfl, rfl⟩ | ⟨rfl, rfl⟩ | ⟨rfl, rfl⟩ | ⟨rfl, rfl⟩ | ⟨rfl, rfl⟩ | ⟨rfl, rfl⟩ | ⟨rfl, rfl⟩ | ⟨rfl, rfl⟩ | ⟨rfl, rfl⟩
  · refine ⟨.agg (regs s), .agg (regs t), fun w => ⟨?_, ?_, eq_regs2 d s t w⟩⟩
    · unfold part
      rw [Sem.run_bind, run_aggs 23 true (by rw [Try.underlying23]) w]
      simp
      rfl
    · unfold part
      rw [Sem.run_bind, run_aggs 23 true (by rw [Try.underlying23]) w]
      simp
      rfl
  · exact ⟨.int .u64 s.pc, .int .u64 t.pc, fun w => ⟨part_one s.cells _ 16 _ rfl (by rw [u1]) w, part_one t.cells _ 16 _ rfl (by rw [u1]) w, by rw [run_equalIn_int w _ _ _ _ _ _ u1, beq_cast]; rfl⟩⟩
  · exact ⟨.int .u64 s.ba, .int .u64 t.ba, fun w => ⟨part_one s.cells _ 17 _ rfl (by rw [u1]) w, part_one t.cells _ 17 _ rfl (by rw [u1]) w, by rw [run_equalIn_int w _ _ _ _ _ _ u1, beq_cast]; rfl⟩⟩
  · exact ⟨.int .u64 s.ve, .int .u64 t.ve, fun w => ⟨part_one s.cells _ 18 _ rfl (by rw [u1]) w, part_one t.cells _ 18 _ rfl (by rw [u1]) w, by rw [run_equalIn_int w _ _ _ _ _ _ u1, beq_cast]; rfl⟩⟩
  · exact ⟨.int .u64 s.ep, .int .u64 t.ep, fun w => ⟨part_one s.cells _ 19 _ rfl (by rw [u1]) w, part_one t.cells _ 19 _ rfl (by rw [u1]) w, by rw [run_equalIn_int w _ _ _ _ _ _ u1, beq_cast]; rfl⟩⟩
  · exact ⟨.int .u64 s.ca, .int .u64 t.ca, fun w => ⟨part_one s.cells _ 20 _ rfl (by rw [u1]) w, part_one t.cells _ 20 _ rfl (by rw [u1]) w, by rw [run_equalIn_int w _ _ _ _ _ _ u1, beq_cast]; rfl⟩⟩
  · exact ⟨.int .u64 s.ad, .int .u64 t.ad, fun w => ⟨part_one s.cells _ 21 _ rfl (by rw [u1]) w, part_one t.cells _ 21 _ rfl (by rw [u1]) w, by rw [run_equalIn_int w _ _ _ _ _ _ u1, beq_cast]; rfl⟩⟩
  · exact ⟨.bool s.op, .bool t.op, fun w => ⟨part_one s.cells _ 22 _ rfl (by rw [u2]) w, part_one t.cells _ 22 _ rfl (by rw [u2]) w, by rw [run_equalIn_bool' w _ _ _ _ u2]; rfl⟩⟩
  · exact ⟨.int .u8 s.st, .int .u8 t.st, fun w => ⟨part_one s.cells _ 23 _ rfl (by rw [u3]) w, part_one t.cells _ 23 _ rfl (by rw [u3]) w, by rw [run_equalIn_int w _ _ _ _ _ _ u3, beq_cast]; rfl⟩⟩
  · exact ⟨.int .u32 s.pd, .int .u32 t.pd, fun w => ⟨part_one s.cells _ 24 _ rfl (by rw [u4]) w, part_one t.cells _ 24 _ rfl (by rw [u4]) w, by rw [run_equalIn_int w _ _ _ _ _ _ u4, beq_cast]; rfl⟩⟩
  · exact ⟨.int .u32 s.ma, .int .u32 t.ma, fun w => ⟨part_one s.cells _ 25 _ rfl (by rw [u4]) w, part_one t.cells _ 25 _ rfl (by rw [u4]) w, by rw [run_equalIn_int w _ _ _ _ _ _ u4, beq_cast]; rfl⟩⟩
theorem run_eqS2 (s t : SV) (w : World) : (binOp .eql 26 s.agg t.agg).run Try.prog w = .ok (.bool (sameB s t)) w := by
  unfold SV.agg
  rw [run_eql_struct w 26]
  have h := eq_seat2 9997 s t w
  unfold SV.agg at h
  rw [h]; rfl
theorem wpList_eqS2 {ops : Array Oper} {rest : List Oper} {o : Oper} {a : Act} {w : World} {Q : Exit → Act → World → Prop} (hw : Region.wanted o (yielded ops a.tmps) = true) (x y : Operand) (ho : o.op = .binOp .eql 26 x y 26)
    (s t : SV) (hx : a.eval x = s.agg) (hy : a.eval y = t.agg) (h : wpList Try.prog ops Q rest (a.put o.dst (.bool (sameB s t))) w) : wpList Try.prog ops Q (o :: rest) a w :=
  wpList_step fun _ hK => by
    rw [if_pos hw]
    unfold Oper.wp
    simp [execOp, ho, hx, hy, run_eqS2, guardS]
    exact hK _ _ h
/-- The same words, the same seat. -/
theorem same_words (s t : SV) (hs : s.ok) (ht : t.ok) : sameB s t = (List.range 26).all fun i => wordF s i == wordF t i := by
  have ho : (oneN s.op == oneN t.op) = (s.op == t.op) := by cases s.op <;> cases t.op <;> rfl
  have e : (List.range 26) = [0, 1, 2, 3, 4, 5, 6, 7, 8, 9, 10, 11, 12, 13, 14, 15, 16, 17, 18, 19, 20, 21, 22, 23, 24, 25] := by decide
  have e2 : (List.range 16) = [0, 1, 2, 3, 4, 5, 6, 7, 8, 9, 10, 11, 12, 13, 14, 15] := by decide
  unfold sameB
  simp only [List.all_cons, List.all_nil, Bool.and_true, e, sameO, sameR, e2]
  show _ = ((s.r 0 == t.r 0) && ((s.r 1 == t.r 1) && ((s.r 2 == t.r 2) && ((s.r 3 == t.r 3) && ((s.r 4 == t.r 4) && ((s.r 5 == t.r 5) && ((s.r 6 == t.r 6) && ((s.r 7 == t.r 7) && ((s.r 8 == t.r 8) && ((s.r 9 == t.r 9) && ((s.r 10 == t.r 10) && ((s.r 11 == t.r 11) && ((s.r 12 == t.r 12) && ((s.r 13 == t.r 13) && ((s.r 14 == t.r 14) && ((s.r 15 == t.r 15) &&
    ((s.pc == t.pc) && ((s.ba == t.ba) && ((s.ve == t.ve) && ((s.ep == t.ep) && ((s.ca == t.ca) && ((s.ad == t.ad) && ((oneN s.op == oneN t.op) && ((s.st == t.st) && ((s.pd == t.pd) && (s.ma == t.ma))))))))))))))))))))))))))
  rw [ho]
  simp only [Bool.and_assoc]
end Go.Proofs.Ytjhiapailgbmkaa
