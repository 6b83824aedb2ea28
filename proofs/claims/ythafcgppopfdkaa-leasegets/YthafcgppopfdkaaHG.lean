/-
  Leases, and books, that are held against themselves; a list of leases that comes in by value.
-/
import Derived.Test.YthafcgppopfdkaaHF
namespace Go.Proofs.Ythafcgppopfdkaa
open Go.ChangeShapes Go.WideShapes Go.ChangeAt Go.RowKit
set_option maxRecDepth 100000
set_option linter.unusedVariables false

theorem eqFields_stillL {P : Program} (d : Nat) (xs : Array Value) : ∀ (fs : List Field) (w : World), (∀ f ∈ fs, ∃ v, ∀ w, (part f.type xs f.offset).run P w = .ok v w ∧ (Op.equalIn d f.type v v).run P w = .ok true w) → (Op.eqFields d xs xs fs).run P w = .ok true w
  | [], w, _ => by simp [Op.eqFields]
  | f :: fs, w, h => by
    obtain ⟨v, hv⟩ := h f (by simp)
    have ih := eqFields_stillL d xs fs w (fun g hg => h g (by simp [hg]))
    simp only [Op.eqFields]
    split
    · simp only [Sem.run_bind, (hv w).1, (hv w).2, Result.andThen_ok]
      simpa using ih
    · exact ih
theorem fieldsL : (Try.prog.fieldsOf 42).toList.map (fun f => (f.type, f.offset)) = [(4, 0), (3, 1), (3, 2), (3, 3), (4, 4), (3, 5)] := by kernel_rfl
theorem eq_lease (d : Nat) (v : LsV) (w : World) : (Op.equalIn (d + 2) 42 (.agg v.cells) (.agg v.cells)).run Try.prog w = .ok true w := by
  rw [run_equalIn_struct w (d + 1) 42 _ _ (by kernel_rfl) (by kernel_rfl)]
  apply eqFields_stillL
  intro f hf
  have hm : (f.type, f.offset) ∈ (Try.prog.fieldsOf 42).toList.map (fun f => (f.type, f.offset)) := List.mem_map.2 ⟨f, hf, rfl⟩
  rw [fieldsL] at hm
  generalize f.type = t at *
  generalize f.offset = o at *
  simp only [List.mem_cons, Prod.mk.injEq, List.not_mem_nil, or_false] at hm
  have u1 := Try.underlying3
  have u2 := Try.underlying4
  rcases hm with ⟨rfl, rfl⟩ | ⟨rfl, rfl⟩ | ⟨rfl, rfl⟩ | ⟨rfl, rfl⟩ | ⟨rfl, rfl⟩ | ⟨rfl, rfl⟩
  · exact ⟨.bool v.on, fun w => ⟨part_oneA v.cells _ 0 _ rfl (by rw [u2]) w, by rw [run_equalIn_bool' w _ _ _ _ u2]; simp⟩⟩
  · exact ⟨.int .i64 v.fr, fun w => ⟨part_oneA v.cells _ 1 _ rfl (by rw [u1]) w, by rw [run_equalIn_int w _ _ _ _ _ _ u1]; simp⟩⟩
  · exact ⟨.int .i64 v.pg, fun w => ⟨part_oneA v.cells _ 2 _ rfl (by rw [u1]) w, by rw [run_equalIn_int w _ _ _ _ _ _ u1]; simp⟩⟩
  · exact ⟨.int .i64 v.to, fun w => ⟨part_oneA v.cells _ 3 _ rfl (by rw [u1]) w, by rw [run_equalIn_int w _ _ _ _ _ _ u1]; simp⟩⟩
  · exact ⟨.bool v.wr, fun w => ⟨part_oneA v.cells _ 4 _ rfl (by rw [u2]) w, by rw [run_equalIn_bool' w _ _ _ _ u2]; simp⟩⟩
  · exact ⟨.int .i64 v.at_, fun w => ⟨part_oneA v.cells _ 5 _ rfl (by rw [u1]) w, by rw [run_equalIn_int w _ _ _ _ _ _ u1]; simp⟩⟩
theorem BKA_extract (b : Nat → LsV) (i : Nat) (hi : i < 16) : (BKA b).extract (i * 6) (i * 6 + 6) = (b i).cells := by
  apply Array.ext_getElem?
  intro j
  rw [Array.getElem?_extract]
  by_cases hj : j < 6
  · rw [if_pos (by rw [BKA_size]; omega), BKA_at b i j hi hj]
    have h6 : j = 0 ∨ j = 1 ∨ j = 2 ∨ j = 3 ∨ j = 4 ∨ j = 5 := by omega
    rcases h6 with rfl | rfl | rfl | rfl | rfl | rfl <;> rfl
  · rw [if_neg (by rw [BKA_size]; omega), Array.getElem?_eq_none (by show 6 ≤ j; omega)]
theorem part_lease (b : Nat → LsV) (i : Nat) (hi : i < 16) (w : World) : (part 42 (BKA b) (i * 6)).run Try.prog w = .ok (.agg (b i).cells) w := by
  unfold part
  rw [Sem.run_bind, run_aggA 42 true (by rw [Try.underlying42]) w]
  simp [run_sizeA _ 6 sizeL, BKA_extract b i hi]
theorem eqB (b : Nat → LsV) (w : World) : (Op.equalIn 10000 44 (.agg (BKA b)) (.agg (BKA b))).run Try.prog w = .ok true w :=
  eq_arr_self 9999 _ _ 16 6 Try.underlying44 sizeL _ (fun i hi => ⟨.agg (b i).cells, fun w => ⟨part_lease b i hi w, eq_lease 9997 (b i) w⟩⟩) w
section
variable {ops : Array Oper} {rest : List Oper} {o : Oper} {a : Act} {w : World} {Q : Exit → Act → World → Prop}
theorem wpList_eqL (hw : Region.wanted o (yielded ops a.tmps) = true) (x y : Operand) (ho : o.op = .binOp .eql 42 x y 42) (v : LsV) (hx : a.eval x = .agg v.cells) (hy : a.eval y = .agg v.cells)
    (h : wpList Try.prog ops Q rest (a.put o.dst (.bool true)) w) : wpList Try.prog ops Q (o :: rest) a w := wpList_eqA hw _ x y ho _ hx hy (by kernel_rfl) (eq_lease 9998 v) h
theorem wpList_eqB (hw : Region.wanted o (yielded ops a.tmps) = true) (x y : Operand) (ho : o.op = .binOp .eql 44 x y 44) (b : Nat → LsV) (hx : a.eval x = .agg (BKA b)) (hy : a.eval y = .agg (BKA b))
    (h : wpList Try.prog ops Q rest (a.put o.dst (.bool true)) w) : wpList Try.prog ops Q (o :: rest) a w := wpList_eqA hw _ x y ho _ hx hy (by kernel_rfl) (eqB b) h
theorem wpList_neB (hw : Region.wanted o (yielded ops a.tmps) = true) (x y : Operand) (ho : o.op = .binOp .neq 44 x y 44) (b : Nat → LsV) (hx : a.eval x = .agg (BKA b)) (hy : a.eval y = .agg (BKA b))
    (h : wpList Try.prog ops Q rest (a.put o.dst (.bool false)) w) : wpList Try.prog ops Q (o :: rest) a w := wpList_neA hw _ x y ho _ hx hy (by kernel_rfl) (eqB b) h
end

/-! ### a list of leases that comes in -/
theorem drop_take6 {α : Type} (l : List α) (i j : Nat) (hj : j < 6) (h : i * 6 + j < l.length) : (((l.drop (i * 6)).take 6).drop j).take 1 = [l[i * 6 + j]] := by
  rw [List.drop_take, List.drop_drop, List.take_take, show min 1 (6 - j) = 1 by omega, List.drop_eq_getElem_cons h]
  rfl
def boolIn (v : Value) : Bool := match v with | .bool z => z | _ => false
def lsIn (cs : Array Value) (i : Nat) : LsV :=
  ⟨boolIn (cs.getD (i * 6) (.bool false)), intIn (cs.getD (i * 6 + 1) (.bool false)), intIn (cs.getD (i * 6 + 2) (.bool false)), intIn (cs.getD (i * 6 + 3) (.bool false)), boolIn (cs.getD (i * 6 + 4) (.bool false)), intIn (cs.getD (i * 6 + 5) (.bool false))⟩
theorem openA_lease {H : Type} {enc : TypeId × Value → H} {w : World} {base : Nat} {spare : Nat → Bool} {held : Bool} {r : Reach} {b0 : Nat} {v : Value} {d : DataW H} {p : List MemPlace}
    (hv : Value.okWide Try.prog w r b0 43 v) (h : DataW.Trod enc Try.prog w base spare held 43 v d p) : ∃ b : Nat → LsV, v = .agg (BKA b) := by
  obtain ⟨cs, rfl, hsz⟩ := okWide_arr Try.underlying43 hv
  obtain ⟨fuel, hf⟩ := h
  obtain ⟨xs, m, _, _, _, hl, hall⟩ := DataW.trod_array Try.underlying43 hf
  have h96 : cs.size = 96 := hsz.trans (by kernel_rfl)
  have key : ∀ i (hi : i < 16), ∃ x : LsV, ∀ j, j < 6 → cs[i * 6 + j]? = some (x.cell j) := by
    intro i hi
    obtain ⟨y, hy⟩ : ∃ y, xs[i]? = some y := ⟨_, List.getElem?_eq_getElem (by rw [hl]; exact hi)⟩
    have s := (hall i hi).trans hy
    rw [show Try.prog.cellsOf 42 = 6 from by kernel_rfl] at s
    obtain ⟨zs, m', _, _, _, hxl, hfs⟩ := DataW.trod_struct Try.underlying42 s
    have hc : ∀ j (hj : j < 6), ((((Value.agg cs).cells.toList.drop (i * 6)).take 6).drop j).take 1 = [cs[i * 6 + j]'(by omega)] := fun j hj => by
      have h := drop_take6 cs.toList i j hj (by simp; omega)
      rw [Array.getElem_toList] at h
      exact h
    have fld : ∀ j (t : TypeId) (hj : j < 6), (∃ f, (#[⟨ "On", 4, 0, false, "", "", 0⟩, ⟨ "From", 3, 1, false, "", "", 8⟩, ⟨ "Page", 3, 2, false, "", "", 16⟩, ⟨ "To", 3, 3, false, "", "", 24⟩, ⟨ "Write", 4, 4, false, "", "", 32⟩, ⟨ "At", 3, 5, false, "", "", 40⟩] : Array Field)[j]? = some f ∧ f.type = t ∧ f.offset = j) → Try.prog.cellsOf t = 1 →
        ∃ y', DataW.trod enc Try.prog w base spare held m' t [cs[i * 6 + j]'(by omega)] = some y' := by
      rintro j t hj ⟨f, hf1, rfl, hf2⟩ hc1
      obtain ⟨y', hy'⟩ : ∃ y', zs[j]? = some y' := ⟨_, List.getElem?_eq_getElem (by rw [hxl]; simpa using hj)⟩
      have t1 := (hfs j f hf1).trans hy'
      rw [hf2, hc1, hc j hj] at t1
      exact ⟨y', t1⟩
    obtain ⟨y0, t0⟩ := fld 0 4 (by omega) ⟨_, rfl, rfl, rfl⟩ (by kernel_rfl)
    obtain ⟨y1, t1⟩ := fld 1 3 (by omega) ⟨_, rfl, rfl, rfl⟩ (by kernel_rfl)
    obtain ⟨y2, t2⟩ := fld 2 3 (by omega) ⟨_, rfl, rfl, rfl⟩ (by kernel_rfl)
    obtain ⟨y3, t3⟩ := fld 3 3 (by omega) ⟨_, rfl, rfl, rfl⟩ (by kernel_rfl)
    obtain ⟨y4, t4⟩ := fld 4 4 (by omega) ⟨_, rfl, rfl, rfl⟩ (by kernel_rfl)
    obtain ⟨y5, t5⟩ := fld 5 3 (by omega) ⟨_, rfl, rfl, rfl⟩ (by kernel_rfl)
    obtain ⟨z0, k0, _⟩ := DataW.trod_bool Try.underlying4 t0
    obtain ⟨z1, k1, _, _⟩ := DataW.trod_int Try.underlying3 t1
    obtain ⟨z2, k2, _, _⟩ := DataW.trod_int Try.underlying3 t2
    obtain ⟨z3, k3, _, _⟩ := DataW.trod_int Try.underlying3 t3
    obtain ⟨z4, k4, _⟩ := DataW.trod_bool Try.underlying4 t4
    obtain ⟨z5, k5, _, _⟩ := DataW.trod_int Try.underlying3 t5
    rw [List.cons.injEq] at k0 k1 k2 k3 k4 k5
    refine ⟨⟨z0, z1, z2, z3, z4, z5⟩, fun j hj => ?_⟩
    have h6 : j = 0 ∨ j = 1 ∨ j = 2 ∨ j = 3 ∨ j = 4 ∨ j = 5 := by omega
    rcases h6 with rfl | rfl | rfl | rfl | rfl | rfl
    · rw [Array.getElem?_eq_getElem (by omega), k0.1]; rfl
    · rw [Array.getElem?_eq_getElem (by omega), k1.1]; rfl
    · rw [Array.getElem?_eq_getElem (by omega), k2.1]; rfl
    · rw [Array.getElem?_eq_getElem (by omega), k3.1]; rfl
    · rw [Array.getElem?_eq_getElem (by omega), k4.1]; rfl
    · rw [Array.getElem?_eq_getElem (by omega), k5.1]; rfl
  refine ⟨lsIn cs, ?_⟩
  congr 1
  apply Array.ext_getElem?
  intro i
  by_cases hi : i < 96
  · obtain ⟨x, hx⟩ := key (i / 6) (by omega)
    have e : lsIn cs (i / 6) = x := by
      have g0 := hx 0 (by omega)
      have g1 := hx 1 (by omega)
      have g2 := hx 2 (by omega)
      have g3 := hx 3 (by omega)
      have g4 := hx 4 (by omega)
      have g5 := hx 5 (by omega)
      rw [Nat.add_zero] at g0
      unfold lsIn
      simp only [Array.getD_eq_getD_getElem?, g0, g1, g2, g3, g4, g5]
      rfl
    have hb := BKA_at (lsIn cs) (i / 6) (i % 6) (by omega) (by omega)
    have hc := hx (i % 6) (by omega)
    rw [show i / 6 * 6 + i % 6 = i by omega] at hb hc
    rw [hb, hc, e]
  · rw [Array.getElem?_eq_none (by omega), Array.getElem?_eq_none (by rw [BKA_size]; omega)]
end Go.Proofs.Ythafcgppopfdkaa
