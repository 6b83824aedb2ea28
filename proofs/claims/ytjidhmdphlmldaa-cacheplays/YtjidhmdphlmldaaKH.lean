/-
  CachePlays, its plain part: a list of rows that is read, a cache beside it; what an act makes of the list.
-/
import Derived.Test.YtjidhmdphlmldaaKG
import Derived.ArgAppend
namespace Go.Proofs.Ytjidhmdphlmldaa
open Go.ChangeShapes Go.WideShapes Go.ChangeAt Go.RowKit
set_option maxRecDepth 100000

/-! ### what an act makes of the list -/
def keepB (K : Nat) (vm pg : Int) (r : R5) : Bool := if K ≤ 4 then !hitK vm pg r else if K = 5 then !decide (r.vm = vm) else false
def stepL (K : Nat) (vm pg fr : Int) (wt : Bool) (L : List R5) : List R5 := if K ≤ 3 then putL vm pg true fr wt L else L.filter (keepB K vm pg)
theorem filter_hit {K : Nat} (hK : K ≤ 4) (vm pg : Int) (L : List R5) : L.filter (fun r => !hitK vm pg r) = L.filter (keepB K vm pg) := by
  congr 1; funext r; unfold keepB; rw [if_pos hK]
theorem filter_vm (vm pg : Int) (L : List R5) : L.filter (fun r => !decide (r.vm = vm)) = L.filter (keepB 5 vm pg) := by
  congr 1
theorem filter_6 {K : Nat} (hK : K = 6) (vm pg : Int) (L : List R5) : L.filter (keepB K vm pg) = [] := by
  apply List.filter_eq_nil_iff.2
  intro r _
  unfold keepB; rw [if_neg (by omega), if_neg (by omega)]; simp
theorem step_put {K : Nat} (hK : K ≤ 3) (vm pg fr : Int) (wt : Bool) (L : List R5) :
    stepL K vm pg fr wt L = (if (L.filter (keepB K vm pg)).length = 8 then (L.filter (keepB K vm pg)).drop 1 else L.filter (keepB K vm pg)) ++ [⟨vm, pg, true, fr, wt⟩] := by
  unfold stepL putL; rw [if_pos hK, filter_hit (K := K) (by omega)]
def Uq (L : List R5) : Prop := L.Pairwise (fun r s => ¬ (r.vm = s.vm ∧ r.pg = s.pg))
theorem Uq.step {L : List R5} (h : Uq L) (K : Nat) (vm pg fr : Int) (wt : Bool) : Uq (stepL K vm pg fr wt L) := by
  have hf : Uq (L.filter (keepB K vm pg)) := List.Pairwise.filter _ h
  by_cases hK : K ≤ 3
  · rw [step_put hK]
    have hn : ∀ r ∈ L.filter (keepB K vm pg), ¬ (r.vm = vm ∧ r.pg = pg) := by
      intro r hr
      have := (List.mem_filter.1 hr).2
      unfold keepB at this
      rw [if_pos (by omega)] at this
      intro e
      unfold hitK at this
      rw [decide_eq_true e] at this
      cases this
    unfold Uq
    refine List.pairwise_append.2 ⟨?_, List.pairwise_singleton _ _, ?_⟩
    · split
      · exact List.Pairwise.sublist (List.drop_sublist _ _) hf
      · exact hf
    · intro a ha b hb
      rw [List.mem_singleton.1 hb]
      refine hn a ?_
      split at ha
      · exact List.mem_of_mem_drop ha
      · exact ha
  · unfold stepL; rw [if_neg hK]; exact hf
theorem find_hit {L : List R5} (h : Uq L) {j : Nat} {r : R5} (hr : L[j]? = some r) {vm pg : Int} (hd : hitK vm pg r = true) : (L.take (j + 1)).find? (hitK vm pg) = some r := by
  have e : L = L.take j ++ r :: L.drop (j + 1) := by rw [← drop_cons' L j r hr, List.take_append_drop]
  have hp : List.Pairwise (fun r s : R5 => ¬ (r.vm = s.vm ∧ r.pg = s.pg)) (L.take j ++ r :: L.drop (j + 1)) := by rw [← e]; exact h
  have h3 := (List.pairwise_append.1 hp).2.2
  have hk := of_decide_eq_true hd
  rw [take_succ' L j r hr, List.find?_append, List.find?_eq_none.2, List.find?_cons, hd]
  · rfl
  · intro q hq e'
    have hq' := of_decide_eq_true e'
    exact h3 q hq r (by simp) ⟨by rw [hq'.1, hk.1], by rw [hq'.2, hk.2]⟩
theorem find_miss {L : List R5} {j : Nat} {r : R5} (hr : L[j]? = some r) {vm pg : Int} (hd : hitK vm pg r = false) : (L.take (j + 1)).find? (hitK vm pg) = (L.take j).find? (hitK vm pg) := by
  rw [take_succ' L j r hr, List.find?_append, List.find?_cons, hd]
  simp

/-! ### a list of rows that is read -/
def RowsAt (w : World) (v : Value) (l : List R5) : Prop :=
  (v = .slice none 0 0 ∧ l = []) ∨ ∃ g off cap, v = .slice (some ⟨g, off, none⟩) l.length cap ∧ g < w.heap.size ∧ ∀ j u, (rowL l)[j]? = some u → w.cell? ⟨g, off + j, none⟩ = some u
theorem RowsAt.lt {w : World} {v : Value} {l : List R5} (h : RowsAt w v l) : ∀ g, v.ownBlock = some g → g < w.heap.size := by
  intro g' hg
  rcases h with ⟨rfl, _⟩ | ⟨g, off, cap, rfl, hlt, _⟩
  · simp [Value.ownBlock] at hg
  · simp [Value.ownBlock] at hg; omega
theorem RowsAt.form {w : World} {v : Value} {l : List R5} (h : RowsAt w v l) : ∃ p cap, v = .slice p l.length cap := by
  rcases h with ⟨rfl, rfl⟩ | ⟨g, off, cap, rfl, _⟩
  · exact ⟨_, _, rfl⟩
  · exact ⟨_, _, rfl⟩
theorem RowsAt.same {w w' : World} {v : Value} {l : List R5} (h : RowsAt w v l) (hb : ∀ g, v.ownBlock = some g → w'.heap[g]? = w.heap[g]?) (hs : w.heap.size ≤ w'.heap.size) : RowsAt w' v l := by
  rcases h with h | ⟨g, off, cap, rfl, hlt, hc⟩
  · exact .inl h
  · refine .inr ⟨g, off, cap, rfl, by omega, fun j u hj => ?_⟩
    exact (World.cell?_of_block (a := ⟨g, off + j, none⟩) (hb g rfl)).trans (hc j u hj)
theorem RowsAt.below {w w' : World} {v : Value} {l : List R5} (h : RowsAt w v l) (hb : Below w.heap.size w w') : RowsAt w' v l :=
  h.same (fun g hg => hb.block g (h.lt g hg)) hb.size
/-- The cells of one row. -/
theorem RowsAt.at {w : World} {p : Option Addr} {n cap : Nat} {l : List R5} (h : RowsAt w (.slice p n cap) l) {j : Nat} {r : R5} (hj : l[j]? = some r) :
    ∃ g off, p = some ⟨g, off, none⟩ ∧ g < w.heap.size ∧ w.cell? ⟨g, off + j * 5, none⟩ = some (.int .i64 r.vm) ∧ w.cell? ⟨g, off + j * 5 + 1, none⟩ = some (.int .i64 r.pg) ∧ w.cell? ⟨g, off + j * 5 + 2, none⟩ = some (.bool r.th) ∧ w.cell? ⟨g, off + j * 5 + 3, none⟩ = some (.int .i64 r.fr) ∧ w.cell? ⟨g, off + j * 5 + 4, none⟩ = some (.bool r.wr) := by
  rcases h with ⟨_, rfl⟩ | ⟨g, off, cap', e, hlt, hc⟩
  · simp at hj
  · simp only [Value.slice.injEq] at e
    refine ⟨g, off, e.1, hlt, ?_, ?_, ?_, ?_, ?_⟩
    · exact hc (j * 5) _ (by rw [show j * 5 = j * 5 + 0 by omega, rowL_at l j 0 r hj (by omega)]; rfl)
    · exact hc (j * 5 + 1) _ (by rw [rowL_at l j 1 r hj (by omega)]; rfl)
    · exact hc (j * 5 + 2) _ (by rw [rowL_at l j 2 r hj (by omega)]; rfl)
    · exact hc (j * 5 + 3) _ (by rw [rowL_at l j 3 r hj (by omega)]; rfl)
    · exact hc (j * 5 + 4) _ (by rw [rowL_at l j 4 r hj (by omega)]; rfl)
theorem RowsAt.of_owns {w : World} {base : Nat} {e : TypeId} {v : Value} {n : Nat} {l : List R5} (h : w.ownsRow base e 5 v n (rowL l)) : RowsAt w v l := by
  have hn : l.length = n := by have := h.1; rw [rowL_len] at this; omega
  rcases h.2 with ⟨rfl, rfl⟩ | ⟨g, cap, cur, rfl, hb, hg, hnc, hcm, hcs, ht⟩
  · exact .inl ⟨rfl, List.length_eq_zero_iff.1 hn⟩
  · refine .inr ⟨g, 0, cap, by rw [hn], (Array.getElem?_eq_some_iff.1 hg).1, fun j u hj => ?_⟩
    rw [Nat.zero_add, h.cellAt j (by have := (List.getElem?_eq_some_iff.1 hj).1; rw [rowL_len] at this; omega)]
    exact hj

/-! ### what stands in CachePlays' loop -/
structure PI (w wr : World) (C : Nat) (lv : Value) (L : List R5) : Prop where
  ca : ∃ v, Ca wr w.heap.size C v L ∧ ∀ g, lv.ownBlock = some g → v.ownBlock ≠ some g
  be : Below w.heap.size w wr
  rows : RowsAt wr lv L
  nc : ∀ g, lv.ownBlock = some g → g ≠ C
  uq : Uq L
theorem PI.below {w wr U : World} {C : Nat} {lv : Value} {L : List R5} (h : PI w wr C lv L) (hb : Below wr.heap.size wr U) : PI w U C lv L := by
  obtain ⟨⟨v, h1, h2⟩, h3, h4, h5, h6⟩ := h
  exact ⟨⟨v, h1.below hb, h2⟩, below_up h3 hb, h4.below hb, h5, h6⟩
theorem PI.cw {w wr : World} {C : Nat} {lv : Value} {L : List R5} (h : PI w wr C lv L) : Cw w wr C L := by
  obtain ⟨⟨v, h1, h2⟩, h3, h4, h5, h6⟩ := h
  exact ⟨⟨v, h1⟩, h3⟩

/-! ### the list that is built anew -/
theorem und_lrows : Try.prog.underlying 28 = some (.slice 34) := by kernel_rfl
theorem info_lrow : ∃ i, Try.prog.info? 34 = some i ∧ i.zero = some (.agg zero5) ∧ i.size = 5 ∧ i.bytes = 40 :=
  info_of (by kernel_rfl)
/-- A list of the call's own, made after U. -/
structure NX (U wr : World) (nv : Value) (m : List R5) : Prop where
  be : Below U.heap.size U wr
  own : wr.ownsRow U.heap.size 34 5 nv m.length (rowL m)
theorem below_own {U wr W : World} {nv : Value} (hb : Below U.heap.size U wr) (hg : wr.grownBy W nv.ownBlock) (hn : ∀ g, nv.ownBlock = some g → U.heap.size ≤ g) : Below U.heap.size U W := by
  refine ⟨hg.os.trans hb.os, hg.tape.trans hb.tape, hg.output.trans hb.output, Nat.le_trans hb.size hg.size, fun k hk => ?_⟩
  exact (hg.block k (Nat.lt_of_lt_of_le hk hb.size) (fun e => by have := hn k e.symm; omega)).trans (hb.block k hk)
theorem wpList_lrow {w : World} {base : Nat} {ops : Array Oper} {rest : List Oper} {o : Oper} {a : Act} {Q : Exit → Act → World → Prop} (hgd : o.guard = none) (s x : Operand)
    (ho : o.op = .call { callee := .builtin .append, args := #[s, x], argTypes := #[28, 28] }) {nv : Value} {m : List R5} (own : w.ownsRow base 34 5 nv m.length (rowL m)) (hm : m.length ≤ 8) (hbase : base ≤ w.heap.size) (hs : a.eval s = nv)
    (A : Addr) (c : Nat) (hx : a.eval x = .slice (some A) 1 c) (r : R5) (hnews : ∀ j u, r.cells[j]? = some u → w.cell? (A.add j) = some u)
    (h : ∀ p cap w', w'.ownsRow base 34 5 (.slice p (m.length + 1) cap) (m ++ [r]).length (rowL (m ++ [r])) → w.grownBy w' nv.ownBlock → (∀ g, Value.ownBlock (.slice p (m.length + 1) cap) = some g → nv.ownBlock = some g ∨ w.heap.size ≤ g) → wpList Try.prog ops Q rest (a.put o.dst (.slice p (m.length + 1) cap)) w') :
    wpList Try.prog ops Q (o :: rest) a w := by
  obtain ⟨i, hi, hz, hsz, hby⟩ := info_lrow
  refine wpList_app hgd s x 28 34 ho i (.agg zero5) 5 40 und_lrows hi hz hsz hby rfl (by omega) base nv m.length (rowL m) hs own A 1 c r.cells hx rfl hnews (fun u hu => rowL_one [r] u (by simpa [rowL] using hu)) (by unfold maxLen; omega) (by omega) hbase ?_
  intro v' w' h1 h2 _ h4
  obtain ⟨p, cap, rfl⟩ := owns_slice h1
  refine h p cap w' ?_ h2 (fun g hg => ?_)
  · have e1 : rowL (m ++ [r]) = rowL m ++ r.cells := by rw [rowL_app]; simp [rowL]
    rw [e1, List.length_append]
    exact h1
  · rcases h4 with e | e
    · exact .inl (by rw [← e]; exact hg)
    · right; rw [e] at hg; injection hg with hg; omega
theorem NX.app {U wr w w' : World} {nv nv' : Value} {m m' : List R5} (H : NX U wr nv m) (hb : Below wr.heap.size wr w) (own : w'.ownsRow U.heap.size 34 5 nv' m'.length (rowL m')) (hg : w.grownBy w' nv.ownBlock) : NX U w' nv' m' :=
  ⟨below_own (below_up H.be hb) hg (fun g hg => (H.own.lt g hg).1), own⟩
theorem NX.below {U wr w : World} {nv : Value} {m : List R5} (H : NX U wr nv m) (hb : Below wr.heap.size wr w) : NX U w nv m := ⟨below_up H.be hb, owns_below H.own hb⟩
theorem lrow_news {w : World} {r : R5} : ∀ j u, r.cells[j]? = some u → (w.alloc (.cells #[.int .i64 r.vm, .int .i64 r.pg, .bool r.th, .int .i64 r.fr, .bool r.wr] 34)).cell? ((⟨w.heap.size, 0, none⟩ : Addr).add j) = some u := by
  intro j u hj
  rw [add_at]
  have hlt := (List.getElem?_eq_some_iff.1 hj).1
  have : j = 0 ∨ j = 1 ∨ j = 2 ∨ j = 3 ∨ j = 4 := by simp [R5.cells] at hlt; omega
  rcases this with rfl | rfl | rfl | rfl | rfl <;> simp [R5.cells] at hj <;> subst hj <;> simp
theorem grown_setCells (b : Nat) : ∀ (vs : List Value) (o : Nat) (w : World), w.grownBy (w.setCells b o vs) (some b)
  | [], o, w => ⟨rfl, rfl, rfl, Nat.le_refl _, fun _ _ _ => rfl⟩
  | v :: r, o, w => by
    rw [World.setCells]
    exact grown_trans (grown_setCell w ⟨b, o, none⟩ v) (grown_setCells b r (o + 1) _)
/-- 'next = append(next[1:], row)', of eight. -/
theorem wpList_tail {w : World} {base g cap : Nat} {ops : Array Oper} {rest : List Oper} {o : Oper} {a : Act} {Q : Exit → Act → World → Prop} (hgd : o.guard = none) (s x : Operand)
    (ho : o.op = .call { callee := .builtin .append, args := #[s, x], argTypes := #[28, 28] }) {m : List R5} (own : w.ownsRow base 34 5 (.slice (some ⟨g, 0, none⟩) 8 cap) 8 (rowL m))
    (hs : a.eval s = .slice (some ⟨g, 5, none⟩) 7 (cap - 1))
    (A : Addr) (c : Nat) (hx : a.eval x = .slice (some A) 1 c) (r : R5) (hnews : ∀ j u, r.cells[j]? = some u → w.cell? (A.add j) = some u)
    (h : ∀ p cap' w', RowsAt w' (.slice p 8 cap') (m.drop 1 ++ [r]) → w.grownBy w' (some g) → (∀ b, Value.ownBlock (.slice p 8 cap') = some b → b = g ∨ w.heap.size ≤ b) → wpList Try.prog ops Q rest (a.put o.dst (.slice p 8 cap')) w') :
    wpList Try.prog ops Q (o :: rest) a w := by
  obtain ⟨i, hi, hz, hsz, hby⟩ := info_lrow
  have hm : m.length = 8 := by have := own.1; rw [rowL_len] at this; omega
  have e1 : rowL (m.drop 1 ++ [r]) = rowL (m.drop 1) ++ r.cells := by rw [rowL_app]; simp [rowL]
  have hl1 : (rowL (m.drop 1)).length = 7 * 5 := by rw [rowL_len, List.length_drop, hm]
  have holds : ∀ j u, (rowL (m.drop 1))[j]? = some u → w.cell? ⟨g, 5 + j, none⟩ = some u := by
    intro j u hj
    have hlt := (List.getElem?_eq_some_iff.1 hj).1
    rw [hl1] at hlt
    rw [own.cellAt (5 + j) (by omega)]
    rw [← rowL_drop m 1 (by omega), List.getElem?_drop] at hj
    exact hj
  have h1c : ∀ u ∈ r.cells, u.oneCell' = true := fun u hu => rowL_one [r] u (by simpa [rowL] using hu)
  have hd8 : (m.drop 1 ++ [r]).length = 8 := by simp [hm]
  have hgl : g < w.heap.size := (own.lt g rfl).2
  refine wpList_append_arg w hgd s x 28 ho 34 i (.agg zero5) 5 40 und_lrows hi hz hsz hby rfl (by omega) g 5 7 (cap - 1) (rowL (m.drop 1)) hs hl1 holds A 1 c r.cells hx rfl hnews h1c ?_ (by unfold maxLen; omega) (by omega) ?_ ?_
  · intro hr j hj
    have hj5 : j < 5 := hj
    rcases own.2 with ⟨h', _⟩ | ⟨g', cap', cur, h', hb, hg, hnc, hcm, hcs, ht⟩
    · simp at h'
    · simp only [Value.slice.injEq, Option.some.injEq, Addr.mk.injEq, and_true, true_and] at h'
      obtain ⟨rfl, rfl⟩ := h'
      refine ⟨?_, own.frozenAt _⟩
      simp only [World.cell?, hg]
      have : 5 + 7 * 5 + j < cur.size := by rw [hcs]; omega
      simp
      omega
  · intro hr
    refine h _ _ _ (.inr ⟨g, 5, cap - 1, by rw [hd8], Nat.lt_of_lt_of_le hgl (grown_setCells g r.cells _ w).size, fun j u hj => ?_⟩) (grown_setCells g r.cells _ w) (fun b hb => .inl (by simpa [Value.ownBlock] using hb.symm))
    rw [e1] at hj
    by_cases hjl : j < 7 * 5
    · rw [List.getElem?_append_left (by omega)] at hj
      rw [World.cell?_setCells_out g _ _ _ _ (fun _ _ => .inl (by show 5 + j < 5 + 7 * 5; omega))]
      exact holds j u hj
    · rw [List.getElem?_append_right (by omega), hl1] at hj
      have hlt := (List.getElem?_eq_some_iff.1 hj).1
      have hin := World.cell?_setCells_in g r.cells (5 + 7 * 5) w (fun q hq => ?_) (j - 7 * 5) hlt
      · rw [show 5 + 7 * 5 + (j - 7 * 5) = 5 + j by omega] at hin
        rw [hin, ← hj, List.getElem?_eq_getElem hlt]
      · have hq5 : q < 5 := hq
        rcases own.2 with ⟨h', _⟩ | ⟨g', cap', cur, h', hb, hg, hnc, hcm, hcs, ht⟩
        · simp at h'
        · simp only [Value.slice.injEq, Option.some.injEq, Addr.mk.injEq, and_true, true_and] at h'
          obtain ⟨rfl, rfl⟩ := h'
          simp only [World.cell?, hg]
          have : 5 + 7 * 5 + q < cur.size := by rw [hcs]; omega
          simp
          omega
  · intro _ v' w' h1 h2
    obtain ⟨p, cap', rfl⟩ := owns_slice h1
    rw [← e1] at h1
    exact h p cap' w' (RowsAt.of_owns h1) (grown_any h2) (fun b hb => .inr (h1.lt b hb).1)
end Go.Proofs.Ytjidhmdphlmldaa
