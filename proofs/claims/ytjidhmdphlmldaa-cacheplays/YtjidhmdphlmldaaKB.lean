/-
  slices.IndexFunc and slices.DeleteFunc over package cache's rows.
-/
import Derived.Test.YtjidhmdphlmldaaKA
namespace Go.Proofs.Ytjidhmdphlmldaa
open Go.ChangeShapes Go.WideShapes Go.ChangeAt Go.RowKit
set_option maxRecDepth 100000

/-- What a closure over keep's cell answers, in whatever world whose other blocks are as they were. -/
def DF (w : World) (row : Option Nat) (d : R5 → Bool) (P : Nat) : Prop :=
  ∀ U, w.grownBy U row → ∀ r : R5, Calls Try.prog 42 #[r.agg, .pointer (some ⟨P, 0, none⟩)] U fun e w' => e = .returned (.bool (d r)) ∧ Below U.heap.size U w'
theorem DF.later {w U : World} {row : Option Nat} {d : R5 → Bool} {P : Nat} (h : DF w row d P) (hg : w.grownBy U row) : DF U row d P := fun V hV r => h V (grown_trans hg hV) r
def idxD (d : R5 → Bool) (l : List R5) : Nat := (l.takeWhile (fun r => !d r)).length
theorem take_succ' {α : Type} (l : List α) (k : Nat) (r : α) (h : l[k]? = some r) : l.take (k + 1) = l.take k ++ [r] := by
  rw [List.take_add_one, h]; rfl
theorem drop_cons' {α : Type} (l : List α) (k : Nat) (r : α) (h : l[k]? = some r) : l.drop k = r :: l.drop (k + 1) := by
  have hlt : k < l.length := (List.getElem?_eq_some_iff.1 h).1
  rw [List.drop_eq_getElem_cons hlt]
  congr 1
  exact (List.getElem?_eq_some_iff.1 h).2
theorem takeWhile_all {α : Type} (p : α → Bool) (l : List α) (h : ∀ a ∈ l, p a = true) : l.takeWhile p = l := by
  induction l with
  | nil => rfl
  | cons a l ih => rw [List.takeWhile_cons, if_pos (h a (by simp)), ih (fun b hb => h b (by simp [hb]))]
/-- The cells of one row. -/
theorem owns_row {w : World} {base n g cap : Nat} {l : List R5} (h : w.ownsRow base 73 5 (.slice (some ⟨g, 0, none⟩) n cap) n (rowL l)) (p : Nat) (r : R5) (hp : l[p]? = some r) :
    w.cell? ⟨g, p * 5, none⟩ = some (.int .i64 r.vm) ∧ w.cell? ⟨g, p * 5 + 1, none⟩ = some (.int .i64 r.pg) ∧ w.cell? ⟨g, p * 5 + 2, none⟩ = some (.bool r.th) ∧ w.cell? ⟨g, p * 5 + 3, none⟩ = some (.int .i64 r.fr) ∧ w.cell? ⟨g, p * 5 + 4, none⟩ = some (.bool r.wr) := by
  have hlt : p < l.length := (List.getElem?_eq_some_iff.1 hp).1
  have hn : l.length * 5 = n * 5 := by rw [← rowL_len]; exact h.1
  refine ⟨?_, ?_, ?_, ?_, ?_⟩
  · rw [h.cellAt _ (by omega), show p * 5 = p * 5 + 0 by omega, rowL_at l p 0 r hp (by omega)]; rfl
  · rw [h.cellAt _ (by omega), rowL_at l p 1 r hp (by omega)]; rfl
  · rw [h.cellAt _ (by omega), rowL_at l p 2 r hp (by omega)]; rfl
  · rw [h.cellAt _ (by omega), rowL_at l p 3 r hp (by omega)]; rfl
  · rw [h.cellAt _ (by omega), rowL_at l p 4 r hp (by omega)]; rfl
/-- What IndexFunc answers. -/
def idxI (d : R5 → Bool) (l : List R5) : Int := if ∃ r ∈ l, d r = true then (idxD d l : Nat) else -1
/-- No row of the first k is hit. -/
def Clean (d : R5 → Bool) (l : List R5) (k : Nat) : Prop := ∀ r ∈ l.take k, d r = false
theorem Clean.step {d : R5 → Bool} {l : List R5} {k : Nat} {r : R5} (h : Clean d l k) (hr : l[k]? = some r) (hd : d r = false) : Clean d l (k + 1) := by
  intro q hq
  rw [take_succ' l k r hr] at hq
  rcases List.mem_append.1 hq with h1 | h1
  · exact h q h1
  · rw [List.mem_singleton.1 h1]; exact hd
theorem Clean.idx {d : R5 → Bool} {l : List R5} {k : Nat} {r : R5} (h : Clean d l k) (hr : l[k]? = some r) (hd : d r = true) : idxI d l = (k : Nat) := by
  have hlt : k < l.length := (List.getElem?_eq_some_iff.1 hr).1
  have hm : r ∈ l := List.mem_of_getElem? hr
  unfold idxI
  rw [if_pos ⟨r, hm, hd⟩]
  congr 1
  unfold idxD
  have e : l = l.take k ++ r :: l.drop (k + 1) := by rw [← drop_cons' l k r hr, List.take_append_drop]
  have ht : (l.take k).takeWhile (fun r => !d r) = l.take k := by
    exact takeWhile_all _ _ (fun q hq => by rw [h q hq]; rfl)
  rw [e, List.takeWhile_append, ht, if_pos rfl, List.takeWhile_cons, hd]
  simp
  omega
theorem Clean.none_ {d : R5 → Bool} {l : List R5} (h : Clean d l l.length) : idxI d l = -1 := by
  unfold idxI
  rw [if_neg]
  rintro ⟨r, hm, hd⟩
  have := h r (by rw [List.take_length]; exact hm)
  rw [this] at hd; cases hd
set_option maxHeartbeats 1000000 in
theorem index_some {w : World} {base g n cap P : Nat} {l : List R5} {d : R5 → Bool} (own : w.ownsRow base 73 5 (.slice (some ⟨g, 0, none⟩) n cap) n (rowL l)) (hn : n = l.length) (hl : n ≤ 8) (hd : DF w none d P) :
    Calls Try.prog 43 #[.slice (some ⟨g, 0, none⟩) n cap, .func (.func 42) #[] #[.pointer (some ⟨P, 0, none⟩)]] w
      fun e w' => e = .returned (.int .i64 (idxI d l)) ∧ Below w.heap.size w w' := by
  have HO := Lib.hid own
  have HD := Lib.hid hd
  have HN := Lib.hid hn
  clear own hd hn
  go_enter Try.func43, Try.ntmps43
  go_wp2_with fail
  go_loopw [4, 5, 8] (fun _ _ i wr => ∃ k : Nat, k ≤ n ∧ i = .int .i64 k ∧ Clean d l k ∧ Below w.heap.size w wr) (fun _ _ i _ => n - (intOf i).toNat)
  case atStart => exact ⟨0, by omega, rfl, fun r hr => by simp at hr, Below.refl _ _⟩
  case round =>
    obtain ⟨k, hk, rfl, hC, hb⟩ := hrel
    have HC := Lib.hid hC
    have HB := Lib.hid hb
    clear hC hb
    by_cases hlt : k < n
    · have k1 : (k : Int) < (n : Int) := by omega
      obtain ⟨r, hr⟩ : ∃ r, l[k]? = some r := ⟨l[k]'(by have := HN.out; omega), List.getElem?_eq_getElem _⟩
      obtain ⟨c0, c1, c2, c3, c4⟩ := owns_row (owns_below HO.out HB.out) k r hr
      have HK := Lib.hid ((HD.out) _ (grown_of_below HB.out) r)
      unfold R5.agg at HK
      have HRr := Lib.hid hr
      clear hr
      cases hdr : d r
      · rw [hdr] at HK
        have HC2 := Lib.hid ((HC.out).step HRr.out hdr)
        clear hdr
        go_wp2_with fail
        refine (HK.out).mono ?_
        rintro e w2 ⟨rfl, b2⟩
        have HB2 := Lib.hid (below_up HB.out b2)
        clear b2 c0 c1 c2 c3 c4
        go_wp2
        go_roundw
        case rel => exact ⟨k + 1, by omega, by go_num, HC2.out, HB2.out⟩
        case measure => simp [intOf]; omega
      · rw [hdr] at HK
        have HC2 := Lib.hid ((HC.out).idx HRr.out hdr)
        clear hdr
        go_wp2_with fail
        refine (HK.out).mono ?_
        rintro e w2 ⟨rfl, b2⟩
        have HB2 := Lib.hid (below_up HB.out b2)
        clear b2 c0 c1 c2 c3 c4
        go_wp2
        go_ret
        exact ⟨by rw [HC2.out]; rfl, HB2.out⟩
    · have k1 : ¬ (k : Int) < (n : Int) := by omega
      obtain rfl : k = n := by omega
      have HI : Hid (idxI d l = -1) := Lib.hid (Clean.none_ (by have := HC.out; rw [HN.out] at this; exact this))
      go_wp2
      go_ret
      exact ⟨by rw [HI.out]; rfl, HB.out⟩
theorem index_nil (F : Value) (w : World) :
    Calls Try.prog 43 #[.slice none 0 0, F] w fun e w' => e = .returned (.int .i64 (-1)) ∧ Below w.heap.size w w' := by
  go_enter Try.func43, Try.ntmps43
  go_wp2_with fail
  go_loopw [4, 5, 8] (fun _ _ i wr => i = .int .i64 0 ∧ Below w.heap.size w wr) (fun _ _ i _ => 0)
  case atStart => exact ⟨rfl, Below.refl _ _⟩
  case round =>
    obtain ⟨rfl, hb⟩ := hrel
    have HB := Lib.hid hb
    clear hb
    go_wp2
    go_ret
    exact ⟨rfl, HB.out⟩

/-! ### a row is written -/
theorem rowL_set (l : List R5) (i : Nat) (hi : i < l.length) (r : R5) : (((((rowL l).set (i * 5) (.int .i64 r.vm)).set (i * 5 + 1) (.int .i64 r.pg)).set (i * 5 + 2) (.bool r.th)).set (i * 5 + 3) (.int .i64 r.fr)).set (i * 5 + 4) (.bool r.wr) = rowL (l.set i r) := by
  apply List.ext_getElem?
  intro j
  by_cases hj : j < l.length * 5
  · obtain ⟨p, q, rfl, hq⟩ : ∃ p q, j = p * 5 + q ∧ q < 5 := ⟨j / 5, j % 5, by omega, by omega⟩
    have hp : p < l.length := by omega
    by_cases e : p = i
    · subst e
      rw [rowL_at (l.set p r) p q r (by simp [hp]) hq]
      have hlen : p * 5 + 4 < (rowL l).length := by rw [rowL_len]; omega
      have : q = 0 ∨ q = 1 ∨ q = 2 ∨ q = 3 ∨ q = 4 := by omega
      rcases this with rfl | rfl | rfl | rfl | rfl
      · simp [List.getElem?_set, R5.cells]; omega
      · simp [List.getElem?_set, R5.cells]; omega
      · simp [List.getElem?_set, R5.cells]; omega
      · simp [List.getElem?_set, R5.cells]; omega
      · simp [List.getElem?_set, R5.cells]; omega
    · rw [rowL_at (l.set i r) p q l[p] (by rw [List.getElem?_set_ne (by omega)]; exact List.getElem?_eq_getElem hp) hq, ← rowL_at l p q l[p] (List.getElem?_eq_getElem hp) hq]
      rw [List.getElem?_set_ne (by omega), List.getElem?_set_ne (by omega), List.getElem?_set_ne (by omega), List.getElem?_set_ne (by omega), List.getElem?_set_ne (by omega)]
  · rw [List.getElem?_eq_none (by simp [rowL_len]; omega), List.getElem?_eq_none (by rw [rowL_len]; simp; omega)]
def put5 (w : World) (g p : Nat) (r : R5) : World :=
  ((((w.setCell ⟨g, p * 5, none⟩ (.int .i64 r.vm)).setCell ⟨g, p * 5 + 1, none⟩ (.int .i64 r.pg)).setCell ⟨g, p * 5 + 2, none⟩ (.bool r.th)).setCell ⟨g, p * 5 + 3, none⟩ (.int .i64 r.fr)).setCell ⟨g, p * 5 + 4, none⟩ (.bool r.wr)
theorem owns_put {w : World} {base n g cap : Nat} {l : List R5} (h : w.ownsRow base 73 5 (.slice (some ⟨g, 0, none⟩) n cap) n (rowL l)) (i : Nat) (hi : i < l.length) (r : R5) :
    (put5 w g i r).ownsRow base 73 5 (.slice (some ⟨g, 0, none⟩) n cap) n (rowL (l.set i r)) ∧ w.grownBy (put5 w g i r) (some g) := by
  rw [← rowL_set l i hi r]
  obtain ⟨a1, a2⟩ := h.stored (i * 5) (.int .i64 r.vm)
  obtain ⟨b1, b2⟩ := a1.stored (i * 5 + 1) (.int .i64 r.pg)
  obtain ⟨c1, c2⟩ := b1.stored (i * 5 + 2) (.bool r.th)
  obtain ⟨d1, d2⟩ := c1.stored (i * 5 + 3) (.int .i64 r.fr)
  obtain ⟨e1, e2⟩ := d1.stored (i * 5 + 4) (.bool r.wr)
  exact ⟨e1, grown_trans (grown_trans (grown_trans (grown_trans a2 b2) c2) d2) e2⟩
/-- What stands in DeleteFunc's loop: what stays of the first j, some more, what is ahead. -/
structure DI (w wr : World) (base g n cap : Nat) (l : List R5) (d : R5 → Bool) (j : Nat) (x : List R5) : Prop where
  own : wr.ownsRow base 73 5 (.slice (some ⟨g, 0, none⟩) n cap) n (rowL ((l.take j).filter (fun r => !d r) ++ x ++ l.drop j))
  len : ((l.take j).filter (fun r => !d r)).length + x.length = j
  pos : 0 < x.length
  gr : w.grownBy wr (some g)
def kept (d : R5 → Bool) (l : List R5) (j : Nat) : Nat := ((l.take j).filter (fun r => !d r)).length
theorem DI.lt {w wr : World} {base g n cap : Nat} {l : List R5} {d : R5 → Bool} {j : Nat} {x : List R5} (h : DI w wr base g n cap l d j x) : kept d l j < j := by
  have := h.len; have := h.pos; unfold kept; omega
theorem DI.at {w wr : World} {base g n cap : Nat} {l : List R5} {d : R5 → Bool} {j : Nat} {x : List R5} (h : DI w wr base g n cap l d j x) {r : R5} (hr : l[j]? = some r) : ((l.take j).filter (fun r => !d r) ++ x ++ l.drop j)[j]? = some r := by
  rw [List.getElem?_append, List.length_append, if_neg (by have := h.len; omega), drop_cons' l j r hr]
  simp [h.len]
theorem DI.below {w wr w2 : World} {base g n cap : Nat} {l : List R5} {d : R5 → Bool} {j : Nat} {x : List R5} (h : DI w wr base g n cap l d j x) (hb : Below wr.heap.size wr w2) : DI w w2 base g n cap l d j x :=
  ⟨owns_below h.own hb, h.len, h.pos, grown_trans h.gr (grown_below hb _)⟩
theorem DI.gone {w wr : World} {base g n cap : Nat} {l : List R5} {d : R5 → Bool} {j : Nat} {x : List R5} (h : DI w wr base g n cap l d j x) {r : R5} (hr : l[j]? = some r) (hd : d r = true) : DI w wr base g n cap l d (j + 1) (x ++ [r]) := by
  have e : (l.take (j + 1)).filter (fun r => !d r) = (l.take j).filter (fun r => !d r) := by rw [take_succ' l j r hr, List.filter_append]; simp [hd]
  refine ⟨?_, ?_, by simp, h.gr⟩
  · rw [e]
    have := h.own
    rw [drop_cons' l j r hr] at this
    simpa using this
  · rw [e]; have := h.len; simp; omega
theorem DI.stays {w wr : World} {base g n cap : Nat} {l : List R5} {d : R5 → Bool} {j : Nat} {x : List R5} (h : DI w wr base g n cap l d j x) {r : R5} (hr : l[j]? = some r) (hd : d r = false) :
    DI w (put5 wr g (kept d l j) r) base g n cap l d (j + 1) (x.tail ++ [r]) ∧ kept d l (j + 1) = kept d l j + 1 := by
  have e : (l.take (j + 1)).filter (fun r => !d r) = (l.take j).filter (fun r => !d r) ++ [r] := by rw [take_succ' l j r hr, List.filter_append]; simp [hd]
  have hp := h.pos
  obtain ⟨y, x', rfl⟩ : ∃ y x', x = y :: x' := by
    cases x with
    | nil => simp at hp
    | cons y x' => exact ⟨y, x', rfl⟩
  obtain ⟨o1, o2⟩ := owns_put h.own (kept d l j) (by unfold kept; simp) r
  refine ⟨⟨?_, ?_, by simp, grown_trans h.gr o2⟩, ?_⟩
  · rw [e]
    have es : ((l.take j).filter (fun r => !d r) ++ y :: x' ++ l.drop j).set (kept d l j) r = (l.take j).filter (fun r => !d r) ++ [r] ++ (x' ++ [r]) ++ l.drop (j + 1) := by
      rw [drop_cons' l j r hr, List.append_assoc, List.set_append_right _ _ (by unfold kept; exact Nat.le_refl _)]
      unfold kept
      simp
    rw [es] at o1
    simpa using o1
  · rw [e]; have := h.len; simp at this ⊢; omega
  · unfold kept; rw [e]; simp
theorem DI.first {w : World} {base g n cap : Nat} {l : List R5} {d : R5 → Bool} {k : Nat} {r : R5} (own : w.ownsRow base 73 5 (.slice (some ⟨g, 0, none⟩) n cap) n (rowL l)) (hc : Clean d l k) (hr : l[k]? = some r) (hd : d r = true) {U : World} (hb : Below w.heap.size w U) :
    DI w U base g n cap l d (k + 1) [r] ∧ kept d l (k + 1) = k := by
  have ht : (l.take k).filter (fun r => !d r) = l.take k := List.filter_eq_self.2 (fun q hq => by rw [hc q hq]; rfl)
  have e : (l.take (k + 1)).filter (fun r => !d r) = l.take k := by rw [take_succ' l k r hr, List.filter_append, ht]; simp [hd]
  have hlt : k < l.length := (List.getElem?_eq_some_iff.1 hr).1
  refine ⟨⟨?_, ?_, by simp, grown_below hb _⟩, ?_⟩
  · rw [e, List.append_assoc, List.singleton_append, ← drop_cons' l k r hr, List.take_append_drop]
    exact owns_below own hb
  · rw [e, List.length_take]; simp; omega
  · unfold kept; rw [e, List.length_take]; omega
end Go.Proofs.Ytjidhmdphlmldaa
