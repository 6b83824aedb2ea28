/-
  Rows of alarms in memory; slices.SortStableFunc over them; upTo.
-/
import Derived.Test.YtfiahkjaeeoepaaAB
namespace Go.Proofs.Ytfiahkjaeeoepaa
open Go.ChangeShapes Go.WideShapes Go.ChangeAt Go.RowKit Go.Sort
set_option maxRecDepth 100000
set_option linter.unusedVariables false

def rowA (l : List AL) : List Value := l.flatMap encA
theorem rowA_len (l : List AL) : (rowA l).length = l.length * 3 := by
  induction l with
  | nil => rfl
  | cons a l ih =>
    have : rowA (a :: l) = encA a ++ rowA l := by simp [rowA]
    rw [this, List.length_append, ih]; simp [encA]; omega
theorem rowA_app (l m : List AL) : rowA (l ++ m) = rowA l ++ rowA m := by simp [rowA]
theorem rowA_at (l : List AL) (p i : Nat) (r : AL) (hp : l[p]? = some r) (hi : i < 3) : (rowA l)[p * 3 + i]? = (encA r)[i]? := by
  have hlt : p < l.length := (List.getElem?_eq_some_iff.1 hp).1
  have e : rowA l = rowA (l.take p) ++ rowA (l.drop p) := by rw [← rowA_app, List.take_append_drop]
  rw [e, List.getElem?_append, rowA_len, List.length_take, if_neg (by omega), show p * 3 + i - min p l.length * 3 = i by omega]
  have hd : l.drop p = r :: l.drop (p + 1) := by
    rw [List.drop_eq_getElem_cons hlt]
    congr 1
    exact (List.getElem?_eq_some_iff.1 hp).2
  rw [hd]
  have : rowA (r :: l.drop (p + 1)) = encA r ++ rowA (l.drop (p + 1)) := by simp [rowA]
  rw [this, List.getElem?_append, if_pos (by simp [encA]; omega)]
theorem rowA_one (l : List AL) : ∀ u ∈ rowA l, u.oneCell' = true := by
  intro u hu
  unfold rowA at hu
  obtain ⟨p, _, hu⟩ := List.mem_flatMap.1 hu
  simp [encA] at hu
  rcases hu with rfl | rfl | rfl <;> rfl
/-- A list of alarms that is read: it is nil, or lies in a block from base on. -/
def LsA (w : World) (base : Nat) (v : Value) (L : List AL) : Prop :=
  (v = .slice none 0 0 ∧ L = []) ∨
  ∃ g cap, v = .slice (some ⟨g, 0, none⟩) L.length cap ∧ base ≤ g ∧ g < w.heap.size ∧ L.length ≤ cap ∧ cap ≤ maxLen ∧
    ∀ i x, L[i]? = some x → (w.cell? ⟨g, i * 3, none⟩ = some (.int .u64 x.tm) ∧ w.cell? ⟨g, i * 3 + 1, none⟩ = some (.int .i64 ((x.p / 3 : Nat) : Int)) ∧ w.cell? ⟨g, i * 3 + 2, none⟩ = some (.int .i64 ((x.p % 3 : Nat) : Int))) ∧
      (w.frozen? ⟨g, i * 3, none⟩ = false ∧ w.frozen? ⟨g, i * 3 + 1, none⟩ = false ∧ w.frozen? ⟨g, i * 3 + 2, none⟩ = false)
theorem LsA.kept {w w' : World} {base : Nat} {v : Value} {L : List AL} {row : Option Nat} (h : LsA w base v L) (hg : w.grownBy w' row) (hr : ∀ g, base ≤ g → some g ≠ row) : LsA w' base v L := by
  rcases h with h | ⟨g, cap, h1, h2, h3, h4, h5, h6⟩
  · exact .inl h
  · have hb := hg.block g h3 (hr g h2)
    refine .inr ⟨g, cap, h1, h2, Nat.lt_of_lt_of_le h3 hg.size, h4, h5, fun i x hx => ?_⟩
    obtain ⟨⟨a0, a1, a2⟩, b0, b1, b2⟩ := h6 i x hx
    exact ⟨⟨(World.cell?_of_block (a := ⟨g, i * 3, none⟩) hb).trans a0, (World.cell?_of_block (a := ⟨g, i * 3 + 1, none⟩) hb).trans a1, (World.cell?_of_block (a := ⟨g, i * 3 + 2, none⟩) hb).trans a2⟩,
      (World.frozen?_of_block (a := ⟨g, i * 3, none⟩) hb).trans b0, (World.frozen?_of_block (a := ⟨g, i * 3 + 1, none⟩) hb).trans b1, (World.frozen?_of_block (a := ⟨g, i * 3 + 2, none⟩) hb).trans b2⟩
theorem LsA.below {w w' : World} {base : Nat} {v : Value} {L : List AL} (h : LsA w base v L) (hb : Below w.heap.size w w') : LsA w' base v L := h.kept (grown_of_below hb) (fun _ _ => by simp)
theorem LsA.len {w : World} {base : Nat} {v : Value} {L : List AL} (h : LsA w base v L) : ∃ p cap, v = .slice p L.length cap := by
  rcases h with ⟨h, rfl⟩ | ⟨g, cap, h, _⟩
  · exact ⟨_, _, h⟩
  · exact ⟨_, _, h⟩
theorem LsA.at {w : World} {base : Nat} {v : Value} {L : List AL} (h : LsA w base v L) {i : Nat} {x : AL} (hx : L[i]? = some x) : ∃ g cap, v = .slice (some ⟨g, 0, none⟩) L.length cap ∧ base ≤ g ∧ g < w.heap.size ∧
    w.cell? ⟨g, i * 3, none⟩ = some (.int .u64 x.tm) ∧ w.cell? ⟨g, i * 3 + 1, none⟩ = some (.int .i64 ((x.p / 3 : Nat) : Int)) ∧ w.cell? ⟨g, i * 3 + 2, none⟩ = some (.int .i64 ((x.p % 3 : Nat) : Int)) := by
  rcases h with ⟨_, rfl⟩ | ⟨g, cap, h1, h2, h3, h4, h5, h6⟩
  · simp at hx
  · obtain ⟨⟨a0, a1, a2⟩, _⟩ := h6 i x hx
    exact ⟨g, cap, h1, h2, h3, a0, a1, a2⟩

/-! ### the sort -/
theorem holds_of_owns {w : World} {base g cap : Nat} {l : List AL} (h : w.ownsRow base 43 3 (.slice (some ⟨g, 0, none⟩) l.length cap) l.length (rowA l)) : HoldsK encA 3 w g 0 l.toArray := by
  intro j hj
  rw [size_flatK] at hj
  have hj' : j < l.length * 3 := by simpa using hj
  obtain ⟨r, hr⟩ : ∃ r, l[j / 3]? = some r := ⟨_, List.getElem?_eq_getElem (by omega)⟩
  have hc := h.cellAt j hj'
  have hrow := rowA_at l (j / 3) (j % 3) r hr (Nat.mod_lt _ (by omega))
  rw [show j / 3 * 3 + j % 3 = j by omega] at hrow
  have e1 : l.toArray[j / 3]! = r := by
    rw [getElem!_pos _ _ (by simp; omega)]
    have := (List.getElem?_eq_some_iff.1 hr).2
    simpa using this
  refine ⟨?_, ?_⟩
  · rw [Nat.zero_add, get_flatK _ _ _ _ hj, e1, hc, hrow]
    have hm : j % 3 < (encA r).length := by simp [encA]; omega
    rw [List.getElem?_eq_getElem hm, getElem!_pos (encA r) (j % 3) hm]
    rfl
  · rw [Nat.zero_add]; exact h.frozenAt j
theorem sort_grown (w : World) (g n : Nat) (d : Array AL) (os : Array Obj) : w.grownBy (sortWorldK encA 3 w g 0 n d os) (some g) := by
  refine ⟨rfl, rfl, rfl, ?_, fun k hk hr => ?_⟩
  · exact size_sortWorldK_c encA 3 w g 0 n d os
  · have hne : k ≠ g := fun e => hr (by rw [e])
    unfold sortWorldK grow putRowK putRow mapBlock
    simp only [Array.getElem?_append]
    rw [if_pos (by simpa using hk), Array.getElem?_modify, if_neg (Ne.symm hne)]
    rfl
theorem lsA_of_holds {w : World} {base g cap : Nat} {L : List AL} (hH : HoldsK encA 3 w g 0 L.toArray) (hb : base ≤ g) (hg : g < w.heap.size) (hc : L.length ≤ cap) (hm : cap ≤ maxLen) : LsA w base (.slice (some ⟨g, 0, none⟩) L.length cap) L := by
  refine .inr ⟨g, cap, rfl, hb, hg, hc, hm, fun i x hx => ?_⟩
  have hi : i < L.length := (List.getElem?_eq_some_iff.1 hx).1
  have e1 : L.toArray[i]! = x := by
    rw [getElem!_pos _ _ (by simpa using hi)]
    have := (List.getElem?_eq_some_iff.1 hx).2
    simpa using this
  have key : ∀ m, m < 3 → w.cell? ⟨g, i * 3 + m, none⟩ = some ((encA x)[m]!) ∧ w.frozen? ⟨g, i * 3 + m, none⟩ = false := fun m hm3 => by
    have := hH (i * 3 + m) (by rw [size_flatK]; simp; omega)
    rw [Nat.zero_add, get_flatK _ _ _ _ (by simp; omega), show (i * 3 + m) / 3 = i by omega, show (i * 3 + m) % 3 = m by omega, e1] at this
    exact this
  exact ⟨⟨(key 0 (by omega)).1, (key 1 (by omega)).1, (key 2 (by omega)).1⟩, (key 0 (by omega)).2, (key 1 (by omega)).2, (key 2 (by omega)).2⟩
def SF : Value := .func (.func 20) #[] #[]
theorem stable_any (v : Value) (n : Nat) (hn : n ≤ 18) (w : World) (Q : World → Prop) (H0 : Calls Try.prog 24 #[v, .int .i64 0, .int .i64 n, .func (.func 20) #[] #[]] w fun e w' => e = .returned (.tuple #[]) ∧ Q w') :
    Calls Try.prog 22 #[v, .int .i64 n, .func (.func 20) #[] #[]] w fun e w' => e = .returned (.tuple #[]) ∧ Q w' := by
  have H := Lib.hid H0
  have z1 : ¬ (20 : Int) ≤ (n : Int) := by omega
  have z2 : ¬ (20 : Int) < (n : Int) := by omega
  clear H0
  go_enter Try.func22, Try.ntmps22
  go_wp2
  refine wp_loop_rounds 1 ?_
  rw [rounds_succ]
  go_wp2_with fail
  refine (H.out).mono ?_
  rintro e w1 ⟨rfl, h1⟩
  have HE := Lib.hid h1
  clear h1
  go_wp2
  refine wp_loop_rounds 1 ?_
  rw [rounds_succ]
  go_wp2
  go_end0
  exact ⟨rfl, HE.out⟩
theorem sort_any (p : Option Addr) (n cap : Nat) (hn : n ≤ 18) (w : World) (Q : World → Prop) (H0 : Calls Try.prog 24 #[.slice p n cap, .int .i64 0, .int .i64 n, .func (.func 20) #[] #[]] w fun e w' => e = .returned (.tuple #[]) ∧ Q w') :
    Calls Try.prog 19 #[.slice p n cap, .func (.func 20) #[] #[]] w fun e w' => e = .returned (.tuple #[]) ∧ Q w' := by
  have H := Lib.hid (stable_any _ n hn w Q H0)
  clear H0
  go_enter Try.func19, Try.ntmps19
  go_wp2_with fail
  refine (H.out).mono ?_
  rintro e w1 ⟨rfl, h1⟩
  have HE := Lib.hid h1
  clear h1
  go_wp2
  go_end0
  exact ⟨rfl, HE.out⟩
/-- What is behind the sort of the seats' alarms: the alarms in order. -/
theorem sort_in {w : World} {base : Nat} {v : Value} {on : Nat → Bool} {tm : Nat → Nat} {last : Nat} (h : w.ownsRow base 43 3 v (alL on tm last 18).length (rowA (alL on tm last 18))) (hb : base ≤ w.heap.size) :
    Calls Try.prog 19 #[v, .func (.func 20) #[] #[]] w fun e w' => e = .returned (.tuple #[]) ∧ (LsA w' base v (upL on tm last) ∧ Below base w w') := by
  have hl := alL_len on tm last 18
  have hul := up_len on tm last
  rcases owns_form h with ⟨rfl, hn⟩ | ⟨g, cap, rfl, h1, h2, h3, h4⟩
  · have hz : upL on tm last = [] := List.length_eq_zero_iff.1 (by omega)
    refine sort_any none 0 0 (by omega) w _ ((insertion_nil 0 none _ w).mono fun e w' ⟨he, hw⟩ => ⟨he, ?_⟩)
    subst hw
    exact ⟨.inl ⟨rfl, hz⟩, Below.refl _ _⟩
  · have hH := holds_of_owns h
    have hi := insertion_in g cap (alL on tm last 18).toArray w hH h2 (by simpa using hl)
    have es : (alL on tm last 18).toArray.size = (alL on tm last 18).length := by simp
    rw [es] at hi
    refine sort_any _ _ cap hl w _ (hi.mono fun e w' ⟨he, n, os, hw⟩ => ⟨he, ?_⟩)
    subst hw
    have hH2 := holdsK_sortWorldK_c encA 3 w g 0 (alL on tm last 18).toArray (upA on tm last) n os hH h2 (by rw [up_size]; simp)
    have eu : (upL on tm last).toArray = upA on tm last := by unfold upL; simp
    have hgr := sort_grown w g n (upA on tm last) os
    have hL : LsA (sortWorldK encA 3 w g 0 n (upA on tm last) os) base (.slice (some ⟨g, 0, none⟩) (upL on tm last).length cap) (upL on tm last) :=
      lsA_of_holds (by rw [eu]; exact hH2) h1 (Nat.lt_of_lt_of_le h2 hgr.size) (by omega) h4
    rw [hul] at hL
    exact ⟨hL, (Below.refl base w).grown hgr hb (fun j hj => by injection hj with hj; omega)⟩
end Go.Proofs.Ytfiahkjaeeoepaa
