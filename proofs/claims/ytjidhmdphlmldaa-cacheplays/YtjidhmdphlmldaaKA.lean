/-
  Memory of package cache: rows of five cells; the closures of Drop, DropVM, Clear and keep.
-/
import Derived.Test.YtjidhmdphlmldaaRows
import Derived.Test.YtjidhmdphlmldaaGN
namespace Go.Proofs.Ytjidhmdphlmldaa
open Go.ChangeShapes Go.WideShapes Go.ChangeAt Go.RowKit
set_option maxRecDepth 100000

/-- An entry, and whose. -/
structure R5 where
  vm : Int
  pg : Int
  th : Bool
  fr : Int
  wr : Bool
def R5.cells (r : R5) : List Value := [.int .i64 r.vm, .int .i64 r.pg, .bool r.th, .int .i64 r.fr, .bool r.wr]
def R5.agg (r : R5) : Value := .agg #[.int .i64 r.vm, .int .i64 r.pg, .bool r.th, .int .i64 r.fr, .bool r.wr]
def rowL (l : List R5) : List Value := l.flatMap R5.cells
theorem rowL_len (l : List R5) : (rowL l).length = l.length * 5 := by
  induction l with
  | nil => rfl
  | cons a l ih =>
    have : rowL (a :: l) = a.cells ++ rowL l := by simp [rowL]
    rw [this, List.length_append, ih]; simp [R5.cells]; omega
theorem rowL_app (l m : List R5) : rowL (l ++ m) = rowL l ++ rowL m := by simp [rowL]
theorem rowL_take (l : List R5) (k : Nat) : (rowL l).take (k * 5) = rowL (l.take k) := by
  by_cases h : k ≤ l.length
  · have e : rowL l = rowL (l.take k) ++ rowL (l.drop k) := by rw [← rowL_app, List.take_append_drop]
    rw [e, List.take_append_of_le_length (by rw [rowL_len, List.length_take]; omega), List.take_of_length_le (by rw [rowL_len, List.length_take]; omega)]
  · rw [List.take_of_length_le (by rw [rowL_len]; omega), List.take_of_length_le (by omega)]
theorem rowL_drop (l : List R5) (k : Nat) (h : k ≤ l.length) : (rowL l).drop (k * 5) = rowL (l.drop k) := by
  have e : rowL l = rowL (l.take k) ++ rowL (l.drop k) := by rw [← rowL_app, List.take_append_drop]
  rw [e, List.drop_append, List.drop_of_length_le (by rw [rowL_len, List.length_take]; omega), rowL_len, List.length_take, show k * 5 - min k l.length * 5 = 0 by omega]
  rfl
theorem rowL_at (l : List R5) (p i : Nat) (r : R5) (hp : l[p]? = some r) (hi : i < 5) : (rowL l)[p * 5 + i]? = r.cells[i]? := by
  have hlt : p < l.length := (List.getElem?_eq_some_iff.1 hp).1
  have e : rowL l = rowL (l.take p) ++ rowL (l.drop p) := by rw [← rowL_app, List.take_append_drop]
  rw [e, List.getElem?_append, rowL_len, List.length_take, if_neg (by omega), show p * 5 + i - min p l.length * 5 = i by omega]
  have hd : l.drop p = r :: l.drop (p + 1) := by
    rw [List.drop_eq_getElem_cons hlt]
    congr 1
    have := List.getElem?_eq_getElem hlt
    rw [hp] at this
    injection this with this
    exact this.symm
  rw [hd]
  have : rowL (r :: l.drop (p + 1)) = r.cells ++ rowL (l.drop (p + 1)) := by simp [rowL]
  rw [this, List.getElem?_append, if_pos (by simp [R5.cells]; omega)]
theorem rowL_one (l : List R5) : ∀ u ∈ rowL l, u.oneCell' = true := by
  intro u hu
  unfold rowL at hu
  obtain ⟨p, _, hu⟩ := List.mem_flatMap.1 hu
  simp [R5.cells] at hu
  rcases hu with rfl | rfl | rfl | rfl | rfl <;> rfl

/-! ### a block of five cells -/
structure L5 (w : World) (B : Nat) (a b c d e : Value) : Prop where
  k0 : w.cell? ⟨B, 0, none⟩ = some a
  k1 : w.cell? ⟨B, 1, none⟩ = some b
  k2 : w.cell? ⟨B, 2, none⟩ = some c
  k3 : w.cell? ⟨B, 3, none⟩ = some d
  k4 : w.cell? ⟨B, 4, none⟩ = some e
  lt : B < w.heap.size
  fz : ∀ i, w.frozen? ⟨B, i, none⟩ = false
theorem l5_new (w : World) (a b c d e : Value) (t : TypeId) : L5 (w.alloc (.cells #[a, b, c, d, e] t)) w.heap.size a b c d e := ⟨by simp, by simp, by simp, by simp, by simp, by simp, fun i => by simp⟩
theorem L5.later {w w' : World} {B : Nat} {a b c d e : Value} (h : L5 w B a b c d e) (hb : Below w.heap.size w w') : L5 w' B a b c d e :=
  ⟨(hb.cell h.lt).trans h.k0, (hb.cell h.lt).trans h.k1, (hb.cell h.lt).trans h.k2, (hb.cell h.lt).trans h.k3, (hb.cell h.lt).trans h.k4, Nat.lt_of_lt_of_le h.lt hb.size, fun i => (hb.frozen h.lt).trans (h.fz i)⟩

/-! ### the closures -/
def hitK (vm pg : Int) (r : R5) : Bool := decide (r.vm = vm ∧ r.pg = pg)
theorem drop1_in (r : R5) (vm pg : Int) (G : Nat) (w : World) (h0 : w.cell? ⟨G, 0, none⟩ = some (.int .i64 vm)) (h1 : w.cell? ⟨G, 1, none⟩ = some (.int .i64 pg)) :
    Calls Try.prog 33 #[r.agg, .pointer (some ⟨G, 0, none⟩)] w fun e w' => e = .returned (.bool (!hitK vm pg r)) ∧ Below w.heap.size w w' := by
  have hlt := World.block_lt_of_cell? _ _ h0
  have b1 := below_new w (.cells #[.int .i64 r.vm, .int .i64 r.pg, .bool r.th, .int .i64 r.fr, .bool r.wr] 73)
  obtain ⟨e0, e1, e2, e3, e4, el, ef⟩ := l5_new w (.int .i64 r.vm) (.int .i64 r.pg) (.bool r.th) (.int .i64 r.fr) (.bool r.wr) 73
  have g0 := (b1.cell (p := ⟨G, 0, none⟩) hlt).trans h0
  have g1 := (b1.cell (p := ⟨G, 1, none⟩) hlt).trans h1
  have HB := Lib.hid b1
  clear b1 h0 h1
  obtain ⟨b, hb⟩ : ∃ b, hitK vm pg r = b := ⟨_, rfl⟩
  rw [hb]
  unfold R5.agg
  by_cases c0 : r.vm = vm
  · have t0 : (r.vm == vm) = true := by simpa using c0
    by_cases c1 : r.pg = pg
    · have t1 : (r.pg == pg) = true := by simpa using c1
      obtain rfl : b = true := by rw [← hb]; exact decide_eq_true ⟨c0, c1⟩
      clear hb c0 c1
      go_enter Try.func33, Try.ntmps33
      go_wp2
      go_ret
      exact ⟨rfl, HB.out⟩
    · have t1 : (r.pg == pg) = false := by simpa using c1
      obtain rfl : b = false := by rw [← hb]; exact decide_eq_false (fun h => c1 h.2)
      clear hb c0 c1
      go_enter Try.func33, Try.ntmps33
      go_wp2
      go_ret
      exact ⟨rfl, HB.out⟩
  · have t0 : (r.vm == vm) = false := by simpa using c0
    obtain rfl : b = false := by rw [← hb]; exact decide_eq_false (fun h => c0 h.1)
    clear hb c0
    go_enter Try.func33, Try.ntmps33
    go_wp2
    go_ret
    exact ⟨rfl, HB.out⟩
theorem dropVM1_in (r : R5) (vm : Int) (G : Nat) (w : World) (h0 : w.cell? ⟨G, 0, none⟩ = some (.int .i64 vm)) :
    Calls Try.prog 34 #[r.agg, .pointer (some ⟨G, 0, none⟩)] w fun e w' => e = .returned (.bool (!decide (r.vm = vm))) ∧ Below w.heap.size w w' := by
  have hlt := World.block_lt_of_cell? _ _ h0
  have b1 := below_new w (.cells #[.int .i64 r.vm, .int .i64 r.pg, .bool r.th, .int .i64 r.fr, .bool r.wr] 73)
  obtain ⟨e0, e1, e2, e3, e4, el, ef⟩ := l5_new w (.int .i64 r.vm) (.int .i64 r.pg) (.bool r.th) (.int .i64 r.fr) (.bool r.wr) 73
  have g0 := (b1.cell (p := ⟨G, 0, none⟩) hlt).trans h0
  have HB := Lib.hid b1
  clear b1 h0
  obtain ⟨b, hb⟩ : ∃ b, decide (r.vm = vm) = b := ⟨_, rfl⟩
  rw [hb]
  unfold R5.agg
  by_cases c0 : r.vm = vm
  · have t0 : (r.vm == vm) = true := by simpa using c0
    have t1 : (r.vm != vm) = false := by simpa using c0
    obtain rfl : b = true := by rw [← hb]; exact decide_eq_true c0
    clear hb c0
    go_enter Try.func34, Try.ntmps34
    go_wp2
    go_ret
    exact ⟨by simp, HB.out⟩
  · have t0 : (r.vm == vm) = false := by simpa using c0
    have t1 : (r.vm != vm) = true := by simpa using c0
    obtain rfl : b = false := by rw [← hb]; exact decide_eq_false c0
    clear hb c0
    go_enter Try.func34, Try.ntmps34
    go_wp2
    go_ret
    exact ⟨by simp, HB.out⟩
theorem clear1_in (r : R5) (w : World) :
    Calls Try.prog 35 #[r.agg] w fun e w' => e = .returned (.bool false) ∧ Below w.heap.size w w' := by
  have HB := Lib.hid (below_new w (.cells #[.int .i64 r.vm, .int .i64 r.pg, .bool r.th, .int .i64 r.fr, .bool r.wr] 73))
  unfold R5.agg
  go_enter Try.func35, Try.ntmps35
  go_wp2
  go_ret
  exact ⟨rfl, HB.out⟩
/-- keep's closure, over each of the three. -/
theorem keep1_drop (r : R5) (P G : Nat) (w : World) (b : Bool) (hP : w.cell? ⟨P, 0, none⟩ = some (.func (.func 33) #[] #[.pointer (some ⟨G, 0, none⟩)]))
    (H : ∀ U, Below w.heap.size w U → Calls Try.prog 33 #[r.agg, .pointer (some ⟨G, 0, none⟩)] U fun e w' => e = .returned (.bool (!b)) ∧ Below U.heap.size U w') :
    Calls Try.prog 42 #[r.agg, .pointer (some ⟨P, 0, none⟩)] w fun e w' => e = .returned (.bool b) ∧ Below w.heap.size w w' := by
  have hlt := World.block_lt_of_cell? _ _ hP
  have b1 := below_new w (.cells #[.int .i64 r.vm, .int .i64 r.pg, .bool r.th, .int .i64 r.fr, .bool r.wr] 73)
  obtain ⟨e0, e1, e2, e3, e4, el, ef⟩ := l5_new w (.int .i64 r.vm) (.int .i64 r.pg) (.bool r.th) (.int .i64 r.fr) (.bool r.wr) 73
  have g0 := (b1.cell (p := ⟨P, 0, none⟩) hlt).trans hP
  have HC := Lib.hid (H _ b1)
  have HB := Lib.hid b1
  clear b1 hP H
  unfold R5.agg at *
  cases b
  · go_enter Try.func42, Try.ntmps42
    go_wp2_with fail
    refine (HC.out).mono ?_
    rintro e w2 ⟨rfl, b2⟩
    have HB2 := Lib.hid (below_up HB.out b2)
    clear b2
    go_wp2
    go_ret
    exact ⟨rfl, HB2.out⟩
  · go_enter Try.func42, Try.ntmps42
    go_wp2_with fail
    refine (HC.out).mono ?_
    rintro e w2 ⟨rfl, b2⟩
    have HB2 := Lib.hid (below_up HB.out b2)
    clear b2
    go_wp2
    go_ret
    exact ⟨rfl, HB2.out⟩
theorem keep1_vm (r : R5) (P G : Nat) (w : World) (b : Bool) (hP : w.cell? ⟨P, 0, none⟩ = some (.func (.func 34) #[] #[.pointer (some ⟨G, 0, none⟩)]))
    (H : ∀ U, Below w.heap.size w U → Calls Try.prog 34 #[r.agg, .pointer (some ⟨G, 0, none⟩)] U fun e w' => e = .returned (.bool (!b)) ∧ Below U.heap.size U w') :
    Calls Try.prog 42 #[r.agg, .pointer (some ⟨P, 0, none⟩)] w fun e w' => e = .returned (.bool b) ∧ Below w.heap.size w w' := by
  have hlt := World.block_lt_of_cell? _ _ hP
  have b1 := below_new w (.cells #[.int .i64 r.vm, .int .i64 r.pg, .bool r.th, .int .i64 r.fr, .bool r.wr] 73)
  obtain ⟨e0, e1, e2, e3, e4, el, ef⟩ := l5_new w (.int .i64 r.vm) (.int .i64 r.pg) (.bool r.th) (.int .i64 r.fr) (.bool r.wr) 73
  have g0 := (b1.cell (p := ⟨P, 0, none⟩) hlt).trans hP
  have HC := Lib.hid (H _ b1)
  have HB := Lib.hid b1
  clear b1 hP H
  unfold R5.agg at *
  cases b
  · go_enter Try.func42, Try.ntmps42
    go_wp2_with fail
    refine (HC.out).mono ?_
    rintro e w2 ⟨rfl, b2⟩
    have HB2 := Lib.hid (below_up HB.out b2)
    clear b2
    go_wp2
    go_ret
    exact ⟨rfl, HB2.out⟩
  · go_enter Try.func42, Try.ntmps42
    go_wp2_with fail
    refine (HC.out).mono ?_
    rintro e w2 ⟨rfl, b2⟩
    have HB2 := Lib.hid (below_up HB.out b2)
    clear b2
    go_wp2
    go_ret
    exact ⟨rfl, HB2.out⟩
theorem keep1_clear (r : R5) (P : Nat) (w : World) (b : Bool) (hP : w.cell? ⟨P, 0, none⟩ = some (.func (.func 35) #[] #[]))
    (H : ∀ U, Below w.heap.size w U → Calls Try.prog 35 #[r.agg] U fun e w' => e = .returned (.bool (!b)) ∧ Below U.heap.size U w') :
    Calls Try.prog 42 #[r.agg, .pointer (some ⟨P, 0, none⟩)] w fun e w' => e = .returned (.bool b) ∧ Below w.heap.size w w' := by
  have hlt := World.block_lt_of_cell? _ _ hP
  have b1 := below_new w (.cells #[.int .i64 r.vm, .int .i64 r.pg, .bool r.th, .int .i64 r.fr, .bool r.wr] 73)
  obtain ⟨e0, e1, e2, e3, e4, el, ef⟩ := l5_new w (.int .i64 r.vm) (.int .i64 r.pg) (.bool r.th) (.int .i64 r.fr) (.bool r.wr) 73
  have g0 := (b1.cell (p := ⟨P, 0, none⟩) hlt).trans hP
  have HC := Lib.hid (H _ b1)
  have HB := Lib.hid b1
  clear b1 hP H
  unfold R5.agg at *
  cases b
  · go_enter Try.func42, Try.ntmps42
    go_wp2_with fail
    refine (HC.out).mono ?_
    rintro e w2 ⟨rfl, b2⟩
    have HB2 := Lib.hid (below_up HB.out b2)
    clear b2
    go_wp2
    go_ret
    exact ⟨rfl, HB2.out⟩
  · go_enter Try.func42, Try.ntmps42
    go_wp2_with fail
    refine (HC.out).mono ?_
    rintro e w2 ⟨rfl, b2⟩
    have HB2 := Lib.hid (below_up HB.out b2)
    clear b2
    go_wp2
    go_ret
    exact ⟨rfl, HB2.out⟩
end Go.Proofs.Ytjidhmdphlmldaa
