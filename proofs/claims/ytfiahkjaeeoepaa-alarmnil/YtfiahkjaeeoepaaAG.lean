/-
  A clock of a law's own; the awake of layer 10's laws; AlarmNil's walk.
-/
import Derived.Test.YtfiahkjaeeoepaaAF
import Derived.Laws.StructEq
namespace Go.Proofs.Ytfiahkjaeeoepaa
open Go.ChangeShapes Go.WideShapes Go.ChangeAt Go.RowKit Go.Sort
set_option maxRecDepth 100000
set_option linter.unusedVariables false

theorem up_eq {on : Nat → Bool} {tm : Nat → Nat} {last : Nat} {L : List AL} (hs : L.Pairwise (fun x y => lexB x y = true)) (hp : L.Perm (alL on tm last 18)) : upL on tm last = L := by
  refine List.Perm.eq_of_pairwise (le := fun x y => lexB x y = true) ?_ (up_rise on tm last) hs ((up_perm on tm last).trans hp.symm)
  intro a b _ _ h1 h2
  unfold lexB at h1 h2
  simp only [decide_eq_true_eq] at h1 h2
  omega
theorem up_nil {on : Nat → Bool} {tm : Nat → Nat} {last : Nat} (h : alL on tm last 18 = []) : upL on tm last = [] := up_eq List.Pairwise.nil (by rw [h])
theorem up_one {on : Nat → Bool} {tm : Nat → Nat} {last : Nat} {x : AL} (h : alL on tm last 18 = [x]) : upL on tm last = [x] := up_eq (List.pairwise_singleton _ _) (by rw [h])
/-- A clock of a law's own, behind w. -/
structure Kw (w w' : World) (B : Nat) (on : Nat → Bool) (tm : Nat → Nat) : Prop where
  m : Mk w' B on tm
  lb : w.heap.size ≤ B
  bel : Below w.heap.size w w'
theorem Kw.turn {w w1 w2 : World} {B : Nat} {on on' : Nat → Bool} {tm tm' : Nat → Nat} (h : Kw w w1 B on tm) (k : Mt w1 w2 B on' tm') : Kw w w2 B on' tm' :=
  ⟨k.m, h.lb, h.bel.grown k.gr h.bel.size (fun j hj => by injection hj with hj; rw [← hj]; exact h.lb)⟩
theorem Kw.below {w w1 w2 : World} {B : Nat} {on : Nat → Bool} {tm : Nat → Nat} (h : Kw w w1 B on tm) (hb : Below w1.heap.size w1 w2) : Kw w w2 B on tm := ⟨h.m.below hb, h.lb, below_up h.bel hb⟩
theorem Kw.kept {w w1 w2 : World} {B C : Nat} {on : Nat → Bool} {tm : Nat → Nat} (h : Kw w w1 B on tm) (hg : w1.grownBy w2 (some C)) (hn : B ≠ C) (hc : w.heap.size ≤ C) : Kw w w2 B on tm :=
  ⟨h.m.kept hg (by simpa using hn), h.lb, h.bel.grown hg h.bel.size (fun j hj => by injection hj with hj; omega)⟩
def off0 : Nat → Bool := fun _ => false
def tm0 : Nat → Nat := fun _ => 0
theorem kw_new {w0 w : World} (hb : Below w0.heap.size w0 w) : Kw w0 (w.alloc (.cells zeroK 31)) w.heap.size off0 tm0 :=
  ⟨⟨_, _, ck_new w _ _, fun p hp => ⟨rfl, fun h => by cases h⟩⟩, hb.size, below_more hb _⟩
theorem wpList_bdK {ops : Array Oper} {rest : List Oper} {o : Oper} {a : Act} {w : World} {Q : Exit → Act → World → Prop} (hg : o.guard = none) (ho : o.op = .build 31 #[])
    (h : wpList Try.prog ops Q rest (a.put o.dst (.agg zeroK)) w) : wpList Try.prog ops Q (o :: rest) a w := by
  have hb : Try.prog.built 31 [] = some zeroK := by kernel_rfl
  have he : ((#[] : Array (Nat × Operand)).map fun (i, x) => (i, a.eval x)).toList = [] := by simp
  refine wpList_build hg 31 #[] ho ?_ ?_
  · rw [he, hb]; rfl
  · rw [he, hb]; exact h
def awOn : Nat → Bool := upd (upd off0 0 true) 3 true
def awTm : Nat → Nat := upd (upd tm0 0 5) 3 3
theorem aw_due : upL awOn awTm 5 = [⟨3, 3⟩, ⟨5, 0⟩] := by
  refine up_eq (by decide) ?_
  rw [show alL awOn awTm 5 18 = [⟨5, 0⟩, ⟨3, 3⟩] from by decide +kernel]
  exact List.Perm.swap _ _ _
theorem aw_none : upL (fun p => awOn p && !decide (awTm p ≤ 5)) awTm maxT = [] := up_nil (by decide +kernel)
set_option maxHeartbeats 1000000 in
theorem awake10_in (w : World) : Calls Try.prog 8 #[] w fun e w' => e = .returned (.bool true) ∧ Below w.heap.size w w' := by
  have K0 := Lib.hid (kw_new (Below.refl w.heap.size w))
  have H1 := Lib.hid (fun U (h : Mk U w.heap.size off0 tm0) => show Calls Try.prog 13 #[.pointer (some ⟨w.heap.size, 0, none⟩), .int .i64 0, .int .i64 0, .int .u64 5] U fun e w' => e = .returned (.int .i64 0) ∧ Mt U w' w.heap.size (upd off0 0 true) (upd tm0 0 5) from mset_yes h 0 0 (by omega) (by omega) 5 (by omega))
  have H2 := Lib.hid (fun U (h : Mk U w.heap.size (upd off0 0 true) (upd tm0 0 5)) => show Calls Try.prog 13 #[.pointer (some ⟨w.heap.size, 0, none⟩), .int .i64 1, .int .i64 0, .int .u64 3] U fun e w' => e = .returned (.int .i64 0) ∧ Mt U w' w.heap.size awOn awTm from mset_yes h 1 0 (by omega) (by omega) 3 (by omega))
  have H3 := Lib.hid (fun U (h : Mk U w.heap.size awOn awTm) => show Calls Try.prog 11 #[.pointer (some ⟨w.heap.size, 0, none⟩), .int .u64 5] U (Dt U w.heap.size awOn awTm 5) from due_in h 5)
  have H4 := Lib.hid (fun U (h : Mk U w.heap.size (fun p => awOn p && !decide (awTm p ≤ 5)) awTm) => all_in h)
  rw [aw_none] at H4
  go_enter Try.func8, Try.ntmps8
  go_wp2_with (refine wpList_bdK rfl rfl ?_)
  refine (H1.out _ (K0.out).m).mono ?_
  rintro e w1 ⟨rfl, h1⟩
  have K1 := Lib.hid ((K0.out).turn h1)
  clear h1 H1 K0
  go_wp2_with fail
  refine (H2.out _ (K1.out).m).mono ?_
  rintro e w2 ⟨rfl, h2⟩
  have K2 := Lib.hid ((K1.out).turn h2)
  clear h2 H2 K1
  go_wp2_with fail
  refine (H3.out _ (K2.out).m).mono ?_
  rintro e w3 ⟨v, rfl, l3, h3⟩
  have K3 := Lib.hid ((K2.out).turn h3)
  rw [aw_due] at l3
  obtain ⟨g, cap, rfl, _, _, c0, c1, c2⟩ := l3.at (i := 0) (x := ⟨3, 3⟩) rfl
  obtain ⟨g', cap', e1, _, _, d0, d1, d2⟩ := l3.at (i := 1) (x := ⟨5, 0⟩) rfl
  simp only [Value.slice.injEq, Option.some.injEq, Addr.mk.injEq, and_true, true_and] at e1
  obtain ⟨rfl, rfl⟩ := e1
  have c1' : w3.cell? ⟨g, 1, none⟩ = some (.int .i64 1) := c1
  have d1' : w3.cell? ⟨g, 4, none⟩ = some (.int .i64 0) := d1
  clear h3 H3 K2 l3 c0 c1 c2 d0 d1 d2
  go_wp2_with fail
  refine (H4.out _ (K3.out).m).mono ?_
  rintro e w4 ⟨v, rfl, l4, h4⟩
  have K4 := Lib.hid ((K3.out).below h4)
  obtain ⟨pp, cc, rfl⟩ := l4.len
  clear l4 h4 H4 K3 c1' d1'
  go_wp2
  go_ret
  exact ⟨rfl, (K4.out).bel⟩
theorem nil_core (vm seat : Int) (t : Nat) (w : World) : Calls Try.prog 5 #[.int .i64 vm, .int .i64 seat, .int .u64 t] w fun e w' => e = .returned (.bool true) ∧ Below w.heap.size w w' := by
  have H1 := Lib.hid (drop_nil vm seat w)
  have H2 := Lib.hid (dropVM_nil vm w)
  have H3 := Lib.hid (shift_nil t w)
  have H4 := Lib.hid (awake10_in w)
  have H5 := Lib.hid (fun U => set_nil vm seat t U)
  have H6 := Lib.hid (fun U => due_nil t U)
  have H7 := Lib.hid (fun U => all_nil U)
  have H8 := Lib.hid (fun U => twin_nil U)
  go_enter Try.func5, Try.ntmps5
  go_wp2_with fail
  refine (H1.out).mono ?_
  rintro e w1 ⟨rfl, rfl⟩
  go_wp2_with fail
  refine (H2.out).mono ?_
  rintro e w1 ⟨rfl, rfl⟩
  go_wp2_with fail
  refine (H3.out).mono ?_
  rintro e w1 ⟨rfl, rfl⟩
  go_wp2_with fail
  refine (H4.out).mono ?_
  rintro e w1 ⟨rfl, b1⟩
  have B1 := Lib.hid b1
  clear b1
  go_wp2_with fail
  refine (H5.out _).mono ?_
  rintro e w2 ⟨rfl, rfl⟩
  go_wp2_with fail
  refine (H6.out _).mono ?_
  rintro e w2 ⟨rfl, rfl⟩
  go_wp2_with fail
  refine (H7.out _).mono ?_
  rintro e w2 ⟨rfl, rfl⟩
  go_wp2_with fail
  refine (H8.out _).mono ?_
  rintro e w2 ⟨rfl, rfl⟩
  go_wp2
  go_ret
  exact ⟨rfl, B1.out⟩
end Go.Proofs.Ytfiahkjaeeoepaa
