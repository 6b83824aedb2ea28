/-
  A book of a law's own; the awake of layer 8's laws; OwnerNil's walk is in its own text.
-/
import Derived.Test.YtjidhmdphlmldaaOG
namespace Go.Proofs.Ytjidhmdphlmldaa
open Go.ChangeShapes Go.WideShapes Go.ChangeAt Go.RowKit
set_option maxRecDepth 100000

/-- A book that lies behind w. -/
structure Own (w w' : World) (B g cap k : Nat) (L : Nat → R4) : Prop where
  bk : Bk w' B g cap k L
  lb : w.heap.size ≤ B
  lg : w.heap.size ≤ g
  bel : Below w.heap.size w w'
theorem Own.turn {w w1 w2 : World} {B g cap k : Nat} {L M : Nat → R4} (h : Own w w1 B g cap k L) (t : Tn w1 w2 B g cap k M) : Own w w2 B g cap k M :=
  ⟨t.bk, h.lb, h.lg, h.bel.grown t.gr h.bel.size (fun j hj => by injection hj with hj; rw [← hj]; exact h.lg)⟩
theorem Own.below {w w1 w2 : World} {B g cap k : Nat} {L : Nat → R4} (h : Own w w1 B g cap k L) (hb : Below w1.heap.size w1 w2) : Own w w2 B g cap k L :=
  ⟨h.bk.below hb, h.lb, h.lg, below_up h.bel hb⟩
theorem Nw.own {w0 w w' : World} {k : Nat} {L : Nat → R4} {e : Ending} (hb : Below w0.heap.size w0 w) (h : Nw w k L e w') : ∃ B g cap, e = .returned (.pointer (some ⟨B, 0, none⟩)) ∧ Own w0 w' B g cap k L := by
  obtain ⟨B, g, cap, rfl, h1, h2, h3, h4⟩ := h
  have := hb.size
  exact ⟨B, g, cap, rfl, h1, by omega, by omega, below_up hb h4⟩
def law0 : Nat → R4 := fun _ => R4.zero
theorem Own.kept {w w1 w2 : World} {B g cap k b : Nat} {L : Nat → R4} (h : Own w w1 B g cap k L) (hg : w1.grownBy w2 (some b)) (h1 : B ≠ b) (h2 : g ≠ b) (hb : w.heap.size ≤ b) : Own w w2 B g cap k L :=
  ⟨h.bk.kept hg (by simpa using h1) (by simpa using h2), h.lb, h.lg, h.bel.grown hg h.bel.size (fun j hj => by injection hj with hj; omega)⟩
theorem cntR_zero (k : Nat) (n : Int) : cntR law0 0 n k = k := by
  induction k with
  | zero => rfl
  | succ k ih => rw [cntR_yes law0 0 n k rfl, ih]
theorem donE_ok {k : Nat} {L : Nat → R4} {f : Nat} {n p : Int} (hf : f < k) (h0 : (L f).k = 0) (n0 : 0 ≤ n) (n6 : n < 6) (p0 : 0 ≤ p) (p1 : p < 32) : donE k L f n p = 0 := by
  unfold donE handE
  rw [if_pos ⟨⟨n0, n6⟩, p0, p1⟩, if_pos ⟨by omega, by omega⟩, if_pos (by simpa using h0)]
theorem donE_used {k : Nat} {L : Nat → R4} {f : Nat} {n p : Int} (hf : f < k) (h0 : (L f).k ≠ 0) (n0 : 0 ≤ n) (n6 : n < 6) (p0 : 0 ≤ p) (p1 : p < 32) : donE k L f n p = 8 := by
  unfold donE handE
  rw [if_pos ⟨⟨n0, n6⟩, p0, p1⟩, if_pos ⟨by omega, by omega⟩, if_neg (by simpa using h0)]
theorem donate_yes {w : World} {B g cap k : Nat} {L : Nat → R4} (H : Bk w B g cap k L) (f : Nat) (hf : f < k) (h0 : (L f).k = 0) (n p : Int) (n0 : 0 ≤ n) (n6 : n < 6) (p0 : 0 ≤ p) (p1 : p < 32) :
    Calls Try.prog 27 #[.pointer (some ⟨B, 0, none⟩), .int .i64 f, .int .i64 n, .int .i64 p] w fun e w' => e = .returned (.int .i64 0) ∧ Tn w w' B g cap k (upd4 L f ⟨3, n, p, 0⟩) := by
  have h := donate_in H f n p
  rw [donE_ok hf h0 n0 n6 p0 p1, turned_ok] at h
  simpa using h
theorem donate_used {w : World} {B g cap k : Nat} {L : Nat → R4} (H : Bk w B g cap k L) (f : Nat) (hf : f < k) (h0 : (L f).k ≠ 0) (n p : Int) (n0 : 0 ≤ n) (n6 : n < 6) (p0 : 0 ≤ p) (p1 : p < 32) :
    Calls Try.prog 27 #[.pointer (some ⟨B, 0, none⟩), .int .i64 f, .int .i64 n, .int .i64 p] w fun e w' => e = .returned (.int .i64 8) ∧ Tn w w' B g cap k L := by
  have h := donate_in H f n p
  rw [donE_used hf h0 n0 n6 p0 p1, turned_err _ (by omega)] at h
  exact h
def aw1 : Nat → R4 := upd4 law0 3 ⟨3, 0, 7, 0⟩
def aw2 : Nat → R4 := upd4 aw1 3 ⟨3, 0, 7, 1⟩
set_option maxHeartbeats 1000000 in
theorem awake8_in (w : World) : Calls Try.prog 20 #[] w fun e w' => e = .returned (.bool true) ∧ Below w.heap.size w w' := by
  have HN := Lib.hid (show Calls Try.prog 21 #[.int .i64 5] w (Nw w 5 law0) from new_in 5 w)
  have HD := Lib.hid (fun W B g cap (H : Bk W B g cap 5 law0) => (show Calls Try.prog 27 #[.pointer (some ⟨B, 0, none⟩), .int .i64 3, .int .i64 0, .int .i64 7] W fun e w' => e = .returned (.int .i64 0) ∧ Tn W w' B g cap 5 aw1 from donate_yes H 3 (by omega) rfl 0 7 (by omega) (by omega) (by omega) (by omega)))
  have HS := Lib.hid (fun W B g cap (H : Bk W B g cap 5 aw1) => (show Calls Try.prog 23 #[.pointer (some ⟨B, 0, none⟩), .int .i64 3, .int .i64 0] W fun e w' => e = .returned (.int .i64 0) ∧ Tn W w' B g cap 5 aw2 from share_ok H 3 (by omega) 0 (by omega) (by omega) rfl rfl (by decide)))
  have HR := Lib.hid (fun W B g cap (H : Bk W B g cap 5 aw2) => (show Calls Try.prog 25 #[.pointer (some ⟨B, 0, none⟩), .int .i64 3, .int .i64 0] W fun e w' => e = .returned (.int .i64 8) ∧ Below W.heap.size W w' from reclaim_used H 3 (by omega) 0 (by omega) (by omega) rfl rfl (by decide)))
  have HC := Lib.hid (fun W B g cap (H : Bk W B g cap 5 aw2) => (show Calls Try.prog 29 #[.pointer (some ⟨B, 0, none⟩), .int .u8 3, .int .i64 0] W fun e w' => e = .returned (.int .i64 1) ∧ Below W.heap.size W w' from count_in H 3 0))
  go_enter Try.func20, Try.ntmps20
  go_wp2_with fail
  refine (HN.out).mono ?_
  intro e w1 h1
  obtain ⟨B, g, cap, rfl, q1⟩ := h1.own (Below.refl _ _)
  have O1 := Lib.hid q1
  clear h1 q1 HN
  go_wp2_with fail
  refine (HD.out _ _ _ _ (O1.out).bk).mono ?_
  rintro e w2 ⟨rfl, h2⟩
  have O2 := Lib.hid ((O1.out).turn h2)
  clear h2 O1 HD
  go_wp2_with fail
  refine (HS.out _ _ _ _ (O2.out).bk).mono ?_
  rintro e w3 ⟨rfl, h3⟩
  have O3 := Lib.hid ((O2.out).turn h3)
  clear h3 O2 HS
  go_wp2_with fail
  refine (HR.out _ _ _ _ (O3.out).bk).mono ?_
  rintro e w4 ⟨rfl, h4⟩
  have O4 := Lib.hid ((O3.out).below h4)
  clear h4 O3 HR
  go_wp2_with fail
  refine (HC.out _ _ _ _ (O4.out).bk).mono ?_
  rintro e w5 ⟨rfl, h5⟩
  have O5 := Lib.hid ((O4.out).below h5)
  clear h5 O4 HC
  go_wp2
  go_ret
  exact ⟨rfl, (O5.out).bel⟩
end Go.Proofs.Ytjidhmdphlmldaa
