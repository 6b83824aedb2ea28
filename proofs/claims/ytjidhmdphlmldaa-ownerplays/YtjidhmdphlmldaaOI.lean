/-
  OwnerPlays' ground: what stands in its loops; the calls' contracts at a frame that there is, and at one that there isn't.
-/
import Derived.Test.YtjidhmdphlmldaaOH
namespace Go.Proofs.Ytjidhmdphlmldaa
open Go.ChangeShapes Go.WideShapes Go.ChangeAt Go.RowKit
set_option maxRecDepth 100000

/-- The book, and the list beside it. -/
structure PI (w wr : World) (B g cap h k : Nat) (i : Int) (M L : Nat → R4) : Prop where
  own : Own w wr B g cap k M
  row : RW wr h k L
  lh : w.heap.size ≤ h
  ng : h ≠ g
  nB : h ≠ B
  inv : ∀ p, p < k → 0 ≤ (M p).sh ∧ (M p).sh ≤ i ∧ ((M p).k = 3 → 0 ≤ (M p).vm ∧ (M p).vm < 6)
theorem PI.below {w w1 w2 : World} {B g cap h k : Nat} {i : Int} {M L : Nat → R4} (H : PI w w1 B g cap h k i M L) (hb : Below w1.heap.size w1 w2) : PI w w2 B g cap h k i M L :=
  ⟨H.own.below hb, H.row.below hb, H.lh, H.ng, H.nB, H.inv⟩
theorem PI.turn {w w1 w2 : World} {B g cap h k : Nat} {i : Int} {M N L : Nat → R4} (H : PI w w1 B g cap h k i M L) (t : Tn w1 w2 B g cap k N) (hi : ∀ p, p < k → 0 ≤ (N p).sh ∧ (N p).sh ≤ i + 1 ∧ ((N p).k = 3 → 0 ≤ (N p).vm ∧ (N p).vm < 6)) : PI w w2 B g cap h k (i + 1) N L :=
  ⟨H.own.turn t, H.row.kept t.gr (by simpa using H.ng), H.lh, H.ng, H.nB, hi⟩
theorem PI.turn0 {w w1 w2 : World} {B g cap h k : Nat} {i : Int} {M L : Nat → R4} (H : PI w w1 B g cap h k i M L) (t : Tn w1 w2 B g cap k M) : PI w w2 B g cap h k i M L :=
  ⟨H.own.turn t, H.row.kept t.gr (by simpa using H.ng), H.lh, H.ng, H.nB, H.inv⟩
theorem PI.later {w w1 : World} {B g cap h k : Nat} {i j : Int} {M L : Nat → R4} (H : PI w w1 B g cap h k i M L) (hij : i ≤ j) : PI w w1 B g cap h k j M L :=
  ⟨H.own, H.row, H.lh, H.ng, H.nB, fun p hp => by obtain ⟨a, b, c⟩ := H.inv p hp; exact ⟨a, by omega, c⟩⟩
theorem PI.list {w w1 : World} {B g cap h k : Nat} {i : Int} {M L : Nat → R4} (H : PI w w1 B g cap h k i M L) (p : Nat) (hp : p < k) (r : R4) : PI w (put4 w1 h p r) B g cap h k i M (upd4 L p r) :=
  ⟨H.own.kept (put4_grown w1 h p r) (Ne.symm H.nB) (Ne.symm H.ng) H.lh, H.row.put p hp r, H.lh, H.ng, H.nB, H.inv⟩
theorem PI.inv_upd {w w1 : World} {B g cap h k : Nat} {i : Int} {M L : Nat → R4} (H : PI w w1 B g cap h k i M L) (p : Nat) (r : R4) (hr : 0 ≤ r.sh ∧ r.sh ≤ i + 1 ∧ (r.k = 3 → 0 ≤ r.vm ∧ r.vm < 6)) :
    ∀ q, q < k → 0 ≤ (upd4 M p r q).sh ∧ (upd4 M p r q).sh ≤ i + 1 ∧ ((upd4 M p r q).k = 3 → 0 ≤ (upd4 M p r q).vm ∧ (upd4 M p r q).vm < 6) := fun q hq => by
  by_cases e : q = p
  · subst e; rw [upd4_same]; exact hr
  · rw [upd4_other _ _ _ _ e]; obtain ⟨a, b, c⟩ := H.inv q hq; exact ⟨a, by omega, c⟩
/-- Behind an act that is done. -/
theorem PI.act {w w1 w2 : World} {B g cap h k : Nat} {i : Int} {M L : Nat → R4} (H : PI w w1 B g cap h k i M L) {p : Nat} {r : R4} (t : Tn w1 w2 B g cap k (upd4 M p r)) (hr : 0 ≤ r.sh ∧ r.sh ≤ i + 1 ∧ (r.k = 3 → 0 ≤ r.vm ∧ r.vm < 6)) :
    PI w w2 B g cap h k (i + 1) (upd4 M p r) L := H.turn t (H.inv_upd p r hr)
/-- A small block of four cells is written anew. -/
def set4w (w : World) (Z : Nat) (r : R4) : World := (((w.setCell ⟨Z, 0, none⟩ (.int .u8 (r.k : Nat))).setCell ⟨Z, 1, none⟩ (.int .i64 r.vm)).setCell ⟨Z, 2, none⟩ (.int .i64 r.pg)).setCell ⟨Z, 3, none⟩ (.int .i64 r.sh)
theorem set4w_grown (w : World) (Z : Nat) (r : R4) : w.grownBy (set4w w Z r) (some Z) :=
  grown_trans (grown_trans (grown_trans (grown_setCell w ⟨Z, 0, none⟩ _) (grown_setCell _ ⟨Z, 1, none⟩ _)) (grown_setCell _ ⟨Z, 2, none⟩ _)) (grown_setCell _ ⟨Z, 3, none⟩ _)
def R4.at (r : R4) (w : World) (Z : Nat) : Prop := L4 w Z (.int .u8 (r.k : Nat)) (.int .i64 r.vm) (.int .i64 r.pg) (.int .i64 r.sh)
theorem at_set {w : World} {Z : Nat} {a b c d : Value} (h : L4 w Z a b c d) (r : R4) : r.at (set4w w Z r) Z := by
  obtain ⟨r0, r1, r2, r3⟩ := set4 w Z (.int .u8 (r.k : Nat)) (.int .i64 r.vm) (.int .i64 r.pg) (.int .i64 r.sh) (by rw [h.k0]; rfl) (by rw [h.k1]; rfl) (by rw [h.k2]; rfl) (by rw [h.k3]; rfl) _ rfl
  refine ⟨r0, r1, r2, r3, Nat.lt_of_lt_of_le h.lt (set4w_grown w Z r).size, fun i => ?_⟩
  have := h.fz i
  unfold set4w
  simpa using this
theorem PI.kept {w w1 w2 : World} {B g cap h k b : Nat} {i : Int} {M L : Nat → R4} (H : PI w w1 B g cap h k i M L) (hg : w1.grownBy w2 (some b)) (h1 : B ≠ b) (h2 : g ≠ b) (h3 : h ≠ b) (hb : w.heap.size ≤ b) : PI w w2 B g cap h k i M L :=
  ⟨H.own.kept hg h1 h2 hb, H.row.kept hg (by simpa using h3), H.lh, H.ng, H.nB, H.inv⟩
theorem PI.put {w w1 : World} {B g cap h k Z : Nat} {i : Int} {M L : Nat → R4} (H : PI w w1 B g cap h k i M L) (r : R4) (hB : B < Z) (hg : g < Z) (hh : h < Z) (hw : w.heap.size ≤ Z) : PI w (set4w w1 Z r) B g cap h k i M L :=
  H.kept (set4w_grown w1 Z r) (by omega) (by omega) (by omega) hw
theorem at_set3 {w : World} {Z : Nat} {r : R4} (h : r.at w Z) (v : Int) : (R4.mk r.k r.vm r.pg v).at (w.setCell ⟨Z, 3, none⟩ (.int .i64 v)) Z :=
  ⟨(set_other' _ _ _ _ _ (by omega)).trans h.k0, (set_other' _ _ _ _ _ (by omega)).trans h.k1, (set_other' _ _ _ _ _ (by omega)).trans h.k2, set_same' _ _ _ _ (by rw [h.k3]; rfl), Nat.lt_of_lt_of_le h.lt (grown_setCell w ⟨Z, 3, none⟩ _).size, fun i => by have := h.fz i; simpa using this⟩
theorem PI.put3 {w w1 : World} {B g cap h k Z : Nat} {i : Int} {M L : Nat → R4} (H : PI w w1 B g cap h k i M L) (v : Value) (hB : B < Z) (hg : g < Z) (hh : h < Z) (hw : w.heap.size ≤ Z) : PI w (w1.setCell ⟨Z, 3, none⟩ v) B g cap h k i M L :=
  H.kept (b := Z) (grown_setCell w1 ⟨Z, 3, none⟩ v) (by omega) (by omega) (by omega) hw
theorem keepR_neg {n : Int} (h : n < 0) : keepR n = ⟨1, 0, 0, 0⟩ := if_pos h
theorem keepR_pos {n : Int} (h : 0 ≤ n) : keepR n = ⟨2, n, 0, 0⟩ := if_neg (by omega)
theorem keep_used {w : World} {B g cap k : Nat} {L : Nat → R4} (H : Bk w B g cap k L) (f : Nat) (hf : f < k) (h0 : (L f).k ≠ 0) (n : Int) (n6 : n < 6) :
    Calls Try.prog 22 #[.pointer (some ⟨B, 0, none⟩), .int .i64 f, .int .i64 n] w fun e w' => e = .returned (.int .i64 8) ∧ Tn w w' B g cap k L := by
  have h := keep_in H f n
  rw [show keepE k L f n = 8 by unfold keepE handE; rw [if_pos n6, if_pos ⟨by omega, by omega⟩, if_neg (by simpa using h0)], turned_err _ (by omega)] at h
  exact h
theorem keep_yes {w : World} {B g cap k : Nat} {L : Nat → R4} (H : Bk w B g cap k L) (f : Nat) (hf : f < k) (h0 : (L f).k = 0) (n : Int) (n6 : n < 6) :
    Calls Try.prog 22 #[.pointer (some ⟨B, 0, none⟩), .int .i64 f, .int .i64 n] w fun e w' => e = .returned (.int .i64 0) ∧ Tn w w' B g cap k (upd4 L f (keepR n)) := by
  have h := keep_in H f n
  rw [show keepE k L f n = 0 by unfold keepE handE; rw [if_pos n6, if_pos ⟨by omega, by omega⟩, if_pos (by simpa using h0)], turned_ok] at h
  simpa using h
/-- Behind the switch. -/
def SwR (w wx : World) (B g cap h k : Nat) (t : Int) (L : Nat → R4) (hb : Bool) (f : Int) (X Z : Nat) (a b c d e v : Value) : Prop :=
  ∃ (err wnt : Int) (nx : R4) (M : Nat → R4), e = .int .i64 err ∧ v = .int .i64 wnt ∧ (hb = true → err = wnt) ∧ (hb = false → err = 1) ∧ nx.at wx Z ∧ L4 wx X a b c d ∧ PI w wx B g cap h k (t + 1) M L ∧ (err = 0 ∧ hb = true ∧ M = upd4 L f.toNat nx ∨ err ≠ 0 ∧ M = L)
theorem SwR.no {w wx : World} {B g cap h k : Nat} {t : Int} {L : Nat → R4} {f : Int} {X Z : Nat} {a b c d : Value} (wnt : Int) (nx : R4) (h1 : nx.at wx Z) (h2 : L4 wx X a b c d) (h3 : PI w wx B g cap h k t L L) :
    SwR w wx B g cap h k t L false f X Z a b c d (.int .i64 1) (.int .i64 wnt) := ⟨1, wnt, nx, L, rfl, rfl, (fun h => by cases h), fun _ => rfl, h1, h2, h3.later (by omega), .inr ⟨by omega, rfl⟩⟩
theorem SwR.err {w wx : World} {B g cap h k : Nat} {t : Int} {L : Nat → R4} {f : Int} {X Z : Nat} {a b c d : Value} (err : Int) (he : err ≠ 0) (nx : R4) (h1 : nx.at wx Z) (h2 : L4 wx X a b c d) (h3 : PI w wx B g cap h k t L L) :
    SwR w wx B g cap h k t L true f X Z a b c d (.int .i64 err) (.int .i64 err) := ⟨err, err, nx, L, rfl, rfl, fun _ => rfl, (fun h => by cases h), h1, h2, h3.later (by omega), .inr ⟨he, rfl⟩⟩
theorem SwR.done {w wx : World} {B g cap h k : Nat} {t : Int} {L : Nat → R4} {f : Nat} {X Z : Nat} {a b c d : Value} (nx : R4) (h1 : nx.at wx Z) (h2 : L4 wx X a b c d) (h3 : PI w wx B g cap h k (t + 1) (upd4 L f nx) L) :
    SwR w wx B g cap h k t L true (f : Int) X Z a b c d (.int .i64 0) (.int .i64 0) := ⟨0, 0, nx, _, rfl, rfl, fun _ => rfl, (fun h => by cases h), h1, h2, h3, .inl ⟨rfl, rfl, rfl⟩⟩
/-- What stands behind a call that turns a row of the book, or none; and behind next's new value. -/
theorem L4.set {w : World} {X Z : Nat} {a b c d : Value} (h : L4 w X a b c d) (r : R4) (hn : X ≠ Z) : L4 (set4w w Z r) X a b c d := h.kept (set4w_grown w Z r) (by simpa using hn)
theorem L4.set3 {w : World} {X Z : Nat} {a b c d : Value} (h : L4 w X a b c d) (v : Value) (hn : X ≠ Z) : L4 (w.setCell ⟨Z, 3, none⟩ v) X a b c d := h.kept (grown_setCell w ⟨Z, 3, none⟩ v) (by simpa using hn)
end Go.Proofs.Ytjidhmdphlmldaa
