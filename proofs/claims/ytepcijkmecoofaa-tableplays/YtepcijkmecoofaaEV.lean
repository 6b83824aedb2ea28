/-
  TablePlays: what stands in its loops.
-/
import Derived.Test.YtepcijkmecoofaaET
namespace Go.Proofs.Ytepcijkmecoofaa
open Go.ChangeShapes Go.WideShapes Go.ChangeAt Go.RowKit
open WM EM
set_option maxRecDepth 100000

theorem L4.kept {w w' : World} {B : Nat} {a b c d : Value} {row : Option Nat} (h : L4 w B a b c d) (hg : w.grownBy w' row) (hr : some B ≠ row) : L4 w' B a b c d :=
  have hb := hg.block B h.lt hr
  ⟨(World.cell?_of_block (a := ⟨B, 0, none⟩) hb).trans h.k0, (World.cell?_of_block (a := ⟨B, 1, none⟩) hb).trans h.k1, (World.cell?_of_block (a := ⟨B, 2, none⟩) hb).trans h.k2, (World.cell?_of_block (a := ⟨B, 3, none⟩) hb).trans h.k3, Nat.lt_of_lt_of_le h.lt hg.size, fun i => (World.frozen?_of_block (a := ⟨B, i, none⟩) hb).trans (h.fz i)⟩
/-- Where all lies: the store s (its bytes h), the table's frames g, the table's variable D, the list M. -/
structure Wh (w : World) (s h g D M B : Nat) : Prop where
  sD : s < D
  hD : h < D
  gD : g < D
  DM : D < M
  wB : w.heap.size ≤ B
  BD : B ≤ D
structure PI (w wr : World) (s h g cp fm D M B : Nat) (T : Nat → Bool) (f : Nat → Nat) (R : Nat → Bool) : Prop where
  md : ∃ F, Md wr s h g cp fm F B ∧ Pg fm F T f R
  tb : L2 wr D (.int .i64 fm) (.slice (some ⟨g, 0, none⟩) 5 cp)
  ar : Ar wr M T f R
  bel : Below w.heap.size w wr
theorem PI.below {w wr w' : World} {s h g cp fm D M B : Nat} {T : Nat → Bool} {f : Nat → Nat} {R : Nat → Bool} (H : PI w wr s h g cp fm D M B T f R) (hb : Below wr.heap.size wr w') : PI w w' s h g cp fm D M B T f R := by
  obtain ⟨F, h1, h2⟩ := H.md
  exact ⟨⟨F, h1.below hb, h2⟩, H.tb.later hb, H.ar.below hb, below_up H.bel hb⟩
/-- The table has turned, and then the list. -/
theorem PI.turn {w wr w' : World} {s h g cp fm D M B : Nat} {T T' : Nat → Bool} {f f' : Nat → Nat} {R R' : Nat → Bool} (H : PI w wr s h g cp fm D M B T f R) (hw : Wh w s h g D M B) (p : Nat) (hp : p < 32) (t : Bool) (fv : Nat) (rw_ : Bool)
    (hT : T' = updN T p t) (hf : f' = updN f p fv) (hR : R' = updN R p rw_) (hn : ∃ F', Md w' s h g cp fm F' B ∧ Pg fm F' T' f' R') (hg : wr.grownBy w' (some h)) :
    PI w (put3 w' M p t fv rw_) s h g cp fm D M B T' f' R' := by
  subst hT hf hR
  obtain ⟨F', h1, h2⟩ := hn
  have hM := H.ar.lt
  obtain ⟨a1, a2, a3, a4, a5, a6⟩ := hw
  have e : (some M : Option Nat) ≠ some h := fun e => by injection e with e; omega
  have har := (H.ar.kept hg e).put p hp t fv rw_
  have gp := put3_grown w' M p t fv rw_
  have htb := H.tb.kept hg (fun e => by injection e with e; omega)
  refine ⟨⟨F', ⟨h1.st.kept gp (fun e => by injection e with e; omega) (fun e => by injection e with e; omega), h1.ints.kept gp (fun b o e e2 => by injection e with e; injection e with e; injection e2 with e2; omega), h1.ls, h1.lh, h1.lg, h1.ne⟩, h2⟩,
    htb.kept gp (fun e => by injection e with e; omega), har, ?_⟩
  have b1 := H.bel.grown hg H.bel.size (fun j hj => by injection hj with hj; have := h1.lh; omega)
  exact b1.grown gp b1.size (fun j hj => by injection hj with hj; omega)
/-- Map of what isn't right: ErrArg. -/
theorem map_err {w : World} {s h g cap fm B : Nat} {F : Nat → Nat} (H : Md w s h g cap fm F B) (page frame : Int) (wr : Bool) (hn : ¬ (0 ≤ page ∧ page < 32 ∧ 0 ≤ frame ∧ frame < 40)) :
    Calls Try.prog 10 #[.agg #[.int .i64 fm, .slice (some ⟨g, 0, none⟩) 5 cap], .pointer (some ⟨s, 0, none⟩), .int .i64 page, .int .i64 frame, .bool wr] w fun e w' => e = .returned (.int .i64 1) ∧ Below w.heap.size w w' := by
  by_cases hf : 0 ≤ frame ∧ frame < 40
  · exact map_page H.st fm _ 5 cap page frame wr (by simpa using hf) (fun _ _ => below_page fm _ 5 cap _ page (fun hp => hn ⟨hp.1, hp.2, hf.1, hf.2⟩))
  · exact map_frame H.st fm _ 5 cap page frame wr (by simpa using hf)
theorem unmap_err {w : World} {s h g cap fm B : Nat} {F : Nat → Nat} (_ : Md w s h g cap fm F B) (page : Int) (hn : ¬ (0 ≤ page ∧ page < 32)) :
    Calls Try.prog 9 #[.agg #[.int .i64 fm, .slice (some ⟨g, 0, none⟩) 5 cap], .pointer (some ⟨s, 0, none⟩), .int .i64 page] w fun e w' => e = .returned (.int .i64 1) ∧ Below w.heap.size w w' :=
  unmap_page fm _ 5 cap _ page (fun _ _ => below_page fm _ 5 cap _ page hn)
end Go.Proofs.Ytepcijkmecoofaa
