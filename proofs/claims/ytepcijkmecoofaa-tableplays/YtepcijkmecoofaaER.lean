/-
  A table behind the law's own made: where it lies, and that its root leads where it should.
-/
import Derived.Test.YtepcijkmecoofaaEQ
namespace Go.Proofs.Ytepcijkmecoofaa
open Go.ChangeShapes Go.WideShapes Go.ChangeAt Go.RowKit
open WM EM
set_option maxRecDepth 100000

theorem md_root {w : World} {s h g cap form B : Nat} {F : Nat → Nat} (H : Md w s h g cap form F B) : Root w (some ⟨g, 0, none⟩) 5 3 := by
  obtain ⟨b, off, e, h1, h2⟩ := H.ints 0 (by omega)
  injection e with e
  injection e with e1 e2
  subst e1 e2
  exact ⟨g, 0, rfl, h1, h2, by omega, by omega⟩
theorem Md.below {w w' : World} {s h g cap form B : Nat} {F : Nat → Nat} (H : Md w s h g cap form F B) (hb : Below w.heap.size w w') : Md w' s h g cap form F B :=
  ⟨H.st.below hb, H.ints.below hb, H.ls, H.lh, H.lg, H.ne⟩
theorem Md.turned {w w' : World} {s h g cap form B : Nat} {F F' : Nat → Nat} (H : Md w s h g cap form F B) (hs : St w' s h 40 F') (hg : w.grownBy w' (some h)) : Md w' s h g cap form F' B :=
  ⟨hs, H.ints.kept hg (by intro b o e e2; injection e with e; injection e with e1; injection e2 with e2; have := H.ne; omega), H.ls, H.lh, H.lg, H.ne⟩
/-- The root leads where it should. -/
structure Roots (form : Nat) (F : Nat → Nat) : Prop where
  ok : ∀ i, i < 4 → wd F 3 i = pk form (4 + i) true
theorem roots_made (form : Nat) : Roots form (madeF form) := ⟨fun i hi => by rw [made_wd form 3 i (by omega), if_pos ⟨rfl, hi⟩]⟩
theorem Md.leads {w : World} {s h g cap form B : Nat} {F : Nat → Nat} (H : Md w s h g cap form F B) (hform : form = 1 ∨ form = 2) (hR : Roots form F) (page : Nat) (hp : page < 32) :
    ∀ W, Below w.heap.size w W → Calls Try.prog 21 #[.agg #[.int .i64 form, .slice (some ⟨g, 0, none⟩) 5 cap], .pointer (some ⟨s, 0, none⟩), .int .i64 page] W fun e w' => e = .returned (.tuple #[.int .i64 (4 + page / 8 : Nat), .int .i64 0]) ∧ Below W.heap.size W w' := by
  intro W hb
  have H' := H.below hb
  have hw := hR.ok (page / 8) (by omega)
  have h := below_ok H'.st form hform (some ⟨g, 0, none⟩) 5 cap 3 (md_root H') (by omega) page hp (by rw [hw]; exact isT_pk _ _ _ (by omega)) (by rw [hw, fr_pk _ _ _ (by omega)]; omega)
  rw [hw, fr_pk _ _ _ (by omega)] at h
  exact h
end Go.Proofs.Ytepcijkmecoofaa
