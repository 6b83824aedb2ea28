/-
  A table in a store against a plain list of where pages are: what a page's word says, what Map, Unmap and Walk come to.
-/
import Derived.Test.YtepcijkmecoofaaEA
namespace Go.Proofs.Ytepcijkmecoofaa
open Go.ChangeShapes Go.WideShapes Go.ChangeAt Go.RowKit
open WM EM
set_option maxRecDepth 100000

def updN {α : Type} (f : Nat → α) (p : Nat) (v : α) : Nat → α := fun i => if i = p then v else f i
theorem updN_same {α : Type} (f : Nat → α) (p : Nat) (v : α) : updN f p v p = v := if_pos rfl
theorem updN_other {α : Type} (f : Nat → α) (p : Nat) (v : α) (i : Nat) (h : i ≠ p) : updN f p v i = f i := if_neg h
/-- The store's words are those of the list: T p: is page p there, f p: its frame, R p: may it be written. -/
structure Pg (fm : Nat) (F : Nat → Nat) (T : Nat → Bool) (f : Nat → Nat) (R : Nat → Bool) : Prop where
  root : Roots fm F
  wds : ∀ p, p < 32 → wd F (4 + p / 8) (p % 8) = if T p then pk fm (f p) (R p) else 0
  lt : ∀ p, f p < 40
  z : ∀ p, T p = false → f p = 0 ∧ R p = false
theorem pg_made (fm : Nat) : Pg fm (madeF fm) (fun _ => false) (fun _ => 0) (fun _ => false) :=
  ⟨roots_made fm, fun p hp => by rw [made_wd fm _ _ (by omega), if_neg (by omega)]; rfl, fun _ => (by decide : (0 : Nat) < 40), fun _ _ => ⟨rfl, rfl⟩⟩
theorem Pg.put {fm : Nat} {F : Nat → Nat} {T : Nat → Bool} {f : Nat → Nat} {R : Nat → Bool} (H : Pg fm F T f R) (p : Nat) (hp : p < 32) (t : Bool) (fv : Nat) (wr : Bool) (x : Nat) (hx : x = if t then pk fm fv wr else 0) (hf : fv < 40) (hz : t = false → fv = 0 ∧ wr = false) :
    Pg fm (putF F ((4 + p / 8) * 256 + p % 8 * 8) 8 (byteN x)) (updN T p t) (updN f p fv) (updN R p wr) := by
  have hx64 : x < 18446744073709551616 := by
    have := pk_lt fm fv wr (by omega)
    rw [hx]; split <;> omega
  refine ⟨⟨fun i hi => ?_⟩, fun q hq => ?_, fun q => ?_, fun q hq => ?_⟩
  · rw [wd_other F (4 + p / 8) (p % 8) 3 i x (by omega) (by omega) (by omega)]
    exact H.root.ok i hi
  · by_cases e : q = p
    · subst e
      rw [wd_same F _ _ x hx64, updN_same, updN_same, updN_same, hx]
    · rw [wd_other F (4 + p / 8) (p % 8) _ _ x (by omega) (by omega) (by omega), updN_other _ _ _ _ e, updN_other _ _ _ _ e, updN_other _ _ _ _ e]
      exact H.wds q hq
  · unfold updN; split
    · exact hf
    · exact H.lt q
  · by_cases e : q = p
    · subst e
      rw [updN_same] at hq ⊢
      rw [updN_same]
      exact hz hq
    · rw [updN_other _ _ _ _ e] at hq ⊢
      rw [updN_other _ _ _ _ e]
      exact H.z q hq
/-- The error that stands beside a page's entry. -/
def werr (t : Bool) : Int := if t then 0 else 11
theorem walk_pg {w : World} {s h g cap fm B : Nat} {F : Nat → Nat} (H : Md w s h g cap fm F B) (hform : fm = 1 ∨ fm = 2) {T : Nat → Bool} {f : Nat → Nat} {R : Nat → Bool} (P : Pg fm F T f R) (p : Nat) (hp : p < 32) :
    Calls Try.prog 11 #[.agg #[.int .i64 fm, .slice (some ⟨g, 0, none⟩) 5 cap], .pointer (some ⟨s, 0, none⟩), .int .i64 p] w fun e w' => e = .returned (.tuple #[.agg #[.bool (T p), .int .i64 (f p : Nat), .bool (R p)], .int .i64 (werr (T p))]) ∧ Below w.heap.size w w' := by
  refine walk_way s fm (some ⟨g, 0, none⟩) 5 cap p hp (4 + p / 8) (T p) (f p : Nat) (R p) (werr (T p)) (H.leads hform P.root p hp) (fun W hb => ?_)
  have hs := H.st.below hb
  have hw := P.wds p hp
  cases ht : T p
  · obtain ⟨z1, z2⟩ := P.z p ht
    rw [ht] at hw
    have h0 := tload_no hs fm hform (some ⟨g, 0, none⟩) 5 cap (4 + p / 8) (p % 8) (by omega) (by omega) (by rw [hw]; exact isT_zero fm)
    rw [z1, z2]; exact h0
  · rw [ht, if_pos rfl] at hw
    have h0 := tload_yes hs fm hform (some ⟨g, 0, none⟩) 5 cap (4 + p / 8) (p % 8) (by omega) (by omega) (by rw [hw]; exact isT_pk _ _ _ (by have := P.lt p; omega))
    rw [hw, fr_pk _ _ _ (by have := P.lt p; omega), wr_pk _ _ _ (by have := P.lt p; omega)] at h0
    exact h0
theorem map_pg {w : World} {s h g cap fm B : Nat} {F : Nat → Nat} (H : Md w s h g cap fm F B) (hform : fm = 1 ∨ fm = 2) {T : Nat → Bool} {f : Nat → Nat} {R : Nat → Bool} (P : Pg fm F T f R) (p : Nat) (hp : p < 32) (fv : Nat) (hf : fv < 40) (wr : Bool) :
    Calls Try.prog 10 #[.agg #[.int .i64 fm, .slice (some ⟨g, 0, none⟩) 5 cap], .pointer (some ⟨s, 0, none⟩), .int .i64 p, .int .i64 fv, .bool wr] w fun e w' =>
      e = .returned (.int .i64 0) ∧ ∃ F', Md w' s h g cap fm F' B ∧ Pg fm F' (updN T p true) (updN f p fv) (updN R p wr) ∧ w.grownBy w' (some h) := by
  refine (map_way H.st fm (some ⟨g, 0, none⟩) 5 cap p hp fv wr (4 + p / 8) (pk fm fv wr) (by omega) hf (H.leads hform P.root p hp) (fun W => pack_in fm fv wr W hform (by omega))).mono fun e w' hx => ?_
  obtain ⟨he, hs, hg⟩ := hx
  exact ⟨he, _, H.turned hs hg, P.put p hp true fv wr _ rfl hf (fun e => by cases e), hg⟩
theorem unmap_pg {w : World} {s h g cap fm B : Nat} {F : Nat → Nat} (H : Md w s h g cap fm F B) (hform : fm = 1 ∨ fm = 2) {T : Nat → Bool} {f : Nat → Nat} {R : Nat → Bool} (P : Pg fm F T f R) (p : Nat) (hp : p < 32) :
    Calls Try.prog 9 #[.agg #[.int .i64 fm, .slice (some ⟨g, 0, none⟩) 5 cap], .pointer (some ⟨s, 0, none⟩), .int .i64 p] w fun e w' =>
      e = .returned (.int .i64 0) ∧ ∃ F', Md w' s h g cap fm F' B ∧ Pg fm F' (updN T p false) (updN f p 0) (updN R p false) ∧ w.grownBy w' (some h) := by
  refine (unmap_way H.st fm hform (some ⟨g, 0, none⟩) 5 cap p hp (4 + p / 8) (by omega) (H.leads hform P.root p hp)).mono fun e w' hx => ?_
  obtain ⟨he, hs, hg⟩ := hx
  exact ⟨he, _, H.turned hs hg, P.put p hp false 0 false 0 rfl (by omega) (fun _ => ⟨rfl, rfl⟩), hg⟩

/-! ### a list of 32 entries in a block of 96 cells -/
structure Ar (w : World) (B : Nat) (T : Nat → Bool) (f : Nat → Nat) (R : Nat → Bool) : Prop where
  lt : B < w.heap.size
  fz : ∀ i, w.frozen? ⟨B, i, none⟩ = false
  c0 : ∀ p, p < 32 → w.cell? ⟨B, p * 3, none⟩ = some (.bool (T p))
  c1 : ∀ p, p < 32 → w.cell? ⟨B, p * 3 + 1, none⟩ = some (.int .i64 (f p : Nat))
  c2 : ∀ p, p < 32 → w.cell? ⟨B, p * 3 + 2, none⟩ = some (.bool (R p))
theorem Ar.kept {w w' : World} {B : Nat} {T : Nat → Bool} {f : Nat → Nat} {R : Nat → Bool} {row : Option Nat} (H : Ar w B T f R) (hg : w.grownBy w' row) (hr : some B ≠ row) : Ar w' B T f R :=
  have hb := hg.block B H.lt hr
  ⟨Nat.lt_of_lt_of_le H.lt hg.size, fun i => (World.frozen?_of_block (a := ⟨B, i, none⟩) hb).trans (H.fz i), fun p hp => (World.cell?_of_block (a := ⟨B, p * 3, none⟩) hb).trans (H.c0 p hp),
    fun p hp => (World.cell?_of_block (a := ⟨B, p * 3 + 1, none⟩) hb).trans (H.c1 p hp), fun p hp => (World.cell?_of_block (a := ⟨B, p * 3 + 2, none⟩) hb).trans (H.c2 p hp)⟩
theorem Ar.below {w w' : World} {B : Nat} {T : Nat → Bool} {f : Nat → Nat} {R : Nat → Bool} (H : Ar w B T f R) (hb : Below w.heap.size w w') : Ar w' B T f R := H.kept (grown_of_below hb) (by simp)
/-- An entry is written. -/
def put3 (w : World) (B p : Nat) (t : Bool) (fv : Nat) (wr : Bool) : World :=
  ((w.setCell ⟨B, p * 3, none⟩ (.bool t)).setCell ⟨B, p * 3 + 1, none⟩ (.int .i64 fv)).setCell ⟨B, p * 3 + 2, none⟩ (.bool wr)
theorem put3_grown (w : World) (B p : Nat) (t : Bool) (fv : Nat) (wr : Bool) : w.grownBy (put3 w B p t fv wr) (some B) :=
  ((grown_setCell w ⟨B, p * 3, none⟩ _).trans (grown_setCell _ ⟨B, p * 3 + 1, none⟩ _)).trans (grown_setCell _ ⟨B, p * 3 + 2, none⟩ _)
theorem Ar.put {w : World} {B : Nat} {T : Nat → Bool} {f : Nat → Nat} {R : Nat → Bool} (H : Ar w B T f R) (p : Nat) (hp : p < 32) (t : Bool) (fv : Nat) (wr : Bool) : Ar (put3 w B p t fv wr) B (updN T p t) (updN f p fv) (updN R p wr) := by
  have e0 : (w.cell? ⟨B, p * 3, none⟩).isSome = true := by rw [H.c0 p hp]; rfl
  have e1 : ((w.setCell ⟨B, p * 3, none⟩ (.bool t)).cell? ⟨B, p * 3 + 1, none⟩).isSome = true := by rw [set_other' _ _ _ _ _ (by omega), H.c1 p hp]; rfl
  have e2 : (((w.setCell ⟨B, p * 3, none⟩ (.bool t)).setCell ⟨B, p * 3 + 1, none⟩ (.int .i64 fv)).cell? ⟨B, p * 3 + 2, none⟩).isSome = true := by rw [set_other' _ _ _ _ _ (by omega), set_other' _ _ _ _ _ (by omega), H.c2 p hp]; rfl
  have far : ∀ j, j ≠ p * 3 → j ≠ p * 3 + 1 → j ≠ p * 3 + 2 → (put3 w B p t fv wr).cell? ⟨B, j, none⟩ = w.cell? ⟨B, j, none⟩ := fun j h0 h1 h2 => by
    unfold put3; rw [set_other' _ _ _ _ _ (by omega), set_other' _ _ _ _ _ (by omega), set_other' _ _ _ _ _ (by omega)]
  have fz : ∀ (U : World) (a : Addr) (v : Value) (i : Nat), (U.setCell a v).frozen? ⟨B, i, none⟩ = U.frozen? ⟨B, i, none⟩ := fun U a v i => by simp
  refine ⟨Nat.lt_of_lt_of_le H.lt (put3_grown w B p t fv wr).size, fun i => ?_, fun q hq => ?_, fun q hq => ?_, fun q hq => ?_⟩
  · unfold put3; rw [fz, fz, fz]; exact H.fz i
  · by_cases e : q = p
    · subst e
      unfold put3
      rw [set_other' _ _ _ _ _ (by omega), set_other' _ _ _ _ _ (by omega), set_same' _ _ _ _ e0, updN_same]
    · rw [far _ (by omega) (by omega) (by omega), H.c0 q hq, updN_other _ _ _ _ e]
  · by_cases e : q = p
    · subst e
      unfold put3
      rw [set_other' _ _ _ _ _ (by omega), set_same' _ _ _ _ e1, updN_same]
    · rw [far _ (by omega) (by omega) (by omega), H.c1 q hq, updN_other _ _ _ _ e]
  · by_cases e : q = p
    · subst e
      unfold put3
      rw [set_same' _ _ _ _ e2, updN_same]
    · rw [far _ (by omega) (by omega) (by omega), H.c2 q hq, updN_other _ _ _ _ e]
/-! ### the list at its start -/
def zero96 : Array Value := ((List.range 96).map fun i => if i % 3 = 1 then Value.int .i64 0 else Value.bool false).toArray
theorem zero96_run (W : World) : (zeroValue 32).run Try.prog W = .ok (.agg zero96) W := by kernel_rfl
theorem zero96_at (i : Nat) (h : i < 96) : zero96[i]? = some (if i % 3 = 1 then Value.int .i64 0 else Value.bool false) := by simp [zero96, h]
theorem ar_new (w : World) (t : TypeId) : Ar (w.alloc (.cells zero96 t)) w.heap.size (fun _ => false) (fun _ => 0) (fun _ => false) := by
  refine ⟨by simp, fun i => by simp, fun p hp => ?_, fun p hp => ?_, fun p hp => ?_⟩
  · rw [World.cell?_alloc_new, zero96_at _ (by omega), if_neg (by omega)]
  · rw [World.cell?_alloc_new, zero96_at _ (by omega), if_pos (by omega)]; rfl
  · rw [World.cell?_alloc_new, zero96_at _ (by omega), if_neg (by omega)]
end Go.Proofs.Ytepcijkmecoofaa
