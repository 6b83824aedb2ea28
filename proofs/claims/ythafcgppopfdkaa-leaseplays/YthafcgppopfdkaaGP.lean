/-
  Small tools of no program: which blocks a call turns, small blocks cell by cell, rows of a call's own that grow, shrink and are written. (GN's text without what WC declares too: for seats that hold both.)
-/
import Derived.Test.YthafcgppopfdkaaRows
import Derived.Test.YthafcgppopfdkaaLT
import Derived.Test.YthafcgppopfdkaaVA
import Derived.Lib.SliceRun
import Derived.Laws.CopyRow
import Derived.WalkKit
import Derived.ProofKit
import Derived.OpenShut
import Derived.Outline
import Derived.WalkLawsBesides
import Derived.Deep.QuietTactic
import Derived.BigQuiet
import Derived.BigRegion
import Derived.RegionTactic
import Derived.Deep.RegionLaw
import Derived.Deep.AppendLies
import Derived.Maps.AppendAt
import Derived.Laws.CopyOwn
import Derived.Laws.MakeOwn
import Derived.Laws.OwnMore
import Derived.Lib.Hide
namespace Go.Proofs.Ythafcgppopfdkaa
open Go.ChangeShapes Go.WideShapes Go.ChangeAt Go.RowKit
set_option maxRecDepth 100000

theorem grown_of_below {w w' : World} (h : Below w.heap.size w w') : w.grownBy w' none := ⟨h.os, h.tape, h.output, h.size, fun k hk _ => h.block k hk⟩
theorem grown_setCell (w : World) (p : Addr) (u : Value) : w.grownBy (w.setCell p u) (some p.block) :=
  ⟨rfl, rfl, rfl, by simp [World.setCell], fun k _ hk => Below.heap_setCell w p u k (fun e => hk (by rw [e]))⟩
theorem grown_trans {a b c : World} {r : Option Nat} (h : a.grownBy b r) (k : b.grownBy c r) : a.grownBy c r :=
  ⟨k.os.trans h.os, k.tape.trans h.tape, k.output.trans h.output, Nat.le_trans h.size k.size, fun i hi hs => (k.block i (Nat.lt_of_lt_of_le hi h.size) hs).trans (h.block i hi hs)⟩
theorem grown_drawn {a b : World} {r : Option Nat} (h : a.grownBy b r) (n : Nat) : a.grownBy (b.drewN n) r := ⟨h.os, h.tape, h.output, h.size, h.block⟩
theorem grown_drew {a b : World} {r : Option Nat} (h : a.grownBy b r) : a.grownBy b.drew r := ⟨h.os, h.tape, h.output, h.size, h.block⟩
theorem grown_any {a b : World} {r : Option Nat} (h : a.grownBy b none) : a.grownBy b r := ⟨h.os, h.tape, h.output, h.size, fun i hi _ => h.block i hi (by simp)⟩
theorem grown_below {a b : World} (h : Below a.heap.size a b) (r : Option Nat) : a.grownBy b r := grown_any (grown_of_below h)
theorem set_other' (U : World) (B i j : Nat) (v : Value) (h : i ≠ j) : (U.setCell ⟨B, i, none⟩ v).cell? ⟨B, j, none⟩ = U.cell? ⟨B, j, none⟩ := World.cell?_setCell_other _ _ _ _ (by simp)
theorem set_same' (U : World) (B i : Nat) (v : Value) (h : (U.cell? ⟨B, i, none⟩).isSome = true) : (U.setCell ⟨B, i, none⟩ v).cell? ⟨B, i, none⟩ = some v := World.cell?_setCell_same' U _ v h

/-! ### small blocks, cell by cell -/
structure L4 (w : World) (B : Nat) (a b c d : Value) : Prop where
  k0 : w.cell? ⟨B, 0, none⟩ = some a
  k1 : w.cell? ⟨B, 1, none⟩ = some b
  k2 : w.cell? ⟨B, 2, none⟩ = some c
  k3 : w.cell? ⟨B, 3, none⟩ = some d
  lt : B < w.heap.size
  fz : ∀ i, w.frozen? ⟨B, i, none⟩ = false
theorem l4_new (w : World) (a b c d : Value) (t : TypeId) : L4 (w.alloc (.cells #[a, b, c, d] t)) w.heap.size a b c d := ⟨by simp, by simp, by simp, by simp, by simp, fun i => by simp⟩
theorem L4.later {w w' : World} {B : Nat} {a b c d : Value} (h : L4 w B a b c d) (hb : Below w.heap.size w w') : L4 w' B a b c d :=
  ⟨(hb.cell h.lt).trans h.k0, (hb.cell h.lt).trans h.k1, (hb.cell h.lt).trans h.k2, (hb.cell h.lt).trans h.k3, Nat.lt_of_lt_of_le h.lt hb.size, fun i => (hb.frozen h.lt).trans (h.fz i)⟩
theorem L4.kept {w w' : World} {B : Nat} {a b c d : Value} {row : Option Nat} (h : L4 w B a b c d) (hg : w.grownBy w' row) (hr : some B ≠ row) : L4 w' B a b c d :=
  have hb := hg.block B h.lt hr
  ⟨(World.cell?_of_block (a := ⟨B, 0, none⟩) hb).trans h.k0, (World.cell?_of_block (a := ⟨B, 1, none⟩) hb).trans h.k1, (World.cell?_of_block (a := ⟨B, 2, none⟩) hb).trans h.k2, (World.cell?_of_block (a := ⟨B, 3, none⟩) hb).trans h.k3, Nat.lt_of_lt_of_le h.lt hg.size, fun i => (World.frozen?_of_block (a := ⟨B, i, none⟩) hb).trans (h.fz i)⟩

structure L1 (w : World) (B : Nat) (a : Value) : Prop where
  k0 : w.cell? ⟨B, 0, none⟩ = some a
  lt : B < w.heap.size
  fz : w.frozen? ⟨B, 0, none⟩ = false
theorem l1_new (w : World) (a : Value) (t : TypeId) : L1 (w.alloc (.cells #[a] t)) w.heap.size a := ⟨by simp, by simp, by simp⟩
theorem L1.kept {w w' : World} {B : Nat} {a : Value} {row : Option Nat} (h : L1 w B a) (hg : w.grownBy w' row) (hr : some B ≠ row) : L1 w' B a :=
  have hb := hg.block B h.lt hr
  ⟨(World.cell?_of_block (a := ⟨B, 0, none⟩) hb).trans h.k0, Nat.lt_of_lt_of_le h.lt hg.size, (World.frozen?_of_block (a := ⟨B, 0, none⟩) hb).trans h.fz⟩
theorem L1.later {w w' : World} {B : Nat} {a : Value} (h : L1 w B a) (hb : Below w.heap.size w w') : L1 w' B a := h.kept (grown_of_below hb) (by simp)
theorem add_at (g j : Nat) : (⟨g, 0, none⟩ : Addr).add j = ⟨g, j, none⟩ := by
  simp only [Addr.add]
  split <;> simp_all
theorem add_to (g k j : Nat) : (⟨g, k, none⟩ : Addr).add j = ⟨g, k + j, none⟩ := by
  simp only [Addr.add]
  split <;> simp_all
theorem info_of {P : Program} {e : TypeId} {z : Value} {s b : Nat} (h : (P.info? e).map (fun i => (i.zero, i.size, i.bytes)) = some (some z, s, b)) : ∃ i, P.info? e = some i ∧ i.zero = some z ∧ i.size = s ∧ i.bytes = b := by
  obtain ⟨i, hi, he⟩ := Option.map_eq_some_iff.1 h
  simp only [Prod.mk.injEq] at he
  exact ⟨i, hi, he.1, he.2.1, he.2.2⟩
/-- A row of one's own, less of it. -/
theorem owns_less {w : World} {base size n m g cap : Nat} {e : TypeId} {xs : List Value} (h : w.ownsRow base e size (.slice (some ⟨g, 0, none⟩) n cap) n xs) (hm : m ≤ n) : w.ownsRow base e size (.slice (some ⟨g, 0, none⟩) m cap) m (xs.take (m * size)) := by
  have hle : m * size ≤ n * size := Nat.mul_le_mul_right _ hm
  refine ⟨by rw [List.length_take, h.1]; omega, ?_⟩
  rcases h.2 with ⟨h', _⟩ | ⟨g', cap', cur, h', hb, hg, hnc, hcm, hcs, ht⟩
  · simp at h'
  · simp only [Value.slice.injEq, Option.some.injEq, Addr.mk.injEq, and_true, true_and] at h'
    obtain ⟨rfl, rfl⟩ := h'
    exact .inr ⟨g, cap, cur, rfl, hb, hg, by omega, hcm, hcs, by rw [← ht, List.take_take, Nat.min_eq_left hle]⟩
theorem owns_below {w w' : World} {base size n : Nat} {e : TypeId} {v : Value} {xs : List Value} (h : w.ownsRow base e size v n xs) (hb : Below w.heap.size w w') : w'.ownsRow base e size v n xs :=
  World.ownsRow.kept h (grown_of_below hb) (by cases hv : v.ownBlock <;> simp)
/-- It lies in a block, or is nil. -/
theorem owns_form {w : World} {base size n : Nat} {e : TypeId} {v : Value} {xs : List Value} (h : w.ownsRow base e size v n xs) :
    (v = .slice none 0 0 ∧ n = 0) ∨ ∃ g cap, v = .slice (some ⟨g, 0, none⟩) n cap ∧ base ≤ g ∧ g < w.heap.size ∧ n ≤ cap ∧ cap ≤ maxLen := by
  rcases h.2 with h' | ⟨g, cap, cur, rfl, hb, hg, hnc, hcm, _⟩
  · exact .inl h'
  · exact .inr ⟨g, cap, rfl, hb, (Array.getElem?_eq_some_iff.1 hg).1, hnc, hcm⟩
theorem grown_setRow (w : World) (g : Nat) (cs : Array Value) : w.grownBy (w.setRow g cs) (some g) :=
  ⟨rfl, rfl, rfl, by simp [World.setRow], fun k _ hk => setRow_other w g k cs (fun e => hk (by rw [e]))⟩
/-- 'clear(s[k:])' of a row of one's own: what is ahead of it stays. -/
theorem run_clear_own {P : Program} {w : World} {base size n g cap : Nat} {t e : TypeId} {z : Value} {xs : List Value} (ty : TypeId) (hu : P.underlying t = some (.slice e)) (hv : ∀ w, (zeroValue e).run P w = .ok z w) (hzs : z.cells.size = size) (hsz : 0 < size)
    (hz1 : ∀ u ∈ z.cells.toList, u.oneCell' = true) (hown : w.ownsRow base e size (.slice (some ⟨g, 0, none⟩) n cap) n xs) (k m c : Nat) (hk : k ≤ n) (hkm : k + m ≤ cap) (hm : 0 < m) :
    ∃ w', (Builtin.clear_ #[t] ty #[.slice (some ⟨g, k * size, none⟩) m c]).run P w = .ok (.tuple #[]) w' ∧ w'.ownsRow base e size (.slice (some ⟨g, 0, none⟩) k cap) k (xs.take (k * size)) ∧ w.grownBy w' (some g) := by
  rcases hown.2 with ⟨h', _⟩ | ⟨g', cap', cur, h', hb, hg, hnc, hcm, hcs, ht⟩
  · simp at h'
  · simp only [Value.slice.injEq, Option.some.injEq, Addr.mk.injEq, and_true, true_and] at h'
    obtain ⟨rfl, rfl⟩ := h'
    obtain ⟨m, rfl⟩ : ∃ m', m = m' + 1 := ⟨m - 1, by omega⟩
    have hl : (Builtin.zeroCells z.cells (m + 1)).toList.length = (m + 1) * size := by simp [Builtin.zeroCells, hzs]
    have hle : k * size + (m + 1) * size ≤ cur.size := by rw [hcs, ← Nat.add_mul]; exact Nat.mul_le_mul_right _ hkm
    have hkn : k * size ≤ n * size := Nat.mul_le_mul_right _ hk
    have h1 : ∀ u ∈ (Builtin.zeroCells z.cells (m + 1)).toList, u.oneCell' = true := by
      intro u hu
      simp only [Builtin.zeroCells, Array.toList_map, List.mem_map] at hu
      obtain ⟨i, _, rfl⟩ := hu
      refine hz1 _ ?_
      have hi : i % z.cells.size < z.cells.size := Nat.mod_lt _ (by omega)
      rw [getElem!_pos z.cells _ hi]
      exact Array.getElem_mem_toList hi
    have hst := run_storeCells_at P g (k * size) e (Builtin.zeroCells z.cells (m + 1)).toList 0 cur w hg (by rw [hl]; omega) h1
    refine ⟨w.setRow g (cur.toList.take (k * size + 0) ++ (Builtin.zeroCells z.cells (m + 1)).toList ++ cur.toList.drop (k * size + 0 + (Builtin.zeroCells z.cells (m + 1)).toList.length)).toArray, ?_, ?_, grown_setRow w g _⟩
    · generalize hZ : Builtin.zeroCells z.cells (m + 1) = ZL at *
      simp [Builtin.clear_, run_underlying hu, hv, hZ, hst]
    · refine ⟨by rw [List.length_take, hown.1]; omega, .inr ⟨g, cap, _, rfl, hb, setRow_heap w g _ _ _ _ hg, by omega, hcm, ?_, ?_⟩⟩
      · rw [List.size_toArray, List.length_append, List.length_append, hl, List.length_take, List.length_drop, Array.length_toList, ← hcs]; omega
      · rw [← ht, List.take_take, Nat.min_eq_left hkn, List.append_assoc, List.take_append_of_le_length (by rw [List.length_take, Array.length_toList]; omega), Nat.add_zero, List.take_take, Nat.min_self]
end Go.Proofs.Ythafcgppopfdkaa
