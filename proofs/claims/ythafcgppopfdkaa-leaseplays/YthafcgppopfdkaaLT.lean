/-
  Worlds that have grown: what stood there stands there still, new blocks lie behind; and regions that draw their order, whose callees make memory of their own. Nothing of any program stands here.
-/
import Derived.WalkKit
import Derived.ProofKit
import Derived.Below
import Derived.Deep.QuietTactic
import Derived.BigQuiet
import Derived.Lib.Hide
namespace Go.Proofs.Ythafcgppopfdkaa
open Go.RowKit

/-- The world w with the blocks of s behind its own, and as many draws as s. -/
def later (w s : World) : World := { w with heap := w.heap ++ s.heap, drawn := s.drawn }

theorem below_later (w s : World) : Below w.heap.size w (later w s) :=
  ⟨rfl, rfl, rfl, by simp [later], fun k hk => by simp [later, Array.getElem?_append, hk]⟩

theorem later_of_below {w w' : World} (h : Below w.heap.size w w') : ∃ s, w' = later w s := by
  refine ⟨{ w' with heap := w'.heap.extract w.heap.size w'.heap.size }, ?_⟩
  have hh : w'.heap = w.heap ++ w'.heap.extract w.heap.size w'.heap.size := by
    apply Array.ext_getElem?
    intro k
    by_cases hk : k < w.heap.size
    · rw [Array.getElem?_append, if_pos hk, h.block k hk]
    · rw [Array.getElem?_append, if_neg hk, Array.getElem?_extract]
      have hs := h.size
      by_cases hk2 : k < w'.heap.size
      · rw [if_pos (by omega), show w.heap.size + (k - w.heap.size) = k by omega]
      · rw [if_neg (by omega), Array.getElem?_eq_none (by omega)]
  unfold later
  rw [← hh]
  obtain ⟨a, b, c, d, e⟩ := w'
  have h1 := h.os
  have h2 := h.tape
  have h3 := h.output
  simp only at h1 h2 h3
  subst h1 h2 h3
  rfl

theorem later_size (w s : World) : (later w s).heap.size = w.heap.size + s.heap.size := by simp [later]
theorem later_cell {w s : World} {a : Addr} (h : a.block < w.heap.size) : (later w s).cell? a = w.cell? a := (below_later w s).cell h
theorem later_frozen {w s : World} {a : Addr} (h : a.block < w.heap.size) : (later w s).frozen? a = w.frozen? a := (below_later w s).frozen h

/-- A callee that leaves all that was there alone, met in a grown world. -/
theorem later_left {P : Program} {f : FuncId} {args : Array Value} {w s : World} {v : Value}
    (h : Calls P f args (later w s) fun e w' => e = .returned v ∧ Below (later w s).heap.size (later w s) w') :
    Calls P f args (later w s) fun e w' => e = .returned v ∧ ∃ s', w' = later w s' :=
  h.mono fun _ _ ⟨he, hb⟩ => ⟨he, later_of_below ((below_later w s).trans (hb.mono (by rw [later_size]; omega)))⟩

/-- A callee that leaves the world alone but for draws, met in a grown world. -/
theorem later_quiet {P : Program} {f : FuncId} {args : Array Value} {w s : World} {v : Value}
    (h : Calls P f args (later w s) fun e w' => e = .returned v ∧ ∃ n, w' = (later w s).drewN n) :
    Calls P f args (later w s) fun e w' => e = .returned v ∧ ∃ s', w' = later w s' :=
  later_left (h.mono fun _ _ ⟨he, n, hn⟩ => ⟨he, by subst hn; exact ⟨rfl, rfl, rfl, Nat.le_refl _, fun _ _ => rfl⟩⟩)

theorem later_same {P : Program} {f : FuncId} {args : Array Value} {w s : World} {v : Value}
    (h : Calls P f args (later w s) fun e w' => e = .returned v ∧ later w s = w') :
    Calls P f args (later w s) fun e w' => e = .returned v ∧ ∃ s', w' = later w s' :=
  h.mono fun _ _ ⟨he, hn⟩ => ⟨he, s, hn.symm⟩

theorem later_drew (w : World) : ∃ s, w.drew = later w s := later_of_below ⟨rfl, rfl, rfl, Nat.le_refl _, fun _ _ => rfl⟩

/-- ONE WALK OF THE LEXICAL ORDER SERVES EVERY ORDER, the callees making what memory they like. -/
theorem wp_region_later {P : Program} {id : Nat} {Q : Exit → Act → World → Prop} {a : Act} {w : World} {l : List Oper} (hm : P.follows .mixedOrders = true) (hB : Region.lexB .any l.toArray = true)
    (h : wpQuiet P l.toArray (fun w' => ∃ s, w' = later w s) (fun a' => ∀ w', (∃ s, w' = later w s) → Q .normal a' w') l a) : (Code.region id l.toArray true).wp P Q a w :=
  wp_region_quiet (C := fun w' => ∃ s, w' = later w s) hm hB (later_drew w) (by simpa using h)

/-- What is below stays below. -/
theorem below_up {w b c : World} (h : Below w.heap.size w b) (k : Below b.heap.size b c) : Below w.heap.size w c := h.trans (k.mono h.size)
theorem below_more {w b : World} (h : Below w.heap.size w b) (o : Obj) : Below w.heap.size w (b.alloc o) := h.alloc h.size o
theorem below_new (w : World) (o : Obj) : Below w.heap.size w (w.alloc o) := (Below.refl _ _).alloc (Nat.le_refl _) o
theorem below_draws {B : Nat} {a w : World} (h : Below B a w) (n : Nat) : Below B a (w.drewN n) := ⟨h.os, h.tape, h.output, h.size, h.block⟩

end Go.Proofs.Ythafcgppopfdkaa
