/-
  TextFaults: the walk.
-/
import Derived.Test.YtclieoeaknlfbaaDoorTZ
import Derived.Test.YtclieoeaknlfbaaDoorCN
import Derived.Deep.Slices
import Derived.Deep.Fields
import Derived.Deep.CutBlock
namespace Go.Proofs.YtclieoeaknlfbaaDoor
open Go.ChangeShapes Go.WideShapes Go.ChangeAt Go.RowKit
open WM CM
set_option maxRecDepth 100000
set_option linter.unusedVariables false
set_option linter.unusedSimpArgs false
/-- Instructions, as a slice of n of them that came in. -/
structure Ops (w : World) (a : Option Addr) (n : Nat) (fC fA fB fD : Nat → Nat) (fN : Nat → Int) : Prop where
  at' : ∀ i, i < n → ∃ b off, a = some ⟨b, off, none⟩ ∧ b < w.heap.size ∧ w.cell? ⟨b, off + i * 5 + 0, none⟩ = some (.int .u8 (fC i)) ∧ w.cell? ⟨b, off + i * 5 + 1, none⟩ = some (.int .u8 (fA i)) ∧ w.cell? ⟨b, off + i * 5 + 2, none⟩ = some (.int .u8 (fB i)) ∧
    w.cell? ⟨b, off + i * 5 + 3, none⟩ = some (.int .u8 (fD i)) ∧ w.cell? ⟨b, off + i * 5 + 4, none⟩ = some (.int .i16 (fN i))
  num : ∀ i, i < n → -32768 ≤ fN i ∧ fN i ≤ 32767
theorem Ops.later {w w' : World} {a : Option Addr} {n : Nat} {fC fA fB fD : Nat → Nat} {fN : Nat → Int} (h : Ops w a n fC fA fB fD fN) (hb : Below w.heap.size w w') : Ops w' a n fC fA fB fD fN :=
  ⟨fun i hi => by
    obtain ⟨b, off, ha, hlt, h0, h1, h2, h3, h4⟩ := h.at' i hi
    exact ⟨b, off, ha, Nat.lt_of_lt_of_le hlt hb.size, (hb.cell hlt).trans h0, (hb.cell hlt).trans h1, (hb.cell hlt).trans h2, (hb.cell hlt).trans h3, (hb.cell hlt).trans h4⟩, h.num⟩
/-- The text of the instruction near the i-th. -/
def nearL (fC fA fB fD : Nat → Nat) (fN : Nat → Int) (i : Nat) : List UInt8 := showL (nC (fC i)) (nA (fC i) (fA i)) (nB (fC i) (fB i)) (nD (fC i) (fD i)) (nN (fC i) (fN i))
theorem nearL_len (fC fA fB fD : Nat → Nat) (fN : Nat → Int) (i : Nat) (h : -32768 ≤ fN i ∧ fN i ≤ 32767) : (nearL fC fA fB fD fN i).length ≤ 50 := show_len _ _ _ _ _ (near_right _ _ _ _ _) (near_n h)
theorem nearL_read (fC fA fB fD : Nat → Nat) (fN : Nat → Int) (i : Nat) (h : -32768 ≤ fN i ∧ fN i ≤ 32767) : readB (nearL fC fA fB fD fN i) = true := back_read _ _ _ _ _ (near_right _ _ _ _ _) (near_n h)
theorem nearL_semi (fC fA fB fD : Nat → Nat) (fN : Nat → Int) (i : Nat) : (59 : UInt8) ∉ nearL fC fA fB fD fN i := show_semi _ _ _ _ _ (Nat.mod_lt _ (by decide))
theorem nearL_trim (p q : Nat) (fC fA fB fD : Nat → Nat) (fN : Nat → Int) (i : Nat) : Lib.trimB (padL p q (nearL fC fA fB fD fN i)) 32 = nearL fC fA fB fD fN i := trim_show _ _ _ _ _ _ _ (Nat.mod_lt _ (by decide))
/-- The lines. -/
def fLine (k : Nat) (g : Nat → List UInt8) (i : Nat) : List UInt8 := if i = k then whatL else g i
def fLines (k : Nat) (g : Nat → List UInt8) (i : Nat) : List (List UInt8) := (List.range i).map fun j => padL (if j = 0 then 0 else 1) 0 (fLine k g j)
theorem fLines_len (k : Nat) (g : Nat → List UInt8) (i : Nat) : (fLines k g i).length = i := by simp [fLines]
theorem fLines_at (k : Nat) (g : Nat → List UInt8) (n i : Nat) (h : i < n) : (fLines k g n)[i]? = some (padL (if i = 0 then 0 else 1) 0 (fLine k g i)) := by simp [fLines, h]
theorem fText_next (k : Nat) (g : Nat → List UInt8) (i : Nat) : joinL (fLines k g (i + 1)) = if i = 0 then fLine k g 0 else joinL (fLines k g i) ++ [59, 32] ++ fLine k g i := by
  have e : fLines k g (i + 1) = fLines k g i ++ [padL (if i = 0 then 0 else 1) 0 (fLine k g i)] := by unfold fLines; rw [List.range_succ, List.map_append]; rfl
  rw [e, join_snoc]
  by_cases h : i = 0
  · subst h; simp [fLines, padL]
  · rw [if_neg h, if_neg (by intro e; have := congrArg List.length e; rw [fLines_len] at this; simp at this; omega), if_neg h]
    simp [padL, List.replicate]
theorem fText_len (k : Nat) (g : Nat → List UInt8) (n : Nat) (hg : ∀ i, i < n → (g i).length ≤ 50) : ∀ i, i ≤ n → (joinL (fLines k g i)).length ≤ 60 * i := by
  intro i
  induction i with
  | zero => intro _; exact Nat.le_refl _
  | succ i ih =>
    intro hi
    have h1 := ih (by omega)
    have h2 : (fLine k g i).length ≤ 50 := by unfold fLine; split; (· decide); (· exact hg i (by omega))
    rw [fText_next]
    split
    · rename_i h; subst h; omega
    · simp only [List.length_append, List.length_cons, List.length_nil]; omega
end Go.Proofs.YtclieoeaknlfbaaDoor
