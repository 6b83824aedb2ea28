/-
  TextReads: a text as bytes, one of them another one, and back as a text; the walk.
-/
import Derived.Test.YtclieoeaknlfbaaDoorTD
import Derived.Test.YtclieoeaknlfbaaDoorCN
import Derived.Test.YtclieoeaknlfbaaDoorTP
import Derived.Test.YtclieoeaknlfbaaDoorTL
import Derived.Lib.ConvBytes
import Derived.Laws.BytesArg
import Derived.Deep.Slices
import Derived.Deep.Fields
namespace Go.Proofs.YtclieoeaknlfbaaDoor
open Go.ChangeShapes Go.WideShapes Go.ChangeAt Go.RowKit
open WM CM
set_option maxRecDepth 100000
set_option linter.unusedVariables false
set_option linter.unusedSimpArgs false
theorem conv_str (W : World) (y : ByteArray) :
    ∃ (V : World) (cap : Nat) (g : Nat → Nat), (convert 9 23 (.string y)).run Tryd.prog W = .ok (.slice (some ⟨W.heap.size, 0, none⟩) y.size cap) V ∧ Below W.heap.size W V ∧ W.heap.size < V.heap.size ∧ (∀ j, g j < 256) ∧
      (∀ j, j < y.size → V.cell? ⟨W.heap.size, j, none⟩ = some (.int .u8 (g j : Nat))) ∧ (∀ j, j < y.size → V.frozen? ⟨W.heap.size, j, none⟩ = false) := by
  refine ⟨Lib.bytesWorld W 5 y, _, fun j => (y.data.toList.getD j 0).toNat, Lib.run_convert_string_bytes W _ _ 5 y (u := .string) Tryd.underlying9 Tryd.underlying23 Tryd.underlying5, below_bytes W _ y, ?_, fun j => UInt8.toNat_lt _, fun j hj => Lib.bytesWorld_cell W _ y j hj, fun j hj => ?_⟩
  · rw [Lib.bytesWorld_size]; omega
  · have hs : y.size ≤ (Lib.bytesCells W 5 y).size := by
      rcases Nat.lt_or_ge ((Lib.bytesCells W 5 y).size) y.size with h | h
      · have h1 := Lib.bytesWorld_cell W 5 y _ h
        unfold World.cell? at h1
        rw [Lib.bytesWorld_at_new] at h1
        simp at h1
      · exact h
    unfold World.frozen?
    simp only [Lib.bytesWorld_at_new]
    simp
    omega
theorem conv_back (W : World) (B n cap : Nat) (g : Nat → Nat) (hc : ∀ j, j < n → W.cell? ⟨B, j, none⟩ = some (.int .u8 (g j : Nat))) :
    (convert 23 9 (.slice (some ⟨B, 0, none⟩) n cap)).run Tryd.prog W = .ok (.string (strOfNums ((List.range n).map fun j => (g j : Int)))) W := by
  refine run_convert_bytes_arg W _ 5 Tryd.underlying23 Tryd.underlying5 B 0 n cap _ (by simp) (fun i hi => ?_) _ Tryd.underlying9
  rw [Nat.zero_add, hc i hi]
  simp [List.getD_eq_getElem?_getD, hi]
theorem nums_size (n : Nat) (g : Nat → Nat) : (strOfNums ((List.range n).map fun j => (g j : Int))).size = n := by rw [strOfNums_size]; simp
/-- One of four. -/
def pick4 (s z : ByteArray) (k : Nat) : ByteArray := if k = 0 then s else if k = 1 then z else if k = 2 then z ++ ⟨#[32]⟩ else z ++ ⟨#[48]⟩
theorem pick4_size (s z : ByteArray) (k : Nat) (hs : s.size ≤ 50) (hz : z.size ≤ 50) : (pick4 s z k).size ≤ 51 := by
  have e1 : (z ++ (⟨#[32]⟩ : ByteArray)).size = z.size + 1 := by rw [ByteArray.size_append]; rfl
  have e2 : (z ++ (⟨#[48]⟩ : ByteArray)).size = z.size + 1 := by rw [ByteArray.size_append]; rfl
  unfold pick4
  split
  · omega
  · split
    · omega
    · split <;> omega
theorem row4 (W : World) (t : TypeId) (s z : ByteArray) (k : Nat) (hk : k < 4) : (W.alloc (.cells #[.string s, .string z, .string (z ++ ⟨#[32]⟩), .string (z ++ ⟨#[48]⟩)] t)).cell? ⟨W.heap.size, k, none⟩ = some (.string (pick4 s z k)) := by
  rw [World.cell?_alloc_new]
  have h : k = 0 ∨ k = 1 ∨ k = 2 ∨ k = 3 := by omega
  rcases h with rfl | rfl | rfl | rfl <;> rfl
theorem lies_put {W : World} {B c a b d : Nat} {n : Int} (h : Lies W B c a b d n) (c' a' b' d' : Nat) (n' : Int) :
    Lies (((((W.setCell ⟨B, 0, none⟩ (.int .u8 c')).setCell ⟨B, 1, none⟩ (.int .u8 a')).setCell ⟨B, 2, none⟩ (.int .u8 b')).setCell ⟨B, 3, none⟩ (.int .u8 d')).setCell ⟨B, 4, none⟩ (.int .i16 n')) B c' a' b' d' n' := by
  obtain ⟨r0, r1, r2, r3, r4⟩ := set5 W B (.int .u8 c') (.int .u8 a') (.int .u8 b') (.int .u8 d') (.int .i16 n') (by simp [h.k0]) (by simp [h.k1]) (by simp [h.k2]) (by simp [h.k3]) (by simp [h.k4])
  exact ⟨r0, r1, r2, r3, r4, by simp [World.setCell]; exact h.lt, fun i => by simp [h.fz i]⟩
theorem below_put {w W : World} {B : Nat} (h : Below w.heap.size w W) (hB : w.heap.size ≤ B) {v0 v1 v2 v3 v4 : Value} :
    Below w.heap.size w (((((W.setCell ⟨B, 0, none⟩ v0).setCell ⟨B, 1, none⟩ v1).setCell ⟨B, 2, none⟩ v2).setCell ⟨B, 3, none⟩ v3).setCell ⟨B, 4, none⟩ v4) :=
  ((((h.setCell hB _).setCell hB _).setCell hB _).setCell hB _).setCell hB _
theorem show_pos (c a b d : Nat) (n : Int) (hr : rightB c a b d n = true) : 0 < (showL c a b d n).length := by
  obtain ⟨hc, _⟩ := right_lt hr
  have h : ∀ c : Fin 23, 0 < (nameL c.1).length := by decide
  have := h ⟨c, hc⟩
  unfold showL
  simp only [List.length_append]
  simp only at this
  omega
end Go.Proofs.YtclieoeaknlfbaaDoor
