/-
  TextLays: lines with blanks around, laid as bytes, and back: the plain part.
-/
import Derived.Test.YtclieoeaknlfbaaDoorTF
import Derived.Test.YtclieoeaknlfbaaDoorTE
namespace Go.Proofs.YtclieoeaknlfbaaDoor
open Go.ChangeShapes Go.WideShapes Go.ChangeAt Go.RowKit
open WM CM
set_option maxRecDepth 100000
set_option linter.unusedVariables false
set_option linter.unusedSimpArgs false
/-- The lines, each with its blanks around. -/
def gLines (pd : Nat → Nat) (g : Nat → List UInt8) (i : Nat) : List (List UInt8) := (List.range i).map fun j => padL (pd j) (pd j) (g j)
theorem gLines_len (pd : Nat → Nat) (g : Nat → List UInt8) (i : Nat) : (gLines pd g i).length = i := by simp [gLines]
theorem gLines_at (pd : Nat → Nat) (g : Nat → List UInt8) (n i : Nat) (h : i < n) : (gLines pd g n)[i]? = some (padL (pd i) (pd i) (g i)) := by simp [gLines, h]
theorem gText_next (pd : Nat → Nat) (g : Nat → List UInt8) (i : Nat) : joinL (gLines pd g (i + 1)) = (if i = 0 then [] else joinL (gLines pd g i) ++ [59]) ++ padL (pd i) (pd i) (g i) := by
  have e : gLines pd g (i + 1) = gLines pd g i ++ [padL (pd i) (pd i) (g i)] := by unfold gLines; rw [List.range_succ, List.map_append]; rfl
  rw [e, join_snoc]
  by_cases h : i = 0
  · subst h; simp [gLines]
  · rw [if_neg h, if_neg (by intro e; have := congrArg List.length e; rw [gLines_len] at this; simp at this; omega)]
    simp
theorem gText_len (pd : Nat → Nat) (g : Nat → List UInt8) (n : Nat) (hp : ∀ i, pd i < 4) (hg : ∀ i, i < n → (g i).length ≤ 50) : ∀ i, i ≤ n → (joinL (gLines pd g i)).length ≤ 60 * i := by
  intro i
  induction i with
  | zero => intro _; exact Nat.le_refl _
  | succ i ih =>
    intro hi
    have h1 := ih (by omega)
    have h2 := hg i (by omega)
    have h3 := hp i
    have h4 : (if i = 0 then ([] : List UInt8) else joinL (gLines pd g i) ++ [59]).length ≤ 60 * i + 1 := by
      split
      · simp
      · simp only [List.length_append, List.length_cons, List.length_nil]; omega
    rw [gText_next]
    unfold padL
    simp only [List.length_append, List.length_replicate]
    omega
/-- A word's byte. -/
def byteW (x : Nat → Nat) (i : Nat) : Nat := x (i / 4) / 256 ^ (i % 4) % 256
theorem byteW_lt (x : Nat → Nat) (i : Nat) : byteW x i < 256 := Nat.mod_lt _ (by decide)
theorem byteW_at (x : Nat → Nat) (k : Nat) (h : x k < 4294967296) : byteW x (4 * k) = x k % 256 ∧ byteW x (4 * k + 1) = x k / 256 % 256 ∧ byteW x (4 * k + 2) = x k / 65536 % 256 ∧ byteW x (4 * k + 3) = x k / 16777216 := by
  unfold byteW
  rw [show 4 * k / 4 = k by omega, show (4 * k + 1) / 4 = k by omega, show (4 * k + 2) / 4 = k by omega, show (4 * k + 3) / 4 = k by omega,
    show 4 * k % 4 = 0 by omega, show (4 * k + 1) % 4 = 1 by omega, show (4 * k + 2) % 4 = 2 by omega, show (4 * k + 3) % 4 = 3 by omega]
  refine ⟨by simp, by simp, by simp, ?_⟩
  have : (256 : Nat) ^ 3 = 16777216 := by decide
  rw [this]; omega
theorem word4_byteW (x : Nat → Nat) (k : Nat) (h : x k < 4294967296) : word4 (byteW x) (4 * k) = x k := by
  obtain ⟨h0, h1, h2, h3⟩ := byteW_at x k h
  unfold word4
  rw [h0, h1, h2, h3]; omega
def bytesV (x : Nat → Nat) (k : Nat) : List Value := (List.range (4 * k)).map fun i => Value.int .u8 (byteW x i : Nat)
theorem bytesV_next (x : Nat → Nat) (k : Nat) (h : x k < 4294967296) : bytesV x k ++ w4V (x k) = bytesV x (k + 1) := by
  obtain ⟨h0, h1, h2, h3⟩ := byteW_at x k h
  unfold bytesV
  rw [show 4 * (k + 1) = 4 * k + 1 + 1 + 1 + 1 by omega, List.range_succ, List.range_succ, List.range_succ, List.range_succ]
  simp only [List.map_append, List.map_cons, List.map_nil, List.append_assoc]
  congr 1
  simp only [h0, h1, h2, h3, w4V]
  simp
theorem bytesV_at (x : Nat → Nat) (k i : Nat) (h : i < 4 * k) : (bytesV x k)[i]? = some (.int .u8 (byteW x i : Nat)) := by simp [bytesV, h]
/-- The near instruction's word. -/
def nearX (fC fA fB fD : Nat → Nat) (fN : Nat → Int) (i : Nat) : Nat := wordN (nC (fC i)) (nA (fC i) (fA i)) (nB (fC i) (fB i)) (nD (fC i) (fD i)) (nN (fC i) (fN i))
theorem nearX_lt (fC fA fB fD : Nat → Nat) (fN : Nat → Int) (i : Nat) : nearX fC fA fB fD fN i < 4294967296 := by
  obtain ⟨q1, q2, q3, q4⟩ := right_lt (near_right (fC i) (fA i) (fB i) (fD i) (fN i))
  exact word_lt (by omega) q2 q3 q4
theorem nearX_line (fC fA fB fD : Nat → Nat) (fN : Nat → Int) (i : Nat) (h : -32768 ≤ fN i ∧ fN i ≤ 32767) : lineL (nearX fC fA fB fD fN i) = nearL fC fA fB fD fN i := by
  have hr := near_right (fC i) (fA i) (fB i) (fD i) (fN i)
  have hn := near_n (c := fC i) h
  obtain ⟨e1, e2, e3, e4, e5⟩ := word_parts hr hn
  unfold lineL nearX nearL
  rw [word_is hr hn, e1, e2, e3, e4, e5]; rfl
theorem nearX_lw (p : Nat) (fC fA fB fD : Nat → Nat) (fN : Nat → Int) (i : Nat) (h : -32768 ≤ fN i ∧ fN i ≤ 32767) : lw (padL p p (nearL fC fA fB fD fN i)) = nearX fC fA fB fD fN i := by
  have hr := near_right (fC i) (fA i) (fB i) (fD i) (fN i)
  have hn := near_n (c := fC i) h
  obtain ⟨e1, e2, e3, e4, e5⟩ := back _ _ _ _ _ hr hn
  unfold lw
  rw [nearL_trim]
  unfold nearL nearX
  rw [e1, e2, e3, e4, e5]
theorem layV_bytes (pd : Nat → Nat) (fC fA fB fD : Nat → Nat) (fN : Nat → Int) (n : Nat) (h : ∀ i, i < n → -32768 ≤ fN i ∧ fN i ≤ 32767) : ∀ k, k ≤ n → layV (gLines pd (nearL fC fA fB fD fN) n) k = bytesV (nearX fC fA fB fD fN) k := by
  intro k
  induction k with
  | zero => intro _; rfl
  | succ k ih =>
    intro hk
    rw [← layV_next _ k _ (gLines_at pd _ n k (by omega)), ih (by omega), nearX_lw _ _ _ _ _ _ _ (h k (by omega)), bytesV_next _ _ (nearX_lt _ _ _ _ _ _)]
theorem rep_str (k : Nat) : str (List.replicate k 32) ++ ⟨#[32]⟩ = str (List.replicate (k + 1) 32) := by
  rw [show (⟨#[32]⟩ : ByteArray) = str [32] from rfl, str_app, ← List.replicate_succ' (n := k) (a := (32 : UInt8))]
theorem pad_str (k : Nat) (l : List UInt8) : str (List.replicate k 32) ++ str l ++ str (List.replicate k 32) = str (padL k k l) := by
  unfold padL
  rw [← str_app, ← str_app]
/-- A row of one's own of bytes reads as its bytes. -/
theorem own_bytes {w : World} {base k : Nat} {v : Value} {x : Nat → Nat} (h : w.ownsRow base 5 1 v (4 * k) (bytesV x k)) (hk : 0 < k) :
    ∃ g cap, v = .slice (some ⟨g, 0, none⟩) (4 * k) cap ∧ g < w.heap.size ∧ base ≤ g ∧ 4 * k ≤ cap ∧ ∀ j, j < 4 * k → w.cell? ⟨g, j, none⟩ = some (.int .u8 (byteW x j : Nat)) := by
  have hlt := World.ownsRow.lt h
  obtain ⟨_, ⟨_, h0⟩ | ⟨g, cap, cur, rfl, hb, hg, hnc, hm, hsz, ht⟩⟩ := h
  · omega
  · refine ⟨g, cap, rfl, (hlt g rfl).2, hb, hnc, fun j hj => ?_⟩
    have hu := bytesV_at x k j hj
    rw [← ht, List.getElem?_take, if_pos (by omega)] at hu
    simp [World.cell?, hg]
    simpa using hu
theorem str_own {w : World} {base e k : Nat} {v : Value} {xs : List Value} (h : w.ownsRow base e 1 v k xs) :
    ∃ A c, v = .slice A k c ∧ ∀ j u, j < k → xs[j]? = some u → ∃ g, A = some ⟨g, 0, none⟩ ∧ w.cell? ⟨g, j, none⟩ = some u := by
  obtain ⟨_, ⟨rfl, rfl⟩ | ⟨g, cap, cur, rfl, hb, hg, hnc, hm, hsz, ht⟩⟩ := h
  · exact ⟨none, 0, rfl, fun j u hj => by omega⟩
  · refine ⟨_, cap, rfl, fun j u hj hu => ⟨g, rfl, ?_⟩⟩
    rw [← ht, List.getElem?_take, if_pos (by omega)] at hu
    simp [World.cell?, hg]
    simpa using hu
theorem lines_at (x : Nat → Nat) (k j : Nat) (h : j < k) (hx : x j < 4294967296) : (linesV (byteW x) k)[j]? = some (.string (str (lineL (x j)))) := by
  simp [linesV, h, word4_byteW x j hx]
end Go.Proofs.YtclieoeaknlfbaaDoor
