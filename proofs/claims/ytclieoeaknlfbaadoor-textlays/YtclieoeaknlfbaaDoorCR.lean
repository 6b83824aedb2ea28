/-
  Contracts of the document's answers for instructions (Fields, Right, Word): each returns what the plain text names; what was there is left alone.
-/
import Derived.Test.YtclieoeaknlfbaaDoorCC
import Derived.Great.BuildSlice
namespace Go.Proofs.YtclieoeaknlfbaaDoor
open Go.ChangeShapes Go.WideShapes Go.ChangeAt Go.RowKit
open WM CM
set_option maxRecDepth 100000

/-! ### Fields -/
def fldCells : Array Value := #[.int .i64 0, .int .i64 9, .int .i64 9, .int .i64 7, .int .i64 7, .int .i64 7, .int .i64 7, .int .i64 7, .int .i64 7, .int .i64 7, .int .i64 7, .int .i64 11, .int .i64 11, .int .i64 11, .int .i64 11, .int .i64 11, .int .i64 11, .int .i64 11, .int .i64 9, .int .i64 9, .int .i64 8, .int .i64 0, .int .i64 0]
theorem fldCells_at (c : Nat) (h : c < 23) : fldCells[c]? = some (.int .i64 (fldN c : Nat)) := by
  have hs : c = 0 ∨ c = 1 ∨ c = 2 ∨ c = 3 ∨ c = 4 ∨ c = 5 ∨ c = 6 ∨ c = 7 ∨ c = 8 ∨ c = 9 ∨ c = 10 ∨ c = 11 ∨ c = 12 ∨ c = 13 ∨ c = 14 ∨ c = 15 ∨ c = 16 ∨ c = 17 ∨ c = 18 ∨ c = 19 ∨ c = 20 ∨ c = 21 ∨ c = 22 := by omega
  rcases hs with rfl | rfl | rfl | rfl | rfl | rfl | rfl | rfl | rfl | rfl | rfl | rfl | rfl | rfl | rfl | rfl | rfl | rfl | rfl | rfl | rfl | rfl | rfl
  all_goals rfl
theorem reffields_in (c : Nat) (w : World) (h : c < 23) :
    Calls Tryd.prog 11 #[.int .u8 c] w fun e w' => e = .returned (.int .i64 (fldN c : Nat)) ∧ Below w.heap.size w w' := by
  have ht := fldCells_at c h
  have h' : (c : Int) < 23 := by omega
  clear h
  go_enter Tryd.func11, Tryd.ntmps11
  go_wp2_with (refine wpList_buildSlice rfl 55 3 23 _ rfl fldCells _ _ Tryd.underlying55 rfl rfl (by decide) (by decide) (by kernel_rfl) ?_)
  go_ret
  exact ⟨rfl, below_new _ _⟩

/-- The kinds of operations, by the document's number of their fields. -/
theorem kinds (c : Nat) (h : c < 23) :
    (fldN c = 0 ∧ hasA c = false ∧ hasB c = false ∧ hasC c = false ∧ hasN c = false ∧ c ≠ 18 ∧ c ≠ 19) ∨ (fldN c = 9 ∧ hasA c = true ∧ hasB c = false ∧ hasC c = false ∧ hasN c = true) ∨
    (fldN c = 8 ∧ hasA c = false ∧ hasB c = false ∧ hasC c = false ∧ hasN c = true ∧ c ≠ 18 ∧ c ≠ 19) ∨ (fldN c = 11 ∧ hasA c = true ∧ hasB c = true ∧ hasC c = false ∧ hasN c = true ∧ c ≠ 18 ∧ c ≠ 19) ∨
    (fldN c = 7 ∧ hasA c = true ∧ hasB c = true ∧ hasC c = true ∧ hasN c = false ∧ c ≠ 18 ∧ c ≠ 19) := by
  have hs : c = 0 ∨ c = 1 ∨ c = 2 ∨ c = 3 ∨ c = 4 ∨ c = 5 ∨ c = 6 ∨ c = 7 ∨ c = 8 ∨ c = 9 ∨ c = 10 ∨ c = 11 ∨ c = 12 ∨ c = 13 ∨ c = 14 ∨ c = 15 ∨ c = 16 ∨ c = 17 ∨ c = 18 ∨ c = 19 ∨ c = 20 ∨ c = 21 ∨ c = 22 := by omega
  rcases hs with rfl | rfl | rfl | rfl | rfl | rfl | rfl | rfl | rfl | rfl | rfl | rfl | rfl | rfl | rfl | rfl | rfl | rfl | rfl | rfl | rfl | rfl | rfl
  all_goals decide

/-! ### Right -/
theorem wrap16u (n : Int) : IntKind.u16.wrap n = n % 65536 := by simp [IntKind.wrap, IntKind.signed, IntKind.bits]
set_option maxHeartbeats 400000 in
theorem refword_in (c a b d : Nat) (n : Int) (w : World) (hc : c < 23) (ha : a < 16) (hb : b < 16) (hd : d < 16) :
    Calls Tryd.prog 7 #[.int .u8 c, .int .u8 a, .int .u8 b, .int .u8 d, .int .i16 n] w fun e w' => e = .returned (.int .u32 (wordN c a b d n : Nat)) ∧ Below w.heap.size w w' := by
  obtain ⟨f, hf⟩ : ∃ f, fldN c = f := ⟨_, rfl⟩
  have HF := Lib.hid (fun w => reffields_in c w hc)
  rw [hf] at HF
  have hq := (fldN_eq c).2.2.1
  rw [hf] at hq
  have hf16 : f < 16 := by
    have := kinds c hc; omega
  cases hC : hasC c
  · have hk : ((f : Int) / 4 % 2 == 1) = false := by rw [hC] at hq; simp only [Bool.toNat_false] at hq; simp; omega
    have HW := Lib.hid (show wordN c a b d n = c * 67108864 + a * 4194304 + b * 262144 + (n % 65536).toNat by unfold wordN lowN; rw [hC]; simp)
    clear hf hC hq
    go_enter Tryd.func7, Tryd.ntmps7
    go_wp2_with (go_at_call 11; refine (HF.out _).mono ?_; rintro e W1 ⟨rfl, hb1⟩)
    go_ret
    exact ⟨ret_int (by rw [HW.out, wrap16u]; omega), hb1⟩
  · have hk : ((f : Int) / 4 % 2 == 1) = true := by rw [hC] at hq; simp only [Bool.toNat_true] at hq; simp; omega
    have HW := Lib.hid (show wordN c a b d n = c * 67108864 + a * 4194304 + b * 262144 + d by unfold wordN lowN; rw [hC]; simp)
    clear hf hC hq
    go_enter Tryd.func7, Tryd.ntmps7
    go_wp2_with (go_at_call 11; refine (HF.out _).mono ?_; rintro e W1 ⟨rfl, hb1⟩)
    go_ret
    exact ⟨ret_int (by rw [HW.out]; omega), hb1⟩
end Go.Proofs.YtclieoeaknlfbaaDoor
