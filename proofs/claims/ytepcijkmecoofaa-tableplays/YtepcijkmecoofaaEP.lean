/-
  Contract of table.Pack: the word of an entry of either form.
-/
import Derived.Test.YtepcijkmecoofaaEC
namespace Go.Proofs.Ytepcijkmecoofaa
open Go.ChangeShapes Go.WideShapes Go.ChangeAt Go.RowKit
open WM EM
set_option maxRecDepth 100000

/-- A call of With that answers y. -/
def WithIs (x : Nat) (a n : Int) (v : Int) (y : Nat) : Prop :=
  ∀ W : World, Calls Try.prog 25 #[.int .u64 x, .int .i64 a, .int .i64 n, .int .u64 v] W fun e w' => e = .returned (.int .u64 (y : Nat)) ∧ W = w'
theorem xor0 (f : Nat) (hf : f < 65536) : bits .xor .u64 (f : Int) 0 = (f : Int) := by
  have h := u64_xor_nat f 0 (by omega) (by omega)
  rw [Nat.xor_zero] at h; exact h
theorem xor1 (f : Nat) (hf : f < 65536) : bits .xor .u64 (f : Int) 65535 = ((65535 - f : Nat) : Int) := by
  have h := u64_xor_nat f 65535 (by omega) (by omega)
  rw [xor_ones f hf] at h; exact h
/-- The three calls of With, and what the last one comes to. -/
structure Three (fa wa ta : Int) (t : Int) (f : Nat) (wr : Bool) (z : Nat) : Prop where
  ex : ∃ x y, WithIs 0 fa 16 (bits .xor .u64 (f : Int) t) x ∧ WithIs x wa 1 1 y ∧ WithIs (if wr then y else x) ta 1 1 z
theorem three1 (f : Nat) (wr : Bool) (hf : f < 65536) : Three 8 1 0 0 f wr (pk 1 f wr) := by
  refine ⟨256 * f, 256 * f + 2, fun W => ?_, fun W => ?_, fun W => ?_⟩
  · have h := with_yes 0 8 16 f W (by omega) (by omega) (by omega)
    rw [with_frame8 f hf] at h
    rw [xor0 f hf]; exact h
  · have h := with_yes (256 * f) 1 1 1 W (by omega) (by omega) (by omega)
    rw [with_w8 f hf] at h
    exact h
  · cases wr
    · have h := with_yes (256 * f) 0 1 1 W (by omega) (by omega) (by omega)
      rw [with_t8 f hf, show 256 * f + 1 = pk 1 f false by unfold pk; simp; omega] at h
      exact h
    · have h := with_yes (256 * f + 2) 0 1 1 W (by omega) (by omega) (by omega)
      rw [with_tw8 f hf, show 256 * f + 3 = pk 1 f true by unfold pk; simp; omega] at h
      exact h
theorem three2 (f : Nat) (wr : Bool) (hf : f < 65536) : Three 0 62 63 65535 f wr (pk 2 f wr) := by
  refine ⟨65535 - f, 4611686018427387904 + (65535 - f), fun W => ?_, fun W => ?_, fun W => ?_⟩
  · have h := with_yes 0 0 16 (65535 - f) W (by omega) (by omega) (by omega)
    rw [with_frame0 _ (by omega)] at h
    rw [xor1 f hf]; exact h
  · have h := with_yes (65535 - f) 62 1 1 W (by omega) (by omega) (by omega)
    rw [with_low _ 62 1 (by omega) (by omega) (by omega), show 2 ^ 62 * 1 + (65535 - f) = 4611686018427387904 + (65535 - f) by omega] at h
    exact h
  · cases wr
    · have h := with_yes (65535 - f) 63 1 1 W (by omega) (by omega) (by omega)
      rw [with_low _ 63 1 (by omega) (by omega) (by omega), show 2 ^ 63 * 1 + (65535 - f) = pk 2 f false by unfold pk; simp] at h
      exact h
    · have h := with_yes (4611686018427387904 + (65535 - f)) 63 1 1 W (by omega) (by omega) (by omega)
      rw [with_low _ 63 1 (by omega) (by omega) (by omega), show 2 ^ 63 * 1 + (4611686018427387904 + (65535 - f)) = pk 2 f true by unfold pk; simp; omega] at h
      exact h

theorem pack_yes (form fa wa ta t : Int) (f : Nat) (wr : Bool) (z : Nat) (w : World) (hf : f < 65536)
    (HL : ∀ W, Calls Try.prog 23 #[.int .i64 form] W fun e w' => e = .returned (.tuple #[.agg #[.int .i64 ta, .int .i64 wa, .int .i64 fa, .int .u64 t], .bool true]) ∧ Below W.heap.size W w')
    (H3 : Three fa wa ta t f wr z) :
    Calls Try.prog 15 #[.int .i64 form, .agg #[.bool true, .int .i64 f, .bool wr]] w fun e w' => e = .returned (.int .u64 (z : Nat)) ∧ Below w.heap.size w w' := by
  have hl := l3_new w (.bool true) (.int .i64 f) (.bool wr) 31
  have hw := below_new w (.cells #[.bool true, .int .i64 f, .bool wr] 31)
  obtain ⟨x, y, h1, h2, h3⟩ := H3
  unfold WithIs at h1 h2 h3
  have H1 := Lib.hid h1
  have H2 := Lib.hid h2
  have HL' := Lib.hid HL
  clear h1 h2 HL
  cases wr
  · have H3 := Lib.hid h3
    simp only [Bool.false_eq_true, if_false] at H3
    clear h3
    go_enter Try.func15, Try.ntmps15
    go_wp2_with fail
    refine (HL'.out _).mono ?_
    rintro e W1 ⟨rfl, hb1⟩
    obtain ⟨k0, k1, k2, kl, kf⟩ := hl.later hb1
    have b1 := below_more (below_up hw hb1) (.cells #[.int .i64 ta, .int .i64 wa, .int .i64 fa, .int .u64 t] 64)
    clear hl hw hb1
    go_wp2_with fail
    refine (H1.out _).mono ?_
    rintro e W2 ⟨rfl, rfl⟩
    go_wp2_with fail
    refine (H3.out _).mono ?_
    rintro e W2 ⟨rfl, rfl⟩
    go_wp2
    go_ret
    exact ⟨rfl, b1⟩
  · have H3 := Lib.hid h3
    simp only [if_true] at H3
    clear h3
    go_enter Try.func15, Try.ntmps15
    go_wp2_with fail
    refine (HL'.out _).mono ?_
    rintro e W1 ⟨rfl, hb1⟩
    obtain ⟨k0, k1, k2, kl, kf⟩ := hl.later hb1
    have b1 := below_more (below_up hw hb1) (.cells #[.int .i64 ta, .int .i64 wa, .int .i64 fa, .int .u64 t] 64)
    clear hl hw hb1
    go_wp2_with fail
    refine (H1.out _).mono ?_
    rintro e W2 ⟨rfl, rfl⟩
    go_wp2_with fail
    refine (H2.out _).mono ?_
    rintro e W2 ⟨rfl, rfl⟩
    go_wp2_with fail
    refine (H3.out _).mono ?_
    rintro e W2 ⟨rfl, rfl⟩
    go_wp2
    go_ret
    exact ⟨rfl, b1⟩
/-- Pack of an entry that is there. -/
theorem pack_in (form f : Nat) (wr : Bool) (w : World) (hform : form = 1 ∨ form = 2) (hf : f < 65536) :
    Calls Try.prog 15 #[.int .i64 form, .agg #[.bool true, .int .i64 f, .bool wr]] w fun e w' => e = .returned (.int .u64 (pk form f wr : Nat)) ∧ Below w.heap.size w w' := by
  rcases hform with rfl | rfl
  · exact pack_yes 1 8 1 0 0 f wr _ w hf layout1 (three1 f wr hf)
  · exact pack_yes 2 0 62 63 65535 f wr _ w hf layout2 (three2 f wr hf)
/-- Pack of one that isn't. -/
theorem pack_zero (form : Nat) (f : Int) (wr : Bool) (w : World) (hform : form = 1 ∨ form = 2) :
    Calls Try.prog 15 #[.int .i64 form, .agg #[.bool false, .int .i64 f, .bool wr]] w fun e w' => e = .returned (.int .u64 0) ∧ Below w.heap.size w w' := by
  have hl := l3_new w (.bool false) (.int .i64 f) (.bool wr) 31
  have hw := below_new w (.cells #[.bool false, .int .i64 f, .bool wr] 31)
  have HL : ∃ a b c d, ∀ W, Calls Try.prog 23 #[.int .i64 form] W fun e w' => e = .returned (.tuple #[.agg #[.int .i64 a, .int .i64 b, .int .i64 c, .int .u64 d], .bool true]) ∧ Below W.heap.size W w' := by
    rcases hform with rfl | rfl
    · exact ⟨_, _, _, _, layout1⟩
    · exact ⟨_, _, _, _, layout2⟩
  obtain ⟨a, b, c, d, HL⟩ := HL
  have HL' := Lib.hid HL
  clear HL hform
  go_enter Try.func15, Try.ntmps15
  go_wp2_with fail
  refine (HL'.out _).mono ?_
  rintro e W1 ⟨rfl, hb1⟩
  obtain ⟨k0, k1, k2, kl, kf⟩ := hl.later hb1
  have b1 := below_more (below_up hw hb1) (.cells #[.int .i64 a, .int .i64 b, .int .i64 c, .int .u64 d] 64)
  clear hl hw hb1
  go_wp2
  go_ret
  exact ⟨rfl, b1⟩
end Go.Proofs.Ytepcijkmecoofaa
