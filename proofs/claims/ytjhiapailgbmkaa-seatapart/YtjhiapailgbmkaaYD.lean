/-
  Sums of seats: seat.Sum, and the document's Sum: the same number.
-/
import Derived.Test.YtjhiapailgbmkaaYC
import Derived.Test.YtjhiapailgbmkaaWX
namespace Go.Proofs.Ytjhiapailgbmkaa
open Go.ChangeShapes Go.WideShapes Go.ChangeAt Go.RowKit
open WM
set_option maxRecDepth 100000
set_option linter.unusedVariables false

theorem wordF_lt (s : SV) (hs : s.ok) (j : Nat) (h : j < 26) : wordF s j < 18446744073709551616 := by
  obtain ⟨b0, b1, b2, b3, b4, b5, b6, b7, b8, b9⟩ := hs
  by_cases hj : j < 16
  · rw [wordF_reg s j hj]; exact b0 j hj
  · have e : j = 16 ∨ j = 17 ∨ j = 18 ∨ j = 19 ∨ j = 20 ∨ j = 21 ∨ j = 22 ∨ j = 23 ∨ j = 24 ∨ j = 25 := by omega
    rcases e with rfl | rfl | rfl | rfl | rfl | rfl | rfl | rfl | rfl | rfl
    · exact b1
    · exact b2
    · exact b3
    · exact b4
    · exact b5
    · exact b6
    · show oneN s.op < _
      unfold oneN; split <;> omega
    · show s.st < _
      omega
    · show s.pd < _
      omega
    · show s.ma < _
      omega
theorem mixN_lt (s v : Nat) (hs : s < 18446744073709551616) (hv : v < 18446744073709551616) : mixN s v < 18446744073709551616 :=
  xor_lt _ _ (turn_lt _ (prod_div_lt _ (xor_lt s v hs hv))) (Nat.mod_lt _ (by omega))
/-- The sum of the first k words. -/
def sumF (f : Nat → Nat) : Nat → Nat
  | 0 => 0
  | k + 1 => mixN (sumF f k) (f k)
theorem sumF_lt (f : Nat → Nat) (n : Nat) (hf : ∀ j, j < n → f j < 18446744073709551616) : ∀ k, k ≤ n → sumF f k < 18446744073709551616
  | 0, _ => by simp [sumF]
  | k + 1, h => mixN_lt _ _ (sumF_lt f n hf k (by omega)) (hf k (by omega))
def sumS (s : SV) : Nat := sumF (wordF s) 26
set_option maxHeartbeats 1000000 in
theorem sum_in (s : SV) (hs : s.ok) (w : World) : Calls Try.prog 14 #[s.agg] w fun e w' => e = .returned (.int .u64 (sumS s : Nat)) ∧ Below w.heap.size w w' := by
  have HP := Lib.hid (pack_words s hs)
  have HL := Lib.hid (ls_new w s)
  have HB := Lib.hid (below_new w (.cells s.cells 26))
  have HF := Lib.hid (fun k (hk : k < 26) => mix_in (sumF (wordF s) k) (wordF s k))
  have H1 := Lib.hid (fun k (hk : k ≤ 26) => sumF_lt (wordF s) 26 (wordF_lt s hs) k hk)
  have H2 := Lib.hid (wordF_lt s hs)
  have HE : Hid (sumS s = sumF (wordF s) 26) := Lib.hid rfl
  generalize sumS s = r at *
  generalize wordF s = f at *
  clear hs
  unfold SV.agg at *
  go_enter Try.func14, Try.ntmps14
  go_wp2_with (refine wpList_ldS rfl (.tmp 1) rfl w.heap.size rfl s HL.out ?_; unfold SV.agg)
  refine (HP.out _).mono ?_
  rintro e w1 ⟨v, rfl, h1, h2⟩
  have HB1 := Lib.hid (below_up HB.out h2)
  obtain ⟨g, cap, rfl, _, _, hc, _⟩ := h1
  have HC := Lib.hid hc
  clear hc h2 HB HL
  go_wp2_with fail
  go_loop [3, 5, 9] (fun v _ i => ∃ k : Nat, k ≤ 26 ∧ i = .int .i64 k ∧ v = .int .u64 (sumF f k : Nat)) (fun _ _ i => 26 - (intOf i).toNat)
  case atStart => exact ⟨0, by omega, rfl, rfl⟩
  case round =>
    obtain ⟨k, hk, rfl, rfl⟩ := hrel
    by_cases hlt : k < 26
    · have kk : (k : Int) < 26 := by omega
      have c1 := (HC.out) k hlt
      have HM := Lib.hid ((HF.out) k hlt w1 ((H1.out) k (by omega)) ((H2.out) k hlt))
      go_wp2_with fail
      refine (HM.out).mono ?_
      rintro e w2 ⟨rfl, rfl⟩
      go_wp2
      go_round
      case rel => exact ⟨k + 1, by omega, by go_num, rfl⟩
      case measure => simp [intOf]; omega
    · have kk : ¬ (k : Int) < 26 := by omega
      obtain rfl : k = 26 := by omega
      go_wp2
      go_ret
      exact ⟨by rw [HE.out]; rfl, HB1.out⟩
set_option maxHeartbeats 1000000 in
theorem refsum_in (s : SV) (hs : s.ok) (w : World) : Calls Try.prog 15 #[s.agg] w fun e w' => e = .returned (.int .u64 (sumS s : Nat)) ∧ Below w.heap.size w w' := by
  have HP := Lib.hid (words_in s hs)
  have HL := Lib.hid (ls_new w s)
  have HB := Lib.hid (below_new w (.cells s.cells 26))
  have HF := Lib.hid (fun k (hk : k < 26) => refmix_in (sumF (wordF s) k) (wordF s k))
  have H1 := Lib.hid (fun k (hk : k ≤ 26) => sumF_lt (wordF s) 26 (wordF_lt s hs) k hk)
  have H2 := Lib.hid (wordF_lt s hs)
  have HE : Hid (sumS s = sumF (wordF s) 26) := Lib.hid rfl
  generalize sumS s = r at *
  generalize wordF s = f at *
  clear hs
  unfold SV.agg at *
  go_enter Try.func15, Try.ntmps15
  go_wp2_with (refine wpList_ldS rfl (.tmp 1) rfl w.heap.size rfl s HL.out ?_; unfold SV.agg)
  refine (HP.out _).mono ?_
  rintro e w1 ⟨v, rfl, h1, h2⟩
  have HB1 := Lib.hid (below_up HB.out h2)
  obtain ⟨g, cap, rfl, _, _, hc, _⟩ := h1
  have HC := Lib.hid hc
  clear hc h2 HB HL
  go_wp2_with fail
  go_loop [4, 5] (fun v i => ∃ k : Nat, k ≤ 26 ∧ i = .int .i64 k ∧ v = .int .u64 (sumF f k : Nat)) (fun _ i => 26 - (intOf i).toNat)
  case atStart => exact ⟨0, by omega, rfl, rfl⟩
  case round =>
    obtain ⟨k, hk, rfl, rfl⟩ := hrel
    by_cases hlt : k < 26
    · have kk : (k : Int) < 26 := by omega
      have c1 := (HC.out) k hlt
      have HM := Lib.hid ((HF.out) k hlt w1 ((H1.out) k (by omega)) ((H2.out) k hlt))
      go_wp2_with fail
      refine (HM.out).mono ?_
      rintro e w2 ⟨rfl, rfl⟩
      go_wp2
      go_round
      case rel => exact ⟨k + 1, by omega, by go_num, rfl⟩
      case measure => simp [intOf]; omega
    · have kk : ¬ (k : Int) < 26 := by omega
      obtain rfl : k = 26 := by omega
      go_wp2
      go_ret
      exact ⟨by rw [HE.out]; rfl, HB1.out⟩
end Go.Proofs.Ytjhiapailgbmkaa
