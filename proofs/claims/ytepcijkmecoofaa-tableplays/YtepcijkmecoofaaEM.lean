/-
  Plain entries of tables: an entry as a word of either form, what any word is read as. Nothing of the program stands here.
-/
import Derived.Test.YtepcijkmecoofaaWM
namespace Go.Proofs.Ytepcijkmecoofaa.EM
open WM

theorem withN_bit (x a n v j : Nat) : (withN x a n v).testBit j = (decide (j < 64) && if a ≤ j ∧ j - a < n then v.testBit (j - a) else x.testBit j) := by
  unfold withN; rw [hb64_testBit]; rfl
theorem field_div (x a n : Nat) (hx : x < 18446744073709551616) (hn : n ≤ 64) : fieldN x a n = x / 2 ^ a % 2 ^ n := by
  rw [← fieldN_and x a n hx, Nat.min_eq_left hn, Nat.and_two_pow_sub_one_eq_mod]
/-- A field that is free: what is put into it is added. -/
theorem with_low (x a v : Nat) (hx : x < 2 ^ a) (ha : a < 64) (hv : v < 2) : withN x a 1 v = 2 ^ a * v + x := by
  apply Nat.eq_of_testBit_eq; intro j
  rw [withN_bit, Nat.testBit_two_pow_mul_add _ hx]
  have hx64 : j ≥ 64 → x.testBit j = false := fun hj => Nat.testBit_lt_two_pow (Nat.lt_of_lt_of_le hx (Nat.pow_le_pow_right (by decide) (by omega)))
  by_cases h1 : j < a
  · rw [if_neg (by omega), if_pos h1, decide_eq_true (show j < 64 by omega), Bool.true_and]
  · rw [if_neg h1]
    by_cases h2 : j = a
    · subst h2
      simp; omega
    · rw [if_neg (by omega), Nat.testBit_lt_two_pow (Nat.lt_of_lt_of_le hx (Nat.pow_le_pow_right (by decide) (by omega)))]
      have : v < 2 ^ (j - a) := Nat.lt_of_lt_of_le hv (by
        have : 2 ^ 1 ≤ 2 ^ (j - a) := Nat.pow_le_pow_right (by decide) (by omega)
        simpa using this)
      rw [Nat.testBit_lt_two_pow this]; simp
theorem with_frame8 (f : Nat) (hf : f < 65536) : withN 0 8 16 f = 256 * f := by
  apply Nat.eq_of_testBit_eq; intro j
  have e : 256 * f = 2 ^ 8 * f + 0 := by omega
  rw [withN_bit, e, Nat.testBit_two_pow_mul_add _ (by decide), Nat.zero_testBit]
  by_cases h1 : j < 8
  · rw [if_pos h1, if_neg (by omega)]; simp
  · rw [if_neg h1]
    by_cases h2 : j - 8 < 16
    · rw [if_pos (by omega), decide_eq_true (show j < 64 by omega), Bool.true_and]
    · rw [if_neg (by omega), Nat.testBit_lt_two_pow (Nat.lt_of_lt_of_le hf (by
        have : 2 ^ 16 ≤ 2 ^ (j - 8) := Nat.pow_le_pow_right (by decide) (by omega)
        simpa using this))]; simp
theorem xor_ones (f : Nat) (hf : f < 65536) : f ^^^ 65535 = 65535 - f := by
  apply Nat.eq_of_testBit_eq; intro j
  have h := Nat.testBit_two_pow_sub_succ (x := f) (n := 16) (by simpa using hf) j
  rw [show 2 ^ 16 - (f + 1) = 65535 - f by omega] at h
  rw [h, Nat.testBit_xor, show (65535 : Nat) = 2 ^ 16 - 1 by decide, Nat.testBit_two_pow_sub_one]
  by_cases h1 : j < 16
  · simp [h1]
  · rw [Nat.testBit_lt_two_pow (Nat.lt_of_lt_of_le hf (by
        have : 2 ^ 16 ≤ 2 ^ j := Nat.pow_le_pow_right (by decide) (by omega)
        simpa using this))]; simp [h1]
theorem with_frame0 (f : Nat) (hf : f < 65536) : withN 0 0 16 f = f := by
  apply Nat.eq_of_testBit_eq; intro j
  rw [withN_bit, Nat.zero_testBit]
  by_cases h1 : j < 16
  · rw [if_pos (by omega), decide_eq_true (show j < 64 by omega), Bool.true_and, Nat.sub_zero]
  · rw [if_neg (by omega), Nat.testBit_lt_two_pow (Nat.lt_of_lt_of_le hf (by
        have : 2 ^ 16 ≤ 2 ^ j := Nat.pow_le_pow_right (by decide) (by omega)
        simpa using this))]; simp

theorem with_up (f b c a : Nat) (hf : f < 65536) (ha : a < 8) (hb : b < 256) (hc : c < 256) (h : ∀ j, j < 8 → (c.testBit j = if a = j then true else b.testBit j)) : withN (256 * f + b) a 1 1 = 256 * f + c := by
  apply Nat.eq_of_testBit_eq; intro j
  have e1 : 256 * f + b = 2 ^ 8 * f + b := by omega
  have e2 : 256 * f + c = 2 ^ 8 * f + c := by omega
  rw [withN_bit, e1, e2, Nat.testBit_two_pow_mul_add _ (by simpa using hb), Nat.testBit_two_pow_mul_add _ (by simpa using hc)]
  by_cases h1 : j < 8
  · rw [if_pos h1, if_pos h1, decide_eq_true (show j < 64 by omega), Bool.true_and, h j h1]
    by_cases h2 : a = j
    · subst h2; simp
    · rw [if_neg h2, if_neg (by omega)]
  · rw [if_neg h1, if_neg h1, if_neg (by omega)]
    by_cases h2 : j < 64
    · simp [h2]
    · rw [Nat.testBit_lt_two_pow (Nat.lt_of_lt_of_le hf (by
        have : 2 ^ 16 ≤ 2 ^ (j - 8) := Nat.pow_le_pow_right (by decide) (by omega)
        simpa using this))]; simp
theorem with_w8 (f : Nat) (hf : f < 65536) : withN (256 * f) 1 1 1 = 256 * f + 2 := by
  have := with_up f 0 2 1 hf (by decide) (by decide) (by decide) (by decide)
  simpa using this
theorem with_t8 (f : Nat) (hf : f < 65536) : withN (256 * f) 0 1 1 = 256 * f + 1 := by
  have := with_up f 0 1 0 hf (by decide) (by decide) (by decide) (by decide)
  simpa using this
theorem with_tw8 (f : Nat) (hf : f < 65536) : withN (256 * f + 2) 0 1 1 = 256 * f + 3 :=
  with_up f 2 3 0 hf (by decide) (by decide) (by decide) (by decide)

/-- The word of an entry that is there. -/
def pk (form f : Nat) (wr : Bool) : Nat :=
  if form = 1 then 1 + wr.toNat * 2 + 256 * f else 9223372036854775808 + wr.toNat * 4611686018427387904 + (65535 - f)
/-- What a word's bits say. -/
def fr (form x : Nat) : Nat := if form = 1 then x / 256 % 65536 else 65535 - x % 65536
def wrB (form x : Nat) : Bool := if form = 1 then x / 2 % 2 == 1 else x / 4611686018427387904 % 2 == 1
/-- Is the word that of an entry that is there? -/
def isT (form x : Nat) : Bool := x != 0 && pk form (fr form x) (wrB form x) == x
/-- Is the word one of an entry at all? -/
def isE (form x : Nat) : Bool := x == 0 || isT form x
theorem toNat_le (b : Bool) : b.toNat ≤ 1 := by cases b <;> decide
theorem pk_lt (form f : Nat) (wr : Bool) (hf : f < 65536) : pk form f wr < 18446744073709551616 := by
  unfold pk; have := toNat_le wr; split <;> omega
theorem pk_pos (form f : Nat) (wr : Bool) : pk form f wr ≠ 0 := by unfold pk; split <;> omega
theorem fr_lt (form x : Nat) : fr form x < 65536 := by unfold fr; split <;> omega
theorem fr_pk (form f : Nat) (wr : Bool) (hf : f < 65536) : fr form (pk form f wr) = f := by
  unfold fr pk; have := toNat_le wr; split <;> omega
theorem wr_pk (form f : Nat) (wr : Bool) (hf : f < 65536) : wrB form (pk form f wr) = wr := by
  unfold wrB pk
  cases wr
  · split <;> (simp; omega)
  · split <;> (simp; omega)
theorem isT_pk (form f : Nat) (wr : Bool) (hf : f < 65536) : isT form (pk form f wr) = true := by
  unfold isT; rw [fr_pk _ _ _ hf, wr_pk _ _ _ hf]
  simp [pk_pos]
theorem isE_pk (form f : Nat) (wr : Bool) (hf : f < 65536) : isE form (pk form f wr) = true := by
  unfold isE; rw [isT_pk _ _ _ hf]; simp
theorem isT_zero (form : Nat) : isT form 0 = false := by unfold isT; simp
theorem isT_eq {form x : Nat} (h : isT form x = true) : pk form (fr form x) (wrB form x) = x ∧ x ≠ 0 := by
  unfold isT at h; simp at h; exact ⟨h.2, h.1⟩
end Go.Proofs.Ytepcijkmecoofaa.EM
