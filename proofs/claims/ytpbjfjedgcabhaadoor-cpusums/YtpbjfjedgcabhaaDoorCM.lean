/-
  Plain mathematics of instructions as words of 32 bits: nothing of any program stands here.
-/
import Derived.Test.YtpbjfjedgcabhaaDoorWM
namespace Go.Proofs.YtpbjfjedgcabhaaDoor.CM
open WM

/-- Which fields an operation has. -/
def hasA (c : Nat) : Bool := decide (1 ≤ c ∧ c ≤ 19)
def hasB (c : Nat) : Bool := decide (3 ≤ c ∧ c ≤ 17)
def hasC (c : Nat) : Bool := decide (3 ≤ c ∧ c ≤ 10)
def hasN (c : Nat) : Bool := decide (c = 1 ∨ c = 2 ∨ (11 ≤ c ∧ c ≤ 20))
/-- The document's number of an operation's fields. -/
def fldN (c : Nat) : Nat := (hasA c).toNat + 2 * (hasB c).toNat + 4 * (hasC c).toNat + 8 * (hasN c).toNat

def regB (r : Nat) (h : Bool) : Bool := if h then decide (r < 16) else decide (r = 0)
def numH (c : Nat) (n : Int) (h : Bool) : Bool := if h then (if c = 18 ∨ c = 19 then decide (0 ≤ n ∧ n < 9) else true) else decide (n = 0)
def numB (c : Nat) (n : Int) : Bool := numH c n (hasN c)
/-- May the instruction be? -/
def rightB (c a b d : Nat) (n : Int) : Bool := decide (c < 23) && regB a (hasA c) && regB b (hasB c) && regB d (hasC c) && numB c n

/-- The lowest 16 bits of its word. -/
def lowN (c d : Nat) (n : Int) : Nat := if hasC c then d else (n % 65536).toNat
/-- Its word. -/
def wordN (c a b d : Nat) (n : Int) : Nat := c * 67108864 + a * 4194304 + b * 262144 + lowN c d n

/-- A number of 16 bits that may be below 0. -/
def sgn (x : Nat) : Int := if x < 32768 then (x : Int) else (x : Int) - 65536

/-! ### a word's fields -/
def pC (w : Nat) : Nat := w / 67108864 % 64
def pA (w : Nat) : Nat := w / 4194304 % 16
def pB (w : Nat) : Nat := w / 262144 % 16
def pD (w : Nat) : Nat := if hasC (pC w) then w % 16 else 0
def pN (w : Nat) : Int := if hasC (pC w) then 0 else sgn (w % 65536)
/-- Is the word one of an instruction? -/
def isW (w : Nat) : Bool := rightB (pC w) (pA w) (pB w) (pD w) (pN w) && wordN (pC w) (pA w) (pB w) (pD w) (pN w) == w

/-! ### of 64 bits -/
theorem fieldN_div (x a n : Nat) (hx : x < 18446744073709551616) (hn : n ≤ 64) : fieldN x a n = x / 2 ^ a % 2 ^ n := by
  rw [← fieldN_and x a n hx, Nat.min_eq_left hn, Nat.and_two_pow_sub_one_eq_mod]

theorem withN_add (x a n v : Nat) (hx : x < 2 ^ a) (hv : v < 2 ^ n) (h : a + n ≤ 64) : withN x a n v = x + v * 2 ^ a := by
  apply Nat.eq_of_testBit_eq; intro j
  unfold withN
  rw [hb64_testBit]
  unfold withF
  rw [show x + v * 2 ^ a = 2 ^ a * v + x by rw [Nat.add_comm, Nat.mul_comm], Nat.testBit_two_pow_mul_add v hx]
  by_cases h1 : j < a
  · rw [if_neg (by omega), if_pos h1]; simp; omega
  · rw [if_neg h1]
    by_cases h2 : j - a < n
    · rw [if_pos (by omega)]; simp; omega
    · rw [if_neg (by omega)]
      have e1 : x.testBit j = false := Nat.testBit_lt_two_pow (Nat.lt_of_lt_of_le hx (Nat.pow_le_pow_right (by decide) (by omega)))
      have e2 : v.testBit (j - a) = false := Nat.testBit_lt_two_pow (Nat.lt_of_lt_of_le hv (Nat.pow_le_pow_right (by decide) (by omega)))
      simp [e1, e2]

theorem signN16 (x : Nat) : (signN x 16 : Int) % 65536 = ((x % 65536 : Nat) : Int) := by
  by_cases h : x.testBit 15 = true
  · have := signN_high x 16 (by omega) (by omega) h
    omega
  · have := signN_low x 16 (by omega) (by omega) (by simpa using h)
    omega

/-! ### what may be has its word, and is read again -/
theorem regB_lt {r : Nat} {h : Bool} (hr : regB r h = true) : r < 16 := by
  unfold regB at hr; cases h <;> simp at hr <;> omega
theorem right_lt {c a b d : Nat} {n : Int} (h : rightB c a b d n = true) : c < 23 ∧ a < 16 ∧ b < 16 ∧ d < 16 := by
  unfold rightB at h
  simp only [Bool.and_eq_true, decide_eq_true_eq] at h
  obtain ⟨⟨⟨⟨h1, h2⟩, h3⟩, h4⟩, _⟩ := h
  exact ⟨h1, regB_lt h2, regB_lt h3, regB_lt h4⟩
theorem right_low {c a b d : Nat} {n : Int} (h : rightB c a b d n = true) : (hasC c = true ∧ n = 0) ∨ (hasC c = false ∧ d = 0) := by
  unfold rightB at h
  simp only [Bool.and_eq_true, decide_eq_true_eq] at h
  obtain ⟨⟨⟨⟨h1, _⟩, _⟩, h4⟩, h5⟩ := h
  cases hc : hasC c with
  | true =>
    refine .inl ⟨rfl, ?_⟩
    unfold numB numH at h5
    have hn : hasN c = false := by unfold hasC at hc; unfold hasN; simp at hc ⊢; omega
    rw [hn] at h5; simpa using h5
  | false =>
    refine .inr ⟨rfl, ?_⟩
    rw [hc] at h4; unfold regB at h4; simpa using h4
theorem low_lt (c d : Nat) (n : Int) (hd : d < 16) : lowN c d n < 65536 := by
  unfold lowN; split <;> omega
theorem word_lt {c a b d : Nat} {n : Int} (hc : c < 64) (ha : a < 16) (hb : b < 16) (hd : d < 16) : wordN c a b d n < 4294967296 := by
  unfold wordN
  have := low_lt c d n hd
  omega
theorem word_parts {c a b d : Nat} {n : Int} (hr : rightB c a b d n = true) (hn : -32768 ≤ n ∧ n ≤ 32767) :
    pC (wordN c a b d n) = c ∧ pA (wordN c a b d n) = a ∧ pB (wordN c a b d n) = b ∧ pD (wordN c a b d n) = d ∧ pN (wordN c a b d n) = n := by
  obtain ⟨hc, ha, hb, hd⟩ := right_lt hr
  have hl := low_lt c d n hd
  have e1 : pC (wordN c a b d n) = c := by unfold pC wordN; omega
  have e2 : pA (wordN c a b d n) = a := by unfold pA wordN; omega
  have e3 : pB (wordN c a b d n) = b := by unfold pB wordN; omega
  refine ⟨e1, e2, e3, ?_, ?_⟩
  · unfold pD; rw [e1]
    rcases right_low hr with ⟨h1, h2⟩ | ⟨h1, h2⟩
    · rw [h1]; simp only [if_true]; unfold wordN lowN; rw [h1]; simp only [if_true]; omega
    · rw [h1, h2]; simp
  · unfold pN; rw [e1]
    rcases right_low hr with ⟨h1, h2⟩ | ⟨h1, h2⟩
    · rw [h1, h2]; simp
    · rw [h1]; simp only [Bool.false_eq_true, if_false]
      have e : wordN c a b d n % 65536 = (n % 65536).toNat := by
        unfold wordN lowN; rw [h1]; simp only [Bool.false_eq_true, if_false]; omega
      rw [e]; unfold sgn; split <;> omega
theorem word_is {c a b d : Nat} {n : Int} (hr : rightB c a b d n = true) (hn : -32768 ≤ n ∧ n ≤ 32767) : isW (wordN c a b d n) = true := by
  obtain ⟨e1, e2, e3, e4, e5⟩ := word_parts hr hn
  unfold isW
  rw [e1, e2, e3, e4, e5, hr]; simp
theorem word_inj {c a b d c' a' b' d' : Nat} {n n' : Int} (hr : rightB c a b d n = true) (hn : -32768 ≤ n ∧ n ≤ 32767) (hr' : rightB c' a' b' d' n' = true) (hn' : -32768 ≤ n' ∧ n' ≤ 32767)
    (h : wordN c a b d n = wordN c' a' b' d' n') : c = c' ∧ a = a' ∧ b = b' ∧ d = d' ∧ n = n' := by
  obtain ⟨e1, e2, e3, e4, e5⟩ := word_parts hr hn
  obtain ⟨f1, f2, f3, f4, f5⟩ := word_parts hr' hn'
  rw [h] at e1 e2 e3 e4 e5
  exact ⟨e1.symm.trans f1, e2.symm.trans f2, e3.symm.trans f3, e4.symm.trans f4, e5.symm.trans f5⟩

/-! ### the law's own: near -/
def nC (c : Nat) : Nat := c % 23
def nA (c a : Nat) : Nat := if hasA (nC c) then a % 16 else 0
def nB (c b : Nat) : Nat := if hasB (nC c) then b % 16 else 0
def nD (c d : Nat) : Nat := if hasC (nC c) then d % 16 else 0
def nN (c : Nat) (n : Int) : Int := if nC c = 18 ∨ nC c = 19 then n % 65536 % 9 else if hasN (nC c) then n else 0
theorem near_n {c : Nat} {n : Int} (hn : -32768 ≤ n ∧ n ≤ 32767) : -32768 ≤ nN c n ∧ nN c n ≤ 32767 := by
  unfold nN; split
  · omega
  · split <;> omega
theorem near_right (c a b d : Nat) (n : Int) : rightB (nC c) (nA c a) (nB c b) (nD c d) (nN c n) = true := by
  have hc : nC c < 23 := Nat.mod_lt _ (by omega)
  unfold rightB nA nB nD nN regB numB numH
  simp only [Bool.and_eq_true, decide_eq_true_eq]
  generalize nC c = k at *
  have hr : ∀ (h : Bool) (x : Nat), (if h = true then decide ((if h = true then x % 16 else 0) < 16) else decide ((if h = true then x % 16 else 0) = 0)) = true := by
    intro h x; cases h <;> simp; omega
  refine ⟨⟨⟨⟨hc, hr _ _⟩, hr _ _⟩, hr _ _⟩, ?_⟩
  by_cases h : k = 18 ∨ k = 19
  · have hN : hasN k = true := by unfold hasN; simp; omega
    simp [h, hN]; omega
  · cases hN : hasN k <;> simp [h]

/-- The document's test of fields, written by the document's number. -/
theorem fldN_eq (c : Nat) : fldN c % 2 = (hasA c).toNat ∧ fldN c / 2 % 2 = (hasB c).toNat ∧ fldN c / 4 % 2 = (hasC c).toNat ∧ fldN c / 8 = (hasN c).toNat := by
  unfold fldN
  have h1 : (hasA c).toNat ≤ 1 := by cases hasA c <;> simp
  have h2 : (hasB c).toNat ≤ 1 := by cases hasB c <;> simp
  have h3 : (hasC c).toNat ≤ 1 := by cases hasC c <;> simp
  have h4 : (hasN c).toNat ≤ 1 := by cases hasN c <;> simp
  omega

end Go.Proofs.YtpbjfjedgcabhaaDoor.CM
