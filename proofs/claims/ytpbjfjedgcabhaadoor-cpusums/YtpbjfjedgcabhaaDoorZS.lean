/-
  CpuSums: the program of the law, step by step, plain.
-/
import Derived.Test.YtpbjfjedgcabhaaDoorZO
namespace Go.Proofs.YtpbjfjedgcabhaaDoor
open Go.ChangeShapes Go.WideShapes Go.ChangeAt Go.RowKit
open WM CM
set_option maxRecDepth 100000
set_option linter.unusedVariables false

theorem st_exec (s : SV) (m : MV) (c a b d : Nat) (n : Int) (hst : s.st = 0) (hop : s.op = false) (hba : s.ba = 0) (hrd : rd m 0 s.pc 4 = some (wordN c a b d n)) (hr : rightB c a b d n = true) (hn : -32768 ≤ n ∧ n ≤ 32767) :
    stV s m 0 0 = doV s m c a b d n 0 0 := by
  unfold stV
  rw [if_neg (by omega), if_neg (by rw [hop]; rintro ⟨h, _⟩; cases h), hba, hrd]
  obtain ⟨e1, e2, e3, e4, e5⟩ := word_parts hr hn
  simp only [word_is hr hn, if_true, e1, e2, e3, e4, e5]
def suL (fr : Int) (k i : Nat) : Nat := [wordN 1 1 0 0 0, wordN 1 2 0 0 fr, wordN 1 3 0 0 k, wordN 14 3 0 0 5, wordN 3 1 1 2 0, wordN 11 2 2 0 1, wordN 11 3 3 0 (-1), wordN 14 10 10 0 (-4), wordN 21 0 0 0 0].getD i 0
def suF (fr : Int) (k j : Nat) : Nat := byteN (suL fr k (j / 4)) (j % 4)
theorem suF_lt (fr : Int) (k j : Nat) : suF fr k j < 256 := byteN_lt _ _
def suM (fr : Int) (k : Nat) : MV := svM 1 0 36 0 (suF fr k) (fun _ => 0) 32
theorem suL_lt (fr : Int) (k i : Nat) : suL fr k i < 4294967296 := by
  unfold suL
  match i with
  | 0 => exact word_lt (by decide) (by decide) (by decide) (by decide)
  | 1 => exact word_lt (by decide) (by decide) (by decide) (by decide)
  | 2 => exact word_lt (by decide) (by decide) (by decide) (by decide)
  | 3 => exact word_lt (by decide) (by decide) (by decide) (by decide)
  | 4 => exact word_lt (by decide) (by decide) (by decide) (by decide)
  | 5 => exact word_lt (by decide) (by decide) (by decide) (by decide)
  | 6 => exact word_lt (by decide) (by decide) (by decide) (by decide)
  | 7 => exact word_lt (by decide) (by decide) (by decide) (by decide)
  | 8 => exact word_lt (by decide) (by decide) (by decide) (by decide)
  | i + 9 => simp
theorem of4 (f : Nat → Nat) (x : Nat) (hx : x < 4294967296) (h : ∀ i, i < 4 → f i = byteN x i) : ofN f 4 = x := by
  simp only [ofN]
  rw [h 0 (by omega), h 1 (by omega), h 2 (by omega), h 3 (by omega)]
  unfold byteN
  simp
  omega
theorem su_rd (fr : Int) (k i : Nat) (hi : i < 9) : rd (suM fr k) 0 (4 * i) 4 = some (suL fr k i) := by
  have hf : fdP (suM fr k) 0 (4 * i) 4 false = some 0 := by
    unfold fdP
    rw [if_neg (by omega), if_neg (by omega), if_pos rfl]
    congr 1; omega
  unfold rd
  rw [hf]
  show ldw (suM fr k) 0 (4 * i % 256) 4 = some (suL fr k i)
  unfold ldw
  have hh : (suM fr k).he 0 = true := by
    show (decide (0 < 32) && bitB 1 0) = true
    decide
  rw [if_pos hh]
  refine congrArg some ?_
  apply of4 _ _ (suL_lt fr k i)
  intro j hj
  show (if 0 % 2 = 0 then padF (suF fr k) 36 (4 * i % 256 + j) else padF (fun _ => 0) 0 (4 * i % 256 + j)) = byteN (suL fr k i) j
  rw [if_pos rfl]
  unfold padF
  rw [if_pos (by omega)]
  unfold suF
  rw [show (4 * i % 256 + j) / 4 = i by omega, show (4 * i % 256 + j) % 4 = j by omega]
def suS (a b c p : Nat) : SV := { SV.zero with r := fun i => if i = 1 then a else if i = 2 then b else if i = 3 then c else 0, pc := p }
theorem suS_1 (a b c p v : Nat) : setR (suS a b c p) 1 v = suS v b c p := by
  unfold setR suS
  congr 1
  funext i
  by_cases h : i = 1
  · simp [h]
  · simp [h]
theorem suS_2 (a b c p v : Nat) : setR (suS a b c p) 2 v = suS a v c p := by
  unfold setR suS
  congr 1
  funext i
  by_cases h : i = 2
  · simp [h]
  · simp [h]
theorem suS_3 (a b c p v : Nat) : setR (suS a b c p) 3 v = suS a b v p := by
  unfold setR suS
  congr 1
  funext i
  by_cases h : i = 3
  · simp [h]
  · simp [h]
theorem suS_n (a b c p : Nat) (hp : p < 18446744073709551612) : nextV (suS a b c p) = suS a b c (p + 4) := by
  show ({ suS a b c p with pc := (p + 4) % 18446744073709551616 } : SV) = _
  rw [Nat.mod_eq_of_lt (by omega)]
  rfl
theorem su_r (a b c p : Nat) : (suS a b c p).r 1 = a ∧ (suS a b c p).r 2 = b ∧ (suS a b c p).r 3 = c ∧ (suS a b c p).r 0 = 0 ∧ (suS a b c p).r 10 = 0 := ⟨rfl, rfl, rfl, rfl, rfl⟩
theorem doV_r (s : SV) (m : MV) (c a b d : Nat) (n : Int) (hc : 1 ≤ c ∧ c ≤ 11) : doV s m c a b d n 0 0 = (nextV (setR s a (reckN s c a b d n)), m, 0, 0) := by
  unfold doV
  rw [if_neg (by omega), if_neg (by omega), if_neg (by omega), if_neg (by omega), if_neg (by omega), if_neg (by omega), if_neg (by omega), if_neg (by omega), if_neg (by omega), if_neg (by omega)]
theorem doV_b (s : SV) (m : MV) (a b d : Nat) (n : Int) : doV s m 14 a b d n 0 0 = (branchV s 14 a b n, m, 0, 0) := by
  unfold doV
  rw [if_neg (by decide), if_neg (by decide), if_neg (by decide), if_neg (by decide), if_pos (by decide)]
theorem doV_w (s : SV) (m : MV) (a b d : Nat) (n : Int) : doV s m 21 a b d n 0 0 = (waitV s, m, waitK s, 0) := by
  unfold doV
  rw [if_neg (by decide), if_neg (by decide), if_neg (by decide), if_neg (by decide), if_neg (by decide), if_neg (by decide), if_neg (by decide), if_pos (by decide)]
theorem reckN_11 (s : SV) (a b d : Nat) (n : Int) : reckN s 11 a b d n = (s.r b + kN n) % 18446744073709551616 := rfl
section
variable (fr : Int) (k a b c : Nat)
theorem su_at (i : Nat) (hi : i < 9) (c' a' b' d' : Nat) (n' : Int) (he : suL fr k i = wordN c' a' b' d' n') (hr : rightB c' a' b' d' n' = true) (hn : -32768 ≤ n' ∧ n' ≤ 32767) : stV (suS a b c (4 * i)) (suM fr k) 0 0 = doV (suS a b c (4 * i)) (suM fr k) c' a' b' d' n' 0 0 :=
  st_exec _ _ _ _ _ _ _ rfl rfl rfl (by rw [← he]; exact su_rd fr k i hi) hr hn
theorem right_li (x : Nat) (n : Int) (hx : x < 16) : rightB 1 x 0 0 n = true := by
  unfold rightB regB numB numH hasA hasB hasC hasN
  simp [hx]
theorem su_0 : stV (suS a b c 0) (suM fr k) 0 0 = (suS 0 b c 4, suM fr k, 0, 0) := by
  rw [su_at fr k a b c 0 (by decide) 1 1 0 0 0 rfl (by decide) (by decide), doV_r _ _ _ _ _ _ _ (by decide)]
  show (nextV (setR (suS a b c 0) 1 (kN 0)), _, _, _) = _
  rw [suS_1, suS_n _ _ _ _ (by decide)]
  rfl
theorem su_1 (hf : -32768 ≤ fr ∧ fr ≤ 32767) : stV (suS a b c 4) (suM fr k) 0 0 = (suS a (kN fr) c 8, suM fr k, 0, 0) := by
  rw [su_at fr k a b c 1 (by decide) 1 2 0 0 fr rfl (right_li 2 fr (by decide)) hf, doV_r _ _ _ _ _ _ _ (by decide)]
  show (nextV (setR (suS a b c 4) 2 (kN fr)), _, _, _) = _
  rw [suS_2, suS_n _ _ _ _ (by decide)]
theorem su_2 (hk : k < 50) : stV (suS a b c 8) (suM fr k) 0 0 = (suS a b k 12, suM fr k, 0, 0) := by
  rw [su_at fr k a b c 2 (by decide) 1 3 0 0 k rfl (right_li 3 _ (by decide)) (by omega), doV_r _ _ _ _ _ _ _ (by decide)]
  show (nextV (setR (suS a b c 8) 3 (kN (k : Int))), _, _, _) = _
  rw [suS_3, suS_n _ _ _ _ (by decide), show kN (k : Int) = k by unfold kN; omega]
theorem su_3go : stV (suS a b 0 12) (suM fr k) 0 0 = (suS a b 0 32, suM fr k, 0, 0) := by
  rw [su_at fr k a b 0 3 (by decide) 14 3 0 0 5 rfl (by decide) (by decide), doV_b]
  rfl
theorem su_3no (hc : c ≠ 0) : stV (suS a b c 12) (suM fr k) 0 0 = (suS a b c 16, suM fr k, 0, 0) := by
  rw [su_at fr k a b c 3 (by decide) 14 3 0 0 5 rfl (by decide) (by decide), doV_b]
  have hg : goesB 14 ((suS a b c (4 * 3)).r 3) ((suS a b c (4 * 3)).r 0) = false := by
    unfold goesB
    rw [if_pos rfl]
    show decide (c = 0) = false
    simp [hc]
  unfold branchV
  rw [hg]
  simp only [Bool.false_eq_true, if_false]
  rw [suS_n _ _ _ _ (by decide)]
theorem su_4 : stV (suS a b c 16) (suM fr k) 0 0 = (suS ((a + b) % 18446744073709551616) b c 20, suM fr k, 0, 0) := by
  rw [su_at fr k a b c 4 (by decide) 3 1 1 2 0 rfl (by decide) (by decide), doV_r _ _ _ _ _ _ _ (by decide)]
  show (nextV (setR (suS a b c 16) 1 ((a + b) % 18446744073709551616)), _, _, _) = _
  rw [suS_1, suS_n _ _ _ _ (by decide)]
theorem su_5 : stV (suS a b c 20) (suM fr k) 0 0 = (suS a ((b + 1) % 18446744073709551616) c 24, suM fr k, 0, 0) := by
  rw [su_at fr k a b c 5 (by decide) 11 2 2 0 1 rfl (by decide) (by decide), doV_r _ _ _ _ _ _ _ (by decide)]
  show (nextV (setR (suS a b c 20) 2 ((b + kN 1) % 18446744073709551616)), _, _, _) = _
  rw [suS_2, suS_n _ _ _ _ (by decide), show kN 1 = 1 by decide]
theorem su_6 (hc : c ≠ 0) (hc2 : c < 18446744073709551616) : stV (suS a b c 24) (suM fr k) 0 0 = (suS a b (c - 1) 28, suM fr k, 0, 0) := by
  rw [su_at fr k a b c 6 (by decide) 11 3 3 0 (-1) rfl (by decide) (by decide), doV_r _ _ _ _ _ _ _ (by decide)]
  rw [reckN_11, show (suS a b c (4 * 6)).r 3 = c from rfl, show kN (-1) = 18446744073709551615 by decide, show (c + 18446744073709551615) % 18446744073709551616 = c - 1 by omega, suS_3, suS_n _ _ _ _ (by decide)]
theorem su_7 : stV (suS a b c 28) (suM fr k) 0 0 = (suS a b c 12, suM fr k, 0, 0) := by
  rw [su_at fr k a b c 7 (by decide) 14 10 10 0 (-4) rfl (by decide) (by decide), doV_b]
  have hg : goesB 14 ((suS a b c (4 * 7)).r 10) ((suS a b c (4 * 7)).r 10) = true := by
    unfold goesB
    rw [if_pos rfl]
    exact decide_eq_true rfl
  have hp : brV (suS a b c (4 * 7)) (-4) = suS a b c 12 := by
    unfold brV
    have e : ((suS a b c (4 * 7)).pc + 4 * kN (-4)) % 18446744073709551616 = 12 := by
      show (4 * 7 + 4 * kN (-4)) % 18446744073709551616 = 12
      decide
    rw [e]
    rfl
  unfold branchV
  rw [if_pos hg, hp]
theorem su_8 : stV (suS a b c 32) (suM fr k) 0 0 = ({ suS a b c 36 with st := 1 }, suM fr k, 3, 0) := by
  rw [su_at fr k a b c 8 (by decide) 21 0 0 0 0 rfl (by decide) (by decide), doV_w]
  have h : coN (suS a b c (4 * 8)) = 0 := by show (0 &&& 0 : Nat) = 0; decide
  have hn : nextV { suS a b c (4 * 8) with st := 1 } = { suS a b c 36 with st := 1 } := rfl
  unfold waitV waitK
  rw [if_pos h, if_pos h, hn]
end

/-! ### the whole run -/
/-- The sum of the first t numbers. -/
def suX (fr : Int) : Nat → Nat
  | 0 => 0
  | t + 1 => (suX fr t + (kN fr + t) % 18446744073709551616) % 18446744073709551616
/-- The seat behind j instructions. -/
def suAt (fr : Int) (k : Nat) : Nat → SV
  | 0 => SV.zero
  | j + 1 => (stV (suAt fr k j) (suM fr k) 0 0).1
theorem suX_lt (fr : Int) (t : Nat) : suX fr t < 18446744073709551616 := by
  cases t with
  | zero => simp [suX]
  | succ t => exact Nat.mod_lt _ (by omega)
section
variable (fr : Int) (k : Nat) (hf : -32768 ≤ fr ∧ fr ≤ 32767) (hk : k < 50)
theorem suAt_next (j : Nat) (x y : SV) (q : Int) (hx : suAt fr k j = x) (h : stV x (suM fr k) 0 0 = (y, suM fr k, q, 0)) : suAt fr k (j + 1) = y := by
  show (stV (suAt fr k j) (suM fr k) 0 0).1 = y
  rw [hx, h]
include hf hk in
theorem suAt_loop (t : Nat) (ht : t ≤ k) : suAt fr k (3 + 5 * t) = suS (suX fr t) ((kN fr + t) % 18446744073709551616) (k - t) 12 := by
  induction t with
  | zero =>
    have e0 : suAt fr k 0 = suS 0 0 0 0 := by
      show SV.zero = suS 0 0 0 0
      unfold suS
      have : (fun i : Nat => if i = 1 then 0 else if i = 2 then 0 else if i = 3 then 0 else 0) = fun _ => 0 := by funext i; simp
      rw [this]
      rfl
    have e1 := suAt_next fr k 0 _ _ 0 e0 (su_0 fr k 0 0 0)
    have e2 := suAt_next fr k 1 _ _ 0 e1 (su_1 fr k 0 0 0 hf)
    have e3 := suAt_next fr k 2 _ _ 0 e2 (su_2 fr k 0 (kN fr) 0 hk)
    have hkn := kN_lt fr
    rw [show 3 + 5 * 0 = 2 + 1 by rfl, e3, Nat.add_zero, Nat.mod_eq_of_lt hkn]
    rfl
  | succ t ih =>
    have e0 := ih (by omega)
    have e1 := suAt_next fr k _ _ _ 0 e0 (su_3no fr k _ _ _ (by omega))
    have e2 := suAt_next fr k _ _ _ 0 e1 (su_4 fr k _ _ _)
    have e3 := suAt_next fr k _ _ _ 0 e2 (su_5 fr k _ _ _)
    have e4 := suAt_next fr k _ _ _ 0 e3 (su_6 fr k _ _ _ (by omega) (by omega))
    have e5 := suAt_next fr k _ _ _ 0 e4 (su_7 fr k _ _ _)
    rw [show 3 + 5 * (t + 1) = 3 + 5 * t + 1 + 1 + 1 + 1 + 1 by omega, e5]
    have a1 : ((kN fr + t) % 18446744073709551616 + 1) % 18446744073709551616 = (kN fr + (t + 1)) % 18446744073709551616 := by omega
    have a2 : k - t - 1 = k - (t + 1) := by omega
    rw [a1, a2]
    rfl
/-- Every step but the last is done, memory as it was. -/
def suGood (s : SV) (q : Int) : Prop := stV s (suM fr k) 0 0 = ((stV s (suM fr k) 0 0).1, suM fr k, q, 0) ∧ s.ok
theorem suS_ok (a b c p : Nat) (ha : a < 18446744073709551616) (hb : b < 18446744073709551616) (hc : c < 18446744073709551616) (hp : p < 18446744073709551616) : (suS a b c p).ok := by
  refine ⟨fun i hi => ?_, hp, by simp [suS, SV.zero], by simp [suS, SV.zero], by simp [suS, SV.zero], by simp [suS, SV.zero], by simp [suS, SV.zero], by simp [suS, SV.zero], by simp [suS, SV.zero], by simp [suS, SV.zero]⟩
  show (if i = 1 then a else if i = 2 then b else if i = 3 then c else 0) < _
  split
  · exact ha
  · split
    · exact hb
    · split
      · exact hc
      · decide
theorem good_of {s y : SV} {q : Int} (h : stV s (suM fr k) 0 0 = (y, suM fr k, q, 0)) (hok : s.ok) : suGood fr k s q := ⟨by rw [h], hok⟩
include hf hk in
theorem suAt_good (j : Nat) (hj : j < 4 + 5 * k) : suGood fr k (suAt fr k j) 0 := by
  have e0 : suAt fr k 0 = suS 0 0 0 0 := by
    show SV.zero = suS 0 0 0 0
    unfold suS
    have : (fun i : Nat => if i = 1 then 0 else if i = 2 then 0 else if i = 3 then 0 else 0) = fun _ => 0 := by funext i; simp
    rw [this]
    rfl
  have e1 := suAt_next fr k 0 _ _ 0 e0 (su_0 fr k 0 0 0)
  have e2 := suAt_next fr k 1 _ _ 0 e1 (su_1 fr k 0 0 0 hf)
  have hkn := kN_lt fr
  by_cases h0 : j = 0
  · subst h0; rw [e0]; exact good_of fr k (su_0 fr k 0 0 0) (suS_ok _ _ _ _ (by decide) (by decide) (by decide) (by decide))
  by_cases h1 : j = 1
  · subst h1; rw [e1]; exact good_of fr k (su_1 fr k 0 0 0 hf) (suS_ok _ _ _ _ (by decide) (by decide) (by decide) (by decide))
  by_cases h2 : j = 2
  · subst h2; rw [e2]; exact good_of fr k (su_2 fr k 0 (kN fr) 0 hk) (suS_ok _ _ _ _ (by decide) hkn (by decide) (by decide))
  obtain ⟨t, r, hr, rfl⟩ : ∃ t r, r < 5 ∧ j = 3 + 5 * t + r := ⟨(j - 3) / 5, (j - 3) % 5, Nat.mod_lt _ (by decide), by omega⟩
  have htk : t ≤ k := by omega
  have hX := suX_lt fr t
  have hm : (kN fr + t) % 18446744073709551616 < 18446744073709551616 := Nat.mod_lt _ (by omega)
  have f0 := suAt_loop fr k hf hk t htk
  by_cases hz : k - t = 0
  · obtain rfl : r = 0 := by omega
    rw [show 3 + 5 * t + 0 = 3 + 5 * t by rfl, f0, hz]
    exact good_of fr k (su_3go fr k _ _) (suS_ok _ _ _ _ hX hm (by decide) (by decide))
  have f1 := suAt_next fr k _ _ _ 0 f0 (su_3no fr k _ _ _ hz)
  have f2 := suAt_next fr k _ _ _ 0 f1 (su_4 fr k _ _ _)
  have f3 := suAt_next fr k _ _ _ 0 f2 (su_5 fr k _ _ _)
  have f4 := suAt_next fr k _ _ _ 0 f3 (su_6 fr k _ _ _ hz (by omega))
  have hrr : r = 0 ∨ r = 1 ∨ r = 2 ∨ r = 3 ∨ r = 4 := by omega
  rcases hrr with rfl | rfl | rfl | rfl | rfl
  · rw [show 3 + 5 * t + 0 = 3 + 5 * t by rfl, f0]
    exact good_of fr k (su_3no fr k _ _ _ hz) (suS_ok _ _ _ _ hX hm (by omega) (by decide))
  · rw [f1]
    exact good_of fr k (su_4 fr k _ _ _) (suS_ok _ _ _ _ hX hm (by omega) (by decide))
  · rw [show 3 + 5 * t + 2 = 3 + 5 * t + 1 + 1 by rfl, f2]
    exact good_of fr k (su_5 fr k _ _ _) (suS_ok _ _ _ _ (Nat.mod_lt _ (by omega)) hm (by omega) (by decide))
  · rw [show 3 + 5 * t + 3 = 3 + 5 * t + 1 + 1 + 1 by rfl, f3]
    exact good_of fr k (su_6 fr k _ _ _ hz (by omega)) (suS_ok _ _ _ _ (Nat.mod_lt _ (by omega)) (Nat.mod_lt _ (by omega)) (by omega) (by decide))
  · rw [show 3 + 5 * t + 4 = 3 + 5 * t + 1 + 1 + 1 + 1 by rfl, f4]
    exact good_of fr k (su_7 fr k _ _ _) (suS_ok _ _ _ _ (Nat.mod_lt _ (by omega)) (Nat.mod_lt _ (by omega)) (by omega) (by decide))
include hf hk in
theorem suAt_last : suGood fr k (suAt fr k (4 + 5 * k)) 3 ∧ suAt fr k (5 + 5 * k) = { suS (suX fr k) ((kN fr + k) % 18446744073709551616) 0 36 with st := 1 } := by
  have f0 := suAt_loop fr k hf hk k (Nat.le_refl _)
  rw [Nat.sub_self] at f0
  have f1 := suAt_next fr k _ _ _ 0 f0 (su_3go fr k _ _)
  have f2 := suAt_next fr k _ _ _ 3 f1 (su_8 fr k _ _ _)
  refine ⟨?_, ?_⟩
  · rw [show 4 + 5 * k = 3 + 5 * k + 1 by omega, f1]
    exact good_of fr k (su_8 fr k _ _ _) (suS_ok _ _ _ _ (suX_lt fr k) (Nat.mod_lt _ (by omega)) (by decide) (by decide))
  · rw [show 5 + 5 * k = 3 + 5 * k + 1 + 1 by omega, f2]
end
end Go.Proofs.YtpbjfjedgcabhaaDoor
