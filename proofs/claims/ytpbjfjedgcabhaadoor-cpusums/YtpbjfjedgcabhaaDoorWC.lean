/-
  Contracts of package word (Field, With, Sign, and what they call) and of the document's answers for them: each returns the number that the plain text names; the world is as it was, but for draws.
-/
import Derived.Test.YtpbjfjedgcabhaaDoorRows
import Derived.Test.YtpbjfjedgcabhaaDoorWM
import Derived.WalkKit
import Derived.ProofKit
import Derived.OpenShut
import Derived.Outline
import Derived.WalkLawsBesides
import Derived.Deep.QuietTactic
import Derived.BigQuiet
import Derived.Laws.BitsAllLaws
import Derived.Laws.Bits64b
import Derived.Laws.BitsLemmas
import Derived.Lib.Hide
namespace Go.Proofs.YtpbjfjedgcabhaaDoor
open Go.ChangeShapes Go.WideShapes Go.ChangeAt Go.RowKit
open WM
set_option maxRecDepth 100000

theorem ret_int {k : IntKind} {a b : Int} (h : a = b) : Ending.returned (.int k a) = .returned (.int k b) := by rw [h]
theorem quiet_left {P : Program} {f : FuncId} {args : Array Value} {w : World} {n : Nat} {v : Value}
    (h : Calls P f args (w.drewN n) fun e w' => e = .returned v ∧ w.drewN n = w') : Calls P f args (w.drewN n) fun e w'' => e = .returned v ∧ ∃ m, w'' = w.drewN m :=
  h.mono fun _ _ ⟨he, hm⟩ => ⟨he, n, hm.symm⟩
theorem quiet_add {P : Program} {f : FuncId} {args : Array Value} {w : World} {a n : Nat} {v : Value}
    (h : Calls P f args (w.drewN (a + n)) fun e w' => e = .returned v ∧ ∃ m, w' = (w.drewN (a + n)).drewN m) :
    Calls P f args (w.drewN (a + n)) fun e w'' => e = .returned v ∧ ∃ m, w'' = w.drewN (a + m) :=
  h.mono fun _ _ ⟨he, m, hm⟩ => ⟨he, n + m, by rw [hm, World.drewN_drewN, Nat.add_assoc]⟩
theorem quiet_add_left {P : Program} {f : FuncId} {args : Array Value} {w : World} {a n : Nat} {v : Value}
    (h : Calls P f args (w.drewN (a + n)) fun e w' => e = .returned v ∧ w.drewN (a + n) = w') :
    Calls P f args (w.drewN (a + n)) fun e w'' => e = .returned v ∧ ∃ m, w'' = w.drewN (a + m) :=
  h.mono fun _ _ ⟨he, hm⟩ => ⟨he, n, hm.symm⟩

theorem wrapN (a : Nat) (ha : a < 18446744073709551616) : IntKind.u64.wrap (a : Int) = (a : Int) := by rw [IntKind.wrap_u64]; omega
theorem wrapM (a : Nat) : IntKind.u64.wrap (a : Int) = ((a % 18446744073709551616 : Nat) : Int) := by rw [IntKind.wrap_u64]; omega

/-! ### opening words and numbers; a world behind draws -/
theorem of_u64 {a : Int} (h : (Lit.int .u64 a).wf = true) : ∃ n : Nat, a = n ∧ n < 18446744073709551616 := by
  simp only [Lit.wf, IntKind.min, IntKind.max, IntKind.signed, IntKind.bits, Bool.and_eq_true] at h
  simp at h
  exact ⟨a.toNat, by omega, by omega⟩
theorem of_u8 {a : Int} (h : (Lit.int .u8 a).wf = true) : ∃ n : Nat, a = n ∧ n < 256 := by
  simp only [Lit.wf, IntKind.min, IntKind.max, IntKind.signed, IntKind.bits, Bool.and_eq_true] at h
  simp at h
  exact ⟨a.toNat, by omega, by omega⟩
theorem of_i64 {a : Int} (h : (Lit.int .i64 a).wf = true) : -9223372036854775808 ≤ a ∧ a ≤ 9223372036854775807 := by
  simp only [Lit.wf, IntKind.min, IntKind.max, IntKind.signed, IntKind.bits, Bool.and_eq_true, decide_eq_true_eq] at h
  simp at h
  omega
theorem grown_drewN (w : World) (q : Nat) : Grown w (w.drewN q) := Grown.refl w

theorem shr_lt (x a : Nat) (hx : x < 18446744073709551616) : x / 2 ^ a < 18446744073709551616 := Nat.lt_of_le_of_lt (Nat.div_le_self _ _) hx
theorem shr_cast (x a : Nat) : (x : Int) / 2 ^ a = ((x / 2 ^ a : Nat) : Int) := by simp
theorem shl_cast (x a : Nat) : IntKind.u64.wrap ((x : Int) * 2 ^ a) = ((x * 2 ^ a % 18446744073709551616 : Nat) : Int) := by
  have e : (x : Int) * 2 ^ a = ((x * 2 ^ a : Nat) : Int) := by simp
  rw [e, wrapM]
/-! ### ones, within -/
def onesN (n : Nat) : Nat := 2 ^ min n 64 - 1
theorem onesN_lt (n : Nat) : onesN n < 18446744073709551616 := by
  unfold onesN
  have : 2 ^ min n 64 ≤ 2 ^ 64 := Nat.pow_le_pow_right (by decide) (by omega)
  have : 0 < 2 ^ min n 64 := Nat.two_pow_pos _
  omega
theorem onesN_wrap (n : Nat) : IntKind.u64.wrap (IntKind.u64.wrap (2 ^ min n 64) - 1) = (onesN n : Int) := by
  unfold onesN
  have h1 : 2 ^ min n 64 ≤ 2 ^ 64 := Nat.pow_le_pow_right (by decide) (by omega)
  have h0 : 0 < 2 ^ min n 64 := Nat.two_pow_pos _
  have e : ((2 : Int) ^ min n 64) = ((2 ^ min n 64 : Nat) : Int) := by simp
  rw [e, wrapM, IntKind.wrap_u64]
  generalize 2 ^ min n 64 = t at *
  have : t < 18446744073709551616 ∨ t = 18446744073709551616 := by omega
  rcases this with h | h
  · omega
  · subst h; rfl
theorem ones_in (n : Nat) (w : World) :
    Calls Tryd.prog 70 #[.int .i64 n] w fun e w' => e = .returned (.int .u64 (onesN n : Nat)) ∧ w = w' := by
  go_enter Tryd.func70, Tryd.ntmps70
  go_wp2
  go_ret
  exact ⟨ret_int (onesN_wrap n), rfl⟩
theorem within_yes (a n : Int) (w : World) (h1 : 0 ≤ a) (h2 : a < 64) (h3 : 1 ≤ n) :
    Calls Tryd.prog 69 #[.int .i64 a, .int .i64 n] w fun e w' => e = .returned (.bool true) ∧ w = w' := by
  go_enter Tryd.func69, Tryd.ntmps69
  go_wp2
  all_goals (go_ret; exact ⟨by simp, rfl⟩)
theorem within_no (a n : Int) (w : World) (h : ¬ (0 ≤ a ∧ a < 64 ∧ 1 ≤ n)) :
    Calls Tryd.prog 69 #[.int .i64 a, .int .i64 n] w fun e w' => e = .returned (.bool false) ∧ w = w' := by
  by_cases h1 : 0 ≤ a
  · by_cases h2 : a < 64
    · have h3 : ¬ 1 ≤ n := fun h3 => h ⟨h1, h2, h3⟩
      clear h
      go_enter Tryd.func69, Tryd.ntmps69
      go_wp2
      all_goals (go_ret; exact ⟨by simp, rfl⟩)
    · clear h
      go_enter Tryd.func69, Tryd.ntmps69
      go_wp2
      all_goals (go_ret; exact ⟨by simp, rfl⟩)
  · clear h
    go_enter Tryd.func69, Tryd.ntmps69
    go_wp2
    all_goals (go_ret; exact ⟨by simp, rfl⟩)

/-! ### word.Field -/
theorem field_no (x : Nat) (a n : Int) (w : World) (h : ¬ (0 ≤ a ∧ a < 64 ∧ 1 ≤ n)) :
    Calls Tryd.prog 57 #[.int .u64 x, .int .i64 a, .int .i64 n] w fun e w' => e = .returned (.int .u64 0) ∧ ∃ q, w' = w.drewN q := by
  have c := within_no a n w h
  clear h
  go_enter Tryd.func57, Tryd.ntmps57
  go_wp2_with (go_at_call 69; refine c.mono ?_; rintro e w' ⟨rfl, rfl⟩)
  go_ret
  exact ⟨rfl, 0, rfl⟩
theorem field_val (x a n : Nat) (hx : x < 18446744073709551616) : bits .and .u64 ((x : Int) / 2 ^ a) (onesN n : Nat) = ((fieldN x a n : Nat) : Int) := by
  rw [shr_cast, u64_and_nat _ _ (shr_lt x a hx) (onesN_lt n), onesN, fieldN_and x a n hx]
theorem field_yes (x a n : Nat) (w : World) (hx : x < 18446744073709551616) (h1 : a < 64) (h2 : 1 ≤ n) :
    Calls Tryd.prog 57 #[.int .u64 x, .int .i64 a, .int .i64 n] w fun e w' => e = .returned (.int .u64 (fieldN x a n : Nat)) ∧ ∃ q, w' = w.drewN q := by
  have c := within_yes a n w (by omega) (by omega) (by omega)
  go_enter Tryd.func57, Tryd.ntmps57
  go_wp2_with (go_at_call 69; refine c.mono ?_; rintro e w' ⟨rfl, rfl⟩)
  go_quiet ((go_at_call 70; exact quiet_left (ones_in _ _)))
  go_wp2
  go_ret
  exact ⟨ret_int (field_val x a n hx), _, rfl⟩

/-! ### word.With -/
theorem with_no (x : Nat) (a n : Int) (v : Nat) (w : World) (h : ¬ (0 ≤ a ∧ a < 64 ∧ 1 ≤ n)) :
    Calls Tryd.prog 61 #[.int .u64 x, .int .i64 a, .int .i64 n, .int .u64 v] w fun e w' => e = .returned (.int .u64 x) ∧ w = w' := by
  have c := within_no a n w h
  clear h
  go_enter Tryd.func61, Tryd.ntmps61
  go_wp2_with (go_at_call 69; refine c.mono ?_; rintro e w' ⟨rfl, rfl⟩)
  go_ret
  exact ⟨rfl, rfl⟩
theorem with_val (x a n v : Nat) (hx : x < 18446744073709551616) :
    bits .or .u64 (bits .andNot .u64 (x : Int) (IntKind.u64.wrap ((onesN n : Nat) * 2 ^ a))) (bits .and .u64 (IntKind.u64.wrap ((v : Int) * 2 ^ a)) (IntKind.u64.wrap ((onesN n : Nat) * 2 ^ a))) = ((withN x a n v : Nat) : Int) := by
  rw [shl_cast, shl_cast]
  have em : onesN n * 2 ^ a % 18446744073709551616 = maskN a n := rfl
  have hv : v * 2 ^ a % 18446744073709551616 < 18446744073709551616 := Nat.mod_lt _ (by omega)
  have hm := maskN_lt a n
  have h1 : x &&& (18446744073709551615 - maskN a n) < 18446744073709551616 := Nat.lt_of_le_of_lt Nat.and_le_left hx
  have h2 : v * 2 ^ a % 18446744073709551616 &&& maskN a n < 18446744073709551616 := Nat.lt_of_le_of_lt Nat.and_le_left hv
  rw [em, u64_andNot_nat _ _ hx hm, u64_and_nat _ _ hv hm, u64_or_nat _ _ h1 h2, withN_and]
theorem with_yes (x a n v : Nat) (w : World) (hx : x < 18446744073709551616) (h1 : a < 64) (h2 : 1 ≤ n) :
    Calls Tryd.prog 61 #[.int .u64 x, .int .i64 a, .int .i64 n, .int .u64 v] w fun e w' => e = .returned (.int .u64 (withN x a n v : Nat)) ∧ w = w' := by
  have c := within_yes a n w (by omega) (by omega) (by omega)
  go_enter Tryd.func61, Tryd.ntmps61
  go_wp2_with (first | (go_at_call 69; refine c.mono ?_; rintro e w' ⟨rfl, rfl⟩) | (go_at_call 70; refine (ones_in _ _).mono ?_; rintro e w' ⟨rfl, rfl⟩))
  go_ret
  exact ⟨ret_int (with_val x a n v hx), rfl⟩

/-! ### by whole numbers -/
theorem field_at (x : Nat) (a n : Int) (w : World) (hx : x < 18446744073709551616) (h0 : 0 ≤ a) (h1 : a < 64) (h2 : 1 ≤ n) :
    Calls Tryd.prog 57 #[.int .u64 x, .int .i64 a, .int .i64 n] w fun e w' => e = .returned (.int .u64 (fieldN x a.toNat n.toNat : Nat)) ∧ ∃ q, w' = w.drewN q := by
  obtain ⟨i, rfl⟩ := Int.eq_ofNat_of_zero_le h0
  obtain ⟨k, rfl⟩ := Int.eq_ofNat_of_zero_le (show 0 ≤ n by omega)
  exact field_yes x i k w hx (by omega) (by omega)
theorem with_at (x : Nat) (a n : Int) (v : Nat) (w : World) (hx : x < 18446744073709551616) (h0 : 0 ≤ a) (h1 : a < 64) (h2 : 1 ≤ n) :
    Calls Tryd.prog 61 #[.int .u64 x, .int .i64 a, .int .i64 n, .int .u64 v] w fun e w' => e = .returned (.int .u64 (withN x a.toNat n.toNat v : Nat)) ∧ w = w' := by
  obtain ⟨i, rfl⟩ := Int.eq_ofNat_of_zero_le h0
  obtain ⟨k, rfl⟩ := Int.eq_ofNat_of_zero_le (show 0 ≤ n by omega)
  exact with_yes x i k v w hx (by omega) (by omega)

/-! ### word.Sign -/
theorem sign_no (x : Nat) (n : Int) (w : World) (h : ¬ (1 ≤ n ∧ n ≤ 64)) :
    Calls Tryd.prog 59 #[.int .u64 x, .int .i64 n] w fun e w' => e = .returned (.int .u64 0) ∧ w = w' := by
  by_cases c1 : n < 1
  · clear h
    go_enter Tryd.func59, Tryd.ntmps59
    go_wp2
    go_ret
    exact ⟨rfl, rfl⟩
  · have c2 : 64 < n := by omega
    clear h
    go_enter Tryd.func59, Tryd.ntmps59
    go_wp2
    go_ret
    exact ⟨rfl, rfl⟩
theorem sign_val (x n : Nat) (h1 : 1 ≤ n) (h2 : n ≤ 64) :
    IntKind.u64.wrap (wrap64 (IntKind.u64.wrap ((x : Int) * 2 ^ (64 - n))) / 2 ^ (64 - n)) = ((signN x n : Nat) : Int) := by
  have hX : x * 2 ^ (64 - n) % 18446744073709551616 = x % 2 ^ n * 2 ^ (64 - n) := by
    have e : (18446744073709551616 : Nat) = 2 ^ n * 2 ^ (64 - n) := by rw [← Nat.pow_add, show n + (64 - n) = 64 by omega]
    rw [e, Nat.mul_mod_mul_right]
  have hQP : 2 ^ (n - 1) * 2 ^ (64 - n) = 9223372036854775808 := by rw [← Nat.pow_add, show n - 1 + (64 - n) = 63 by omega]
  have hn : 2 ^ n = 2 * 2 ^ (n - 1) := by
    have e : n = n - 1 + 1 := by omega
    rw [e, Nat.pow_succ]; simp; omega
  have hy : x % 2 ^ n < 2 ^ n := Nat.mod_lt _ (Nat.two_pow_pos n)
  have hb : (x % 2 ^ n).testBit (n - 1) = x.testBit (n - 1) := by
    rw [Nat.testBit_mod_two_pow]; simp; omega
  have hP : 0 < 2 ^ (64 - n) := Nat.two_pow_pos _
  have hlow := signN_low x n h1 h2
  have hhigh := signN_high x n h1 h2
  have hle : 2 ^ n ≤ 2 ^ 64 := Nat.pow_le_pow_right (by decide) h2
  have ep : (2 : Int) ^ (64 - n) = ((2 ^ (64 - n) : Nat) : Int) := by simp
  have ew : ∀ z : Int, wrap64 z = (z + 9223372036854775808) % 18446744073709551616 - 9223372036854775808 := fun _ => by unfold wrap64; rfl
  rw [shl_cast, hX, ew, ep]
  by_cases hc : x % 2 ^ n < 2 ^ (n - 1)
  · rw [← hlow (by rw [← hb]; exact Nat.testBit_lt_two_pow hc)]
    have h : x % 2 ^ n * 2 ^ (64 - n) < 2 ^ (n - 1) * 2 ^ (64 - n) := Nat.mul_lt_mul_of_pos_right hc hP
    rw [hQP] at h
    generalize hY : x % 2 ^ n * 2 ^ (64 - n) = Y at *
    have hd : Y / 2 ^ (64 - n) = x % 2 ^ n := by rw [← hY]; exact Nat.mul_div_cancel _ hP
    have e2 : ((Y : Int) + 9223372036854775808) % 18446744073709551616 - 9223372036854775808 = (Y : Int) := by omega
    rw [e2, ← Int.natCast_ediv, hd, wrapN _ (by omega)]
  · have ht : x.testBit (n - 1) = true := by
      rw [← hb, Nat.testBit_eq_decide_div_mod_eq]
      have : x % 2 ^ n / 2 ^ (n - 1) = 1 := by
        apply Nat.div_eq_of_lt_le
        · omega
        · omega
      simp [this]
    rw [← hhigh ht]
    have h : 2 ^ (n - 1) * 2 ^ (64 - n) ≤ x % 2 ^ n * 2 ^ (64 - n) := Nat.mul_le_mul_right _ (by omega)
    rw [hQP] at h
    have h' : x % 2 ^ n * 2 ^ (64 - n) < 2 ^ n * 2 ^ (64 - n) := Nat.mul_lt_mul_of_pos_right hy hP
    have hR : 2 ^ n * 2 ^ (64 - n) = 18446744073709551616 := by rw [← Nat.pow_add, show n + (64 - n) = 64 by omega]
    rw [hR] at h'
    generalize hY : x % 2 ^ n * 2 ^ (64 - n) = Y at *
    have e2 : ((Y : Int) + 9223372036854775808) % 18446744073709551616 - 9223372036854775808 = (Y : Int) - 18446744073709551616 := by omega
    have e3 : (Y : Int) - 18446744073709551616 = ((x % 2 ^ n : Nat) - ((2 ^ n : Nat) : Int)) * ((2 ^ (64 - n) : Nat) : Int) := by
      rw [Int.sub_mul, ← Int.natCast_mul, ← Int.natCast_mul, hY, hR]; rfl
    rw [e2, e3, Int.mul_ediv_cancel _ (by omega), IntKind.wrap_u64]
    generalize 2 ^ n = R at *
    omega
theorem sign_yes (x n : Nat) (w : World) (h1 : 1 ≤ n) (h2 : n ≤ 64) :
    Calls Tryd.prog 59 #[.int .u64 x, .int .i64 n] w fun e w' => e = .returned (.int .u64 (signN x n : Nat)) ∧ w = w' := by
  go_enter Tryd.func59, Tryd.ntmps59
  go_wp2
  go_ret
  exact ⟨ret_int (sign_val x n h1 h2), rfl⟩

end Go.Proofs.YtpbjfjedgcabhaaDoor
