/-
  Contracts of word.Mix, of what it calls (math/bits.Mul64, RotateLeft64), and of the document's Mix: the same number, from the product of 128 bits.
-/
import Derived.Test.YtjhiapailgbmkaaWC
namespace Go.Proofs.Ytjhiapailgbmkaa
open Go.ChangeShapes Go.WideShapes Go.ChangeAt Go.RowKit
open WM
set_option maxRecDepth 100000

theorem mask32 (a : Nat) (ha : a < 18446744073709551616) : bits .and .u64 (a : Int) 4294967295 = ((a % 4294967296 : Nat) : Int) := by
  have h := u64_and_nat a 4294967295 ha (by omega)
  have e : a &&& 4294967295 = a % 4294967296 := Nat.and_two_pow_sub_one_eq_mod a 32
  rw [e] at h
  exact h
theorem div32 (a : Nat) : (a : Int) / 4294967296 = ((a / 4294967296 : Nat) : Int) := by omega
theorem mulN (a b : Nat) : (a : Int) * (b : Int) = ((a * b : Nat) : Int) := (Int.natCast_mul a b).symm
theorem addN (a b : Nat) : (a : Int) + (b : Int) = ((a + b : Nat) : Int) := (Int.natCast_add a b).symm

set_option maxHeartbeats 1000000 in
theorem mul64_in (x y : Nat) (hx : x < 18446744073709551616) (hy : y < 18446744073709551616) (w : World) :
    Calls Try.prog 29 #[.int .u64 x, .int .u64 y] w fun e w' => e = .returned (.tuple #[.int .u64 ((x * y / 18446744073709551616 : Nat) : Int), .int .u64 ((x * y % 18446744073709551616 : Nat) : Int)]) ∧ w = w' := by
  obtain ⟨bd, bt, bw, hhi⟩ := Lib.mul64_hi x y hx hy
  have ba := Lib.half_mul_le (a := x / 4294967296) (b := y / 4294967296) (by omega) (by omega)
  have bb := Lib.half_mul_le (a := x / 4294967296) (b := y % 4294967296) (by omega) (by omega)
  have bc := Lib.half_mul_le (a := x % 4294967296) (b := y / 4294967296) (by omega) (by omega)
  have ba' : x / 4294967296 * (y / 4294967296) < 18446744073709551616 := by omega
  have bb' : x / 4294967296 * (y % 4294967296) < 18446744073709551616 := by omega
  have bc' : x % 4294967296 * (y / 4294967296) < 18446744073709551616 := by omega
  have bh1 : x / 4294967296 * (y / 4294967296) + (x / 4294967296 * (y % 4294967296) + x % 4294967296 * (y % 4294967296) / 4294967296) / 4294967296 < 18446744073709551616 := by omega
  have bh : x / 4294967296 * (y / 4294967296) + (x / 4294967296 * (y % 4294967296) + x % 4294967296 * (y % 4294967296) / 4294967296) / 4294967296 + ((x / 4294967296 * (y % 4294967296) + x % 4294967296 * (y % 4294967296) / 4294967296) % 4294967296 + x % 4294967296 * (y / 4294967296)) / 4294967296 < 18446744073709551616 := by omega
  go_enter Try.func29, Try.ntmps29
  go_wp2
  simp only [mask32 x hx, mask32 y hy, div32, mulN, addN, wrapN _ bd, wrapN _ bb', wrapN _ bt, mask32 _ bt, wrapN _ bc', wrapN _ bw, wrapN _ ba', wrapN _ bh1, wrapN _ bh, wrapM (x * y)]
  rw [hhi]
  go_ret2
  exact ⟨rfl, rfl⟩

theorem rot_val (x : Nat) (hx : x < 18446744073709551616) : bits .or .u64 (IntKind.u64.wrap ((x : Int) * 131072)) ((x : Int) / 140737488355328) = ((turnN x : Nat) : Int) := by
  have e1 : (x : Int) * 131072 = ((x * 131072 : Nat) : Int) := by simp
  have e2 : (x : Int) / 140737488355328 = ((x / 140737488355328 : Nat) : Int) := by simp
  rw [e1, e2, wrapM, u64_or_nat _ _ (Nat.mod_lt _ (by omega)) (by omega), turn_or x hx]
theorem rot_in (x : Nat) (w : World) (hx : x < 18446744073709551616) :
    Calls Try.prog 30 #[.int .u64 x, .int .i64 17] w fun e w' => e = .returned (.int .u64 (turnN x : Nat)) ∧ w = w' := by
  have h17 : bits .and .u64 17 63 = 17 := by decide
  go_enter Try.func30, Try.ntmps30
  go_wp2
  go_ret
  exact ⟨ret_int (rot_val x hx), rfl⟩
theorem xorN (a b : Nat) (ha : a < 18446744073709551616) (hb : b < 18446744073709551616) : bits .xor .u64 (a : Int) (b : Int) = ((a ^^^ b : Nat) : Int) := u64_xor_nat a b ha hb
theorem mix_walk (s v X hi lo t r : Nat) (w : World) (hX : bits .xor .u64 (s : Int) (v : Int) = (X : Int)) (hR : bits .xor .u64 (t : Int) (lo : Int) = (r : Int))
    (c1 : Calls Try.prog 29 #[.int .u64 X, .int .u64 11400714819323198485] w fun e w' => e = .returned (.tuple #[.int .u64 hi, .int .u64 lo]) ∧ w = w')
    (c2 : Calls Try.prog 30 #[.int .u64 hi, .int .i64 17] w fun e w' => e = .returned (.int .u64 t) ∧ w = w') :
    Calls Try.prog 24 #[.int .u64 s, .int .u64 v] w fun e w' => e = .returned (.int .u64 r) ∧ w = w' := by
  go_enter Try.func24, Try.ntmps24
  go_wp2_with (first | (go_at_call 29; refine c1.mono ?_; rintro e w' ⟨rfl, rfl⟩) | (go_at_call 30; refine c2.mono ?_; rintro e w' ⟨rfl, rfl⟩))
  go_ret
  exact ⟨rfl, rfl⟩
theorem mix_in (s v : Nat) (w : World) (hs : s < 18446744073709551616) (hv : v < 18446744073709551616) :
    Calls Try.prog 24 #[.int .u64 s, .int .u64 v] w fun e w' => e = .returned (.int .u64 (mixN s v : Nat)) ∧ w = w' := by
  have hx := xor_lt s v hs hv
  have hd := prod_div_lt (s ^^^ v) hx
  have hm : prodN (s ^^^ v) % 18446744073709551616 < 18446744073709551616 := Nat.mod_lt _ (by omega)
  exact mix_walk s v (s ^^^ v) (prodN (s ^^^ v) / 18446744073709551616) (prodN (s ^^^ v) % 18446744073709551616) (turnN (prodN (s ^^^ v) / 18446744073709551616)) _ w
    (xorN s v hs hv) (xorN _ _ (turn_lt _ hd) hm) (mul64_in (s ^^^ v) 11400714819323198485 hx (by omega) w) (rot_in _ w hd)

theorem tdivN (a b : Nat) : (a : Int).tdiv (b : Int) = ((a / b : Nat) : Int) := by rw [Int.tdiv_eq_ediv_of_nonneg (Int.natCast_nonneg _)]; simp
theorem tmodN (a b : Nat) : (a : Int).tmod (b : Int) = ((a % b : Nat) : Int) := by rw [Int.tmod_eq_emod_of_nonneg (Int.natCast_nonneg _)]; simp
theorem tdiv32 (a : Nat) : (a : Int).tdiv 4294967296 = ((a / 4294967296 : Nat) : Int) := tdivN a 4294967296
theorem tdiv47 (a : Nat) : (a : Int).tdiv 140737488355328 = ((a / 140737488355328 : Nat) : Int) := tdivN a 140737488355328
theorem tmod32 (a : Nat) : (a : Int).tmod 4294967296 = ((a % 4294967296 : Nat) : Int) := tmodN a 4294967296
theorem mod32 (a : Nat) : (a : Int) % 4294967296 = ((a % 4294967296 : Nat) : Int) := by omega
theorem mulc (a : Nat) : (a : Int) * 2654435769 = ((a * 2654435769 : Nat) : Int) := by omega
theorem muld (a : Nat) : (a : Int) * 2135587861 = ((a * 2135587861 : Nat) : Int) := by omega
theorem mul17 (a : Nat) : (a : Int) * 131072 = ((a * 131072 : Nat) : Int) := by omega
theorem mul32 (a : Nat) : (a : Int) * 4294967296 = ((a * 4294967296 : Nat) : Int) := by omega
theorem low_up (t : Nat) : t % 4294967296 * 4294967296 < 18446744073709551616 := by omega
set_option maxHeartbeats 1000000 in
theorem refmix_in (s v : Nat) (w : World) (hs : s < 18446744073709551616) (hv : v < 18446744073709551616) :
    Calls Try.prog 25 #[.int .u64 s, .int .u64 v] w fun e w' => e = .returned (.int .u64 (mixN s v : Nat)) ∧ w = w' := by
  have hX := xorN s v hs hv
  go_enter Try.func25, Try.ntmps25
  go_wp2
  go_ret
  refine ⟨ret_int ?_, rfl⟩
  have hx := xor_lt s v hs hv
  unfold mixN
  generalize s ^^^ v = X at *
  obtain ⟨_, b2, b3, _, b5, b6, b7, ehi, elo⟩ := halves X hx
  have hd := prod_div_lt X hx
  have hm : prodN X % 18446744073709551616 < 18446744073709551616 := Nat.mod_lt _ (by omega)
  have b8 : X / 4294967296 < 18446744073709551616 := by omega
  have b10 : (X / 4294967296 * 2135587861 + X % 4294967296 * 2135587861 / 4294967296) / 4294967296 < 18446744073709551616 := Nat.lt_of_le_of_lt (Nat.div_le_self _ _) b3
  have b11 : (X % 4294967296 * 2654435769 + (X / 4294967296 * 2135587861 + X % 4294967296 * 2135587861 / 4294967296) % 4294967296) / 4294967296 < 18446744073709551616 := Nat.lt_of_le_of_lt (Nat.div_le_self _ _) b5
  have b12 : (X % 4294967296 * 2654435769 + (X / 4294967296 * 2135587861 + X % 4294967296 * 2135587861 / 4294967296) % 4294967296) % 4294967296 * 4294967296 < 18446744073709551616 := low_up _
  simp only [div32, mod32, mulc, muld, mul17, mul32, tdiv32, tmod32, addN, wrapN _ b8, wrapN _ b2, wrapN _ b3, wrapN _ b5, wrapN _ b6, wrapN _ b7, wrapN _ hd, wrapN _ b10, wrapN _ b11, wrapN _ b12, wrapN _ hm, ehi, elo]
  rw [wrapM, tdiv47, wrapN _ (Nat.lt_of_le_of_lt (Nat.div_le_self _ _) hd), addN]
  have ht := turn_lt _ hd
  unfold turnN at ht
  rw [wrapN _ ht]
  exact xorN _ _ ht hm
end Go.Proofs.Ytjhiapailgbmkaa
