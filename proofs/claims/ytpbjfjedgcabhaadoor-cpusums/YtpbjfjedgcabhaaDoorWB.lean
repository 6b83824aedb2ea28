/-
  Contracts of word.Bytes and word.Of: a word as eight bytes of new memory, and back.
-/
import Derived.Test.YtpbjfjedgcabhaaDoorWC
namespace Go.Proofs.YtpbjfjedgcabhaaDoor
open Go.ChangeShapes Go.WideShapes Go.ChangeAt Go.RowKit
open WM
set_option maxRecDepth 100000

/-! ### plain numbers -/
def byteN (x i : Nat) : Nat := x / 2 ^ (8 * i) % 256
theorem byteN_lt (x i : Nat) : byteN x i < 256 := Nat.mod_lt _ (by omega)
def ofN (f : Nat → Nat) : Nat → Nat
  | 0 => 0
  | k + 1 => ofN f k + f k * 2 ^ (8 * k)
theorem ofN_lt (f : Nat → Nat) (h : ∀ i, f i < 256) : ∀ k, ofN f k < 2 ^ (8 * k)
  | 0 => by simp [ofN]
  | k + 1 => by
    have ih := ofN_lt f h k
    have := h k
    have e : 2 ^ (8 * (k + 1)) = 256 * 2 ^ (8 * k) := by rw [show 8 * (k + 1) = 8 + 8 * k by omega, Nat.pow_add]
    have h1 : f k * 2 ^ (8 * k) ≤ 255 * 2 ^ (8 * k) := Nat.mul_le_mul_right _ (by omega)
    simp only [ofN, e]; omega
theorem ofN_bytes (x : Nat) (hx : x < 18446744073709551616) : ofN (byteN x) 8 = x := by
  simp only [ofN, byteN]; simp; omega
theorem field_byte (x i : Nat) (hx : x < 18446744073709551616) : fieldN x (8 * i) 8 = byteN x i := by
  rw [← fieldN_and x (8 * i) 8 hx, show min 8 64 = 8 by decide, Nat.and_two_pow_sub_one_eq_mod]; rfl

/-- The slice's bytes, as far as its length goes. -/
def BytesAt (w : World) (a : Option Addr) (len : Nat) (f : Nat → Nat) : Prop :=
  ∀ i, i < len → ∃ b off, a = some ⟨b, off, none⟩ ∧ w.cell? ⟨b, off + i, none⟩ = some (.int .u8 (f i : Nat))
theorem BytesAt.drewN {w : World} {a : Option Addr} {len : Nat} {f : Nat → Nat} (h : BytesAt w a len f) (q : Nat) : BytesAt (w.drewN q) a len f := h

theorem or_step (f : Nat → Nat) (h : ∀ i, f i < 256) (k : Nat) (hk : k < 8) :
    bits .or .u64 (ofN f k : Nat) (IntKind.u64.wrap (IntKind.u64.wrap ((f k : Nat) : Int) * 2 ^ (8 * k))) = ((ofN f (k + 1) : Nat) : Int) := by
  have h1 := ofN_lt f h k
  have h2 := ofN_lt f h (k + 1)
  have h3 : 2 ^ (8 * k) ≤ 2 ^ 64 := Nat.pow_le_pow_right (by decide) (by omega)
  have h4 : 2 ^ (8 * (k + 1)) ≤ 2 ^ 64 := Nat.pow_le_pow_right (by decide) (by omega)
  have e : ofN f (k + 1) = ofN f k + f k * 2 ^ (8 * k) := rfl
  rw [wrapN _ (by have := h k; omega), shl_cast, Nat.mod_eq_of_lt (by omega), u64_or_nat _ _ (by omega) (by omega), Nat.or_comm, nat_join (8 * k) _ _ (Nat.mul_mod_left _ _) h1, e, Nat.add_comm]

set_option maxHeartbeats 400000 in
theorem of_in (a : Option Addr) (len cap : Nat) (f : Nat → Nat) (w : World) (hb : BytesAt w a len f) (hf : ∀ i, f i < 256) (hl : len ≤ 9223372036854775807) :
    Calls Tryd.prog 56 #[.slice a len cap] w fun e w' => e = .returned (.int .u64 (ofN f (min len 8) : Nat)) ∧ w = w' := by
  obtain ⟨m, hm⟩ : ∃ m, m = min len 8 := ⟨_, rfl⟩
  rw [← hm]
  by_cases h8 : (len : Int) ≤ 8
  · obtain rfl : m = len := by omega
    clear hm
    go_enter Tryd.func56, Tryd.ntmps56
    go_wp2
    go_loop [3, 8] (fun v i => ∃ k : Nat, k ≤ m ∧ i = .int .i64 k ∧ v = .int .u64 (ofN f k : Nat)) (fun _ i => m - (intOf i).toNat)
    case atStart => exact ⟨0, by omega, rfl, rfl⟩
    case round =>
      obtain ⟨k, hk, rfl, rfl⟩ := hrel
      by_cases hlt : k < m
      · obtain ⟨b, off, rfl, hc⟩ := hb k hlt
        have HH := Lib.hid (or_step f hf k (by omega))
        go_wp2
        go_round
        case rel => exact ⟨k + 1, by omega, by go_num, by rw [HH.out]⟩
        case measure => simp [intOf]; omega
      · obtain rfl : k = m := by omega
        go_wp2
        go_ret
        exact ⟨rfl, rfl⟩
  · obtain rfl : m = 8 := by omega
    clear hm
    go_enter Tryd.func56, Tryd.ntmps56
    go_wp2
    go_loop [3, 8] (fun v i => ∃ k : Nat, k ≤ 8 ∧ i = .int .i64 k ∧ v = .int .u64 (ofN f k : Nat)) (fun _ i => 8 - (intOf i).toNat)
    case atStart => exact ⟨0, by omega, rfl, rfl⟩
    case round =>
      obtain ⟨k, hk, rfl, rfl⟩ := hrel
      by_cases hlt : k < 8
      · obtain ⟨b, off, rfl, hc⟩ := hb k (by omega)
        have HH := Lib.hid (or_step f hf k (by omega))
        go_wp2
        go_round
        case rel => exact ⟨k + 1, by omega, by go_num, by rw [HH.out]⟩
        case measure => simp [intOf]; omega
      · obtain rfl : k = 8 := by omega
        go_wp2
        go_ret
        exact ⟨rfl, rfl⟩

/-! ### word.Bytes -/
def bytesArr (x k : Nat) : Array Value := Array.ofFn (n := 8) fun j => .int .u8 (if j.val < k then byteN x j.val else 0 : Nat)
theorem make8 (w : World) : (Instr.makeSlice 28 (.int .i64 8) (.int .i64 8)).run Tryd.prog w = .ok (.slice (some ⟨w.heap.size, 0, none⟩) 8 8) (w.alloc (.cells (bytesArr 0 0) 5)) := by kernel_rfl
theorem bytesArr_zero (x : Nat) : bytesArr x 0 = bytesArr 0 0 := by unfold bytesArr; simp
theorem bytesArr_size (x k : Nat) : (bytesArr x k).size = 8 := by unfold bytesArr; simp
theorem bytesArr_get (x k j : Nat) (hj : j < 8) : (bytesArr x k)[j]? = some (.int .u8 (if j < k then byteN x j else 0 : Nat)) := by
  unfold bytesArr; simp [hj]
theorem bytesArr_set (x k : Nat) (hk : k < 8) : (bytesArr x k).setIfInBounds k (.int .u8 ((x : Int) / 2 ^ (8 * k) % 256)) = bytesArr x (k + 1) := by
  have e : (x : Int) / 2 ^ (8 * k) % 256 = ((byteN x k : Nat) : Int) := by rw [shr_cast]; unfold byteN; omega
  rw [e]
  apply Array.ext_getElem?
  intro j
  rw [Array.getElem?_setIfInBounds, bytesArr_size]
  by_cases hj : j < 8
  · rw [bytesArr_get x k j hj, bytesArr_get x (k + 1) j hj]
    by_cases h : k = j
    · subst h; simp [hk]
    · have : (j < k) ↔ (j < k + 1) := by omega
      simp [h, this]
  · have h : k ≠ j := by omega
    rw [if_neg h, Array.getElem?_eq_none (by rw [bytesArr_size]; omega), Array.getElem?_eq_none (by rw [bytesArr_size]; omega)]
set_option maxHeartbeats 400000 in
theorem bytes_in (x : Nat) (w : World) :
    Calls Tryd.prog 74 #[.int .u64 x] w fun e w' => e = .returned (.slice (some ⟨w.heap.size, 0, none⟩) 8 8) ∧ w.alloc (.cells (bytesArr x 8) 5) = w' := by
  have hmk := make8
  go_enter Tryd.func74, Tryd.ntmps74
  go_wp2
  clear hmk
  go_loopw [8] (fun i wr => ∃ k : Nat, k ≤ 8 ∧ i = .int .i64 k ∧ wr = w.alloc (.cells (bytesArr x k) 5)) (fun i _ => 8 - (intOf i).toNat)
  case atStart => exact ⟨0, by omega, rfl, by rw [bytesArr_zero x]⟩
  case round =>
    obtain ⟨k, hk, rfl, rfl⟩ := hrel
    by_cases hlt : k < 8
    · have hc : (w.alloc (.cells (bytesArr x k) 5)).cell? ⟨w.heap.size, k, none⟩ = some (.int .u8 (if k < k then byteN x k else 0 : Nat)) := by
        rw [← bytesArr_get x k k hlt]; simp
      have HS := Lib.hid (bytesArr_set x k hlt)
      go_wp2
      go_roundw
      case rel => exact ⟨k + 1, by omega, by go_num, by rw [HS.out]⟩
      case measure => simp [intOf]; omega
    · obtain rfl : k = 8 := by omega
      go_wp2
      go_ret
      exact ⟨rfl, rfl⟩
theorem bytes_at (x : Nat) (w : World) : BytesAt (w.alloc (.cells (bytesArr x 8) 5)) (some ⟨w.heap.size, 0, none⟩) 8 (byteN x) := by
  intro i hi
  refine ⟨w.heap.size, 0, rfl, ?_⟩
  have h := bytesArr_get x 8 i hi
  rw [if_pos hi] at h
  rw [← h]; simp
end Go.Proofs.YtpbjfjedgcabhaaDoor
