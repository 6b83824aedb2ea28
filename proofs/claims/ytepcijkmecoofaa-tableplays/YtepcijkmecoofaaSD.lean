/-
  Contracts of package store's own calls: Read, Write, Load, Save, Clear, Copy, Twin, Same.
-/
import Derived.Test.YtepcijkmecoofaaSC
import Derived.Maps.RangeWalk
import Derived.Deep.RegionLaw
namespace Go.Proofs.Ytepcijkmecoofaa
open Go.ChangeShapes Go.WideShapes Go.ChangeAt Go.RowKit
open WM
set_option maxRecDepth 100000

theorem und8 : Try.prog.underlying 69 = some (.slice 5) := by kernel_rfl
theorem one8 : (Try.prog.info? 5).map (·.size) = some 1 := by kernel_rfl
theorem goInt_nat (n : Nat) : goInt n = .int .i64 n := rfl

theorem below_of_grown {w w' : World} (h : w.grownBy w' none) : Below w.heap.size w w' := ⟨h.os, h.tape, h.output, h.size, fun k hk => h.block k hk (by simp)⟩
/-! ### Write -/
/-! ### Load, Save -/
theorem load_no {w : World} {s h n : Nat} {f : Nat → Nat} (H : St w s h n f) (fr i : Int) (hn : ¬ (0 ≤ fr ∧ fr < n ∧ 0 ≤ i ∧ i < 32)) :
    Calls Try.prog 16 #[.pointer (some ⟨s, 0, none⟩), .int .i64 fr, .int .i64 i] w fun e w' => e = .returned (.tuple #[.int .u64 0, .int .i64 1]) ∧ w = w' := by
  have H' := Lib.hid (eight_no H fr i hn)
  clear H hn
  have HO := Lib.hid (of_in none 0 0 (fun _ => 0) w (BytesAt.none_ _ _ _) (fun _ => by decide) (by omega))
  go_enter Try.func16, Try.ntmps16
  go_wp2_with (first
    | (go_at_call 26; refine (H'.out).mono ?_; rintro e w' ⟨rfl, rfl⟩)
    | (go_at_call 27; refine (HO.out).mono ?_; rintro e w' ⟨rfl, rfl⟩))
  go_ret2
  exact ⟨rfl, rfl⟩
theorem load_ok {w : World} {s h n : Nat} {f : Nat → Nat} (H : St w s h n f) (fr i : Nat) (hf : fr < n) (hi : i < 32) :
    Calls Try.prog 16 #[.pointer (some ⟨s, 0, none⟩), .int .i64 fr, .int .i64 i] w fun e w' =>
      e = .returned (.tuple #[.int .u64 (ofN (fun j => f (fr * 256 + i * 8 + j)) 8 : Nat), .int .i64 0]) ∧ w = w' := by
  have H' := Lib.hid (eight_ok H fr i hf hi)
  have HO := Lib.hid (fun cap => of_in (some ⟨h, fr * 256 + i * 8, none⟩) 8 cap (fun j => f (fr * 256 + i * 8 + j)) w (H.row.bytes _ 8 (by omega)) (fun j => H.byte _) (by omega))
  clear H
  go_enter Try.func16, Try.ntmps16
  go_wp2_with (first
    | (go_at_call 26; refine (H'.out).mono ?_; rintro e w' ⟨rfl, rfl⟩)
    | (go_at_call 27; refine (HO.out _).mono ?_; rintro e w' ⟨rfl, rfl⟩))
  go_ret2
  exact ⟨rfl, rfl⟩
theorem save_no {w : World} {s h n : Nat} {f : Nat → Nat} (H : St w s h n f) (fr i : Int) (x : Nat) (hn : ¬ (0 ≤ fr ∧ fr < n ∧ 0 ≤ i ∧ i < 32)) :
    Calls Try.prog 30 #[.pointer (some ⟨s, 0, none⟩), .int .i64 fr, .int .i64 i, .int .u64 x] w fun e w' => e = .returned (.int .i64 1) ∧ Below w.heap.size w w' := by
  have H' := Lib.hid (eight_no H fr i hn)
  clear H hn
  go_enter Try.func30, Try.ntmps30
  go_wp2_with (first
    | (go_at_call 26; refine (H'.out).mono ?_; rintro e w' ⟨rfl, rfl⟩)
    | (go_at_call 36; refine (bytes_in x w).mono ?_; rintro e w' ⟨rfl, rfl⟩)
    | (refine wpList_copy_nothing rfl (.tmp 18) (.tmp 20) _ _ rfl _ und8 one8 none (some ⟨w.heap.size, 0, none⟩) 0 0 8 8 rfl rfl (by decide) ?_))
  go_ret
  exact ⟨rfl, below_new _ _⟩
theorem save_ok {w : World} {s h n : Nat} {f : Nat → Nat} (H : St w s h n f) (fr i : Nat) (x : Nat) (hf : fr < n) (hi : i < 32) :
    Calls Try.prog 30 #[.pointer (some ⟨s, 0, none⟩), .int .i64 fr, .int .i64 i, .int .u64 x] w fun e w' =>
      e = .returned (.int .i64 0) ∧ St w' s h n (putF f (fr * 256 + i * 8) 8 (byteN x)) ∧ w.grownBy w' (some h) := by
  have HE := Lib.hid (eight_ok H fr i hf hi)
  have HG0 := Lib.hid (World.grownBy_alloc w (.cells (bytesArr x 8) 5) none)
  have HS := Lib.hid (H.kept HG0.out (by simp) (by simp))
  have HB := Lib.hid (bytes_at x w)
  have hfit : fr * 256 + i * 8 + 8 ≤ 256 * n := by omega
  clear H
  obtain ⟨k, hk⟩ : ∃ k, fr * 256 + i * 8 = k := ⟨_, rfl⟩
  rw [hk] at HE hfit ⊢
  clear hk
  go_enter Try.func30, Try.ntmps30
  go_wp2_with (first
    | (go_at_call 26; refine (HE.out).mono ?_; rintro e w' ⟨rfl, rfl⟩)
    | (go_at_call 36; refine (bytes_in x w).mono ?_; rintro e w' ⟨rfl, rfl⟩)
    | (refine wpList_put rfl (.tmp 18) (.tmp 20) _ _ rfl _ und8 one8 (some ⟨h, k, none⟩) (some ⟨w.heap.size, 0, none⟩) 8 (256 * n - k) 8 8 rfl rfl h k 8 (256 * n) f (byteN x) (HS.out).row (by decide) hfit (fun _ => rfl) (HB.out) ?_
       intro w2 hr2 hg2
       have HR := Lib.hid hr2
       have HG := Lib.hid hg2
       clear hr2 hg2))
  go_ret
  exact ⟨rfl, (HS.out).turned (HG.out) (HR.out) (putF_lt (HS.out).byte (byteN_lt x) _ _), (World.grownBy.but HG0.out _).trans (HG.out)⟩

/-! ### Clear, Copy -/
theorem clear_nil (w : World) (fr : Int) : Calls Try.prog 29 #[.pointer none, .int .i64 fr] w fun e w' => e = .returned (.int .i64 1) ∧ w = w' := by
  go_enter Try.func29, Try.ntmps29
  go_wp2_with (first
    | (go_at_call 35; refine (part_nil _ _ _ _).mono ?_; rintro e w' ⟨rfl, rfl⟩)
    | (refine wpList_clear_nothing rfl (.tmp 13) rfl rfl ?_))
  go_ret
  exact ⟨rfl, rfl⟩
theorem clear_no {w : World} {s h n : Nat} {f : Nat → Nat} (H : St w s h n f) (fr : Int) (hn : ¬ (0 ≤ fr ∧ fr < n)) :
    Calls Try.prog 29 #[.pointer (some ⟨s, 0, none⟩), .int .i64 fr] w fun e w' => e = .returned (.int .i64 1) ∧ w = w' := by
  have HP := Lib.hid (part_no H fr 0 256 (by omega) (by unfold PartOk; omega))
  clear H hn
  go_enter Try.func29, Try.ntmps29
  go_wp2_with (first
    | (go_at_call 35; refine (HP.out).mono ?_; rintro e w' ⟨rfl, rfl⟩)
    | (refine wpList_clear_nothing rfl (.tmp 13) rfl rfl ?_))
  go_ret
  exact ⟨rfl, rfl⟩
theorem clear_ok {w : World} {s h n : Nat} {f : Nat → Nat} (H : St w s h n f) (fr : Nat) (hf : fr < n) :
    Calls Try.prog 29 #[.pointer (some ⟨s, 0, none⟩), .int .i64 fr] w fun e w' =>
      e = .returned (.int .i64 0) ∧ St w' s h n (putF f (fr * 256) 256 (fun _ => 0)) ∧ w.grownBy w' (some h) := by
  have hp := part_ok H fr 0 256 (by unfold PartOk; omega)
  rw [show (fr : Int).toNat = fr by omega, show (0 : Int).toNat = 0 by omega, show (256 : Int).toNat = 256 by omega, Nat.add_zero, partA_pos (by omega)] at hp
  have HP := Lib.hid hp
  have H' := Lib.hid H
  have hfit : fr * 256 + 256 ≤ 256 * n := by omega
  clear H hp
  obtain ⟨k, hk⟩ : ∃ k, fr * 256 = k := ⟨_, rfl⟩
  rw [hk] at HP hfit ⊢
  clear hk
  go_enter Try.func29, Try.ntmps29
  go_wp2_with (first
    | (go_at_call 35; refine (HP.out).mono ?_; rintro e w' ⟨rfl, rfl⟩)
    | (refine wpList_clear rfl (.tmp 13) rfl h k 256 (256 * n - k) (256 * n) f rfl (H'.out).row hfit (by omega) ?_
       intro w2 hr2 hg2
       have HR := Lib.hid hr2
       have HG := Lib.hid hg2
       clear hr2 hg2))
  go_ret
  exact ⟨rfl, (H'.out).turned (HG.out) (HR.out) (putF_lt (H'.out).byte (fun _ => by decide) _ _), HG.out⟩

/-! ### the law's own example -/
end Go.Proofs.Ytepcijkmecoofaa
