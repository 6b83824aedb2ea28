/-
  Contracts of package store: what a store is in memory, and what each of its calls makes of it.
-/
import Derived.Test.YtepcijkmecoofaaSM
import Derived.RegionTactic
namespace Go.Proofs.Ytepcijkmecoofaa
open Go.ChangeShapes Go.WideShapes Go.ChangeAt Go.RowKit
open WM
set_option maxRecDepth 100000

/-- A store at block s: n frames, their bytes f in block h. -/
structure St (w : World) (s h n : Nat) (f : Nat → Nat) : Prop where
  ptr : w.heap[s]? = some (.cells #[.slice (some ⟨h, 0, none⟩) (256 * n) (256 * n)] 74 (0, 0))
  row : Row w h f (256 * n)
  le : n ≤ 512
  byte : ∀ i, f i < 256
theorem St.cell {w : World} {s h n : Nat} {f : Nat → Nat} (H : St w s h n f) : w.cell? ⟨s, 0, none⟩ = some (.slice (some ⟨h, 0, none⟩) (256 * n) (256 * n)) := by
  have h := H.ptr
  simp [World.cell?, h]
theorem St.lt {w : World} {s h n : Nat} {f : Nat → Nat} (H : St w s h n f) : s < w.heap.size := (Array.getElem?_eq_some_iff.1 H.ptr).1
theorem St.ne {w : World} {s h n : Nat} {f : Nat → Nat} (H : St w s h n f) : s ≠ h := by
  rintro rfl
  have h1 := H.ptr
  have h2 := H.row
  unfold Row at h2
  rw [h1] at h2
  injection h2 with h2
  injection h2 with _ h3
  exact absurd h3 (by decide)
theorem St.kept {w w' : World} {s h n : Nat} {f : Nat → Nat} {row : Option Nat} (H : St w s h n f) (hg : w.grownBy w' row) (h1 : some s ≠ row) (h2 : some h ≠ row) : St w' s h n f :=
  ⟨(hg.block s H.lt h1).trans H.ptr, H.row.kept hg h2, H.le, H.byte⟩
theorem St.below {w w' : World} {s h n : Nat} {f : Nat → Nat} (H : St w s h n f) (hb : Below w.heap.size w w') : St w' s h n f :=
  ⟨(hb.block s H.lt).trans H.ptr, H.row.below hb, H.le, H.byte⟩
theorem St.turned {w w' : World} {s h n : Nat} {f f' : Nat → Nat} (H : St w s h n f) (hg : w.grownBy w' (some h)) (hr : Row w' h f' (256 * n)) (hb : ∀ i, f' i < 256) : St w' s h n f' :=
  ⟨(hg.block s H.lt (fun e => H.ne (Option.some.inj e))).trans H.ptr, hr, H.le, hb⟩

theorem all_nil (w : World) : Calls Try.prog 37 #[.pointer none] w fun e w' => e = .returned (.slice none 0 0) ∧ w = w' := by
  go_enter Try.func37, Try.ntmps37
  go_wp2
  go_ret
  exact ⟨rfl, rfl⟩
theorem all_in {w : World} {s h n : Nat} {f : Nat → Nat} (H : St w s h n f) :
    Calls Try.prog 37 #[.pointer (some ⟨s, 0, none⟩)] w fun e w' => e = .returned (.slice (some ⟨h, 0, none⟩) (256 * n) (256 * n)) ∧ w = w' := by
  have hc := H.cell
  clear H
  obtain ⟨L, hL⟩ : ∃ L, 256 * n = L := ⟨_, rfl⟩
  rw [hL] at hc ⊢
  clear hL
  go_enter Try.func37, Try.ntmps37
  go_wp2
  go_ret
  exact ⟨rfl, rfl⟩
theorem frames_nil (w : World) : Calls Try.prog 32 #[.pointer none] w fun e w' => e = .returned (.int .i64 0) ∧ w = w' := by
  go_enter Try.func32, Try.ntmps32
  go_wp2_with (go_at_call 37; refine (all_nil _).mono ?_; rintro e w' ⟨rfl, rfl⟩)
  go_ret
  exact ⟨rfl, rfl⟩
theorem frames_in {w : World} {s h n : Nat} {f : Nat → Nat} (H : St w s h n f) :
    Calls Try.prog 32 #[.pointer (some ⟨s, 0, none⟩)] w fun e w' => e = .returned (.int .i64 (n : Nat)) ∧ w = w' := by
  have hn := H.le
  have H' := Lib.hid H
  clear H
  go_enter Try.func32, Try.ntmps32
  go_wp2_with (go_at_call 37; refine (all_in H'.out).mono ?_; rintro e w' ⟨rfl, rfl⟩)
  go_ret
  exact ⟨ret_int (by omega), rfl⟩

/-! ### New -/
/-- How many frames New makes. -/
def clampN (k : Int) : Nat := (min (max k 0) 512).toNat
theorem clampN_le (k : Int) : clampN k ≤ 512 := by unfold clampN; omega
def newW (w : World) (n : Nat) : World :=
  (w.alloc (.cells (rowV (fun _ => 0) (256 * n)).toArray 5)).alloc (.cells #[.slice (some ⟨w.heap.size, 0, none⟩) (256 * n) (256 * n)] 74)
theorem newW_st (w : World) (n : Nat) (h : n ≤ 512) : St (newW w n) (w.heap.size + 1) w.heap.size n (fun _ => 0) ∧ w.grownBy (newW w n) none := by
  have h1 : w.grownBy (newW w n) none := (World.grownBy_alloc w _ none).trans (World.grownBy_alloc _ _ none)
  refine ⟨⟨?_, ?_, h, fun _ => by decide⟩, h1⟩
  · have := heap_alloc_new (w.alloc (.cells (rowV (fun _ => 0) (256 * n)).toArray 5)) (.cells #[.slice (some ⟨w.heap.size, 0, none⟩) (256 * n) (256 * n)] 74)
    unfold newW
    rw [← this]; simp
  · exact (Row.new w (fun _ => 0) (256 * n)).kept (World.grownBy_alloc _ _ none) (by simp)
theorem new_in (k : Int) (hk : -9223372036854775808 ≤ k ∧ k ≤ 9223372036854775807) (w : World) :
    Calls Try.prog 17 #[.int .i64 k] w fun e w' => e = .returned (.pointer (some ⟨w.heap.size + 1, 0, none⟩)) ∧ St w' (w.heap.size + 1) w.heap.size (clampN k) (fun _ => 0) ∧ w.grownBy w' none := by
  suffices h : Calls Try.prog 17 #[.int .i64 k] w fun e w' => e = .returned (.pointer (some ⟨w.heap.size + 1, 0, none⟩)) ∧ newW w (clampN k) = w' by
    refine h.mono ?_
    rintro e w' ⟨he, rfl⟩
    exact ⟨he, newW_st w _ (clampN_le k)⟩
  by_cases h0 : k < 0
  · have e : clampN k = 0 := by unfold clampN; omega
    rw [e]
    have hmk := make_run w 0 (by omega)
    simp only [Int.natCast_zero] at hmk
    go_enter Try.func17, Try.ntmps17
    go_wp2
    go_ret
    exact ⟨rfl, rfl⟩
  · by_cases h1 : k ≤ 512
    · obtain ⟨n, rfl⟩ := Int.eq_ofNat_of_zero_le (show 0 ≤ k by omega)
      have e : clampN n = n := by unfold clampN; omega
      rw [e]
      clear e hk
      have hmk := make_run w (256 * n) (by omega)
      rw [Int.natCast_mul, Int.mul_comm] at hmk
      change (Instr.makeSlice 69 (.int .i64 ((n : Int) * 256)) (.int .i64 ((n : Int) * 256))).run Try.prog w = _ at hmk
      go_enter Try.func17, Try.ntmps17
      go_wp2
      go_ret
      exact ⟨rfl, rfl⟩
    · have e : clampN k = 512 := by unfold clampN; omega
      rw [e]
      have hmk : (Instr.makeSlice 69 (.int .i64 131072) (.int .i64 131072)).run Try.prog w = _ := make_run w 131072 (by omega)
      go_enter Try.func17, Try.ntmps17
      go_wp2
      go_ret
      exact ⟨rfl, rfl⟩

/-! ### part -/
theorem part_nil (w : World) (fr off m : Int) :
    Calls Try.prog 35 #[.pointer none, .int .i64 fr, .int .i64 off, .int .i64 m] w fun e w' => e = .returned (.tuple #[.slice none 0 0, .int .i64 1]) ∧ w = w' := by
  by_cases h0 : fr < 0
  · go_enter Try.func35, Try.ntmps35
    go_wp2
    go_ret2
    exact ⟨rfl, rfl⟩
  · go_enter Try.func35, Try.ntmps35
    go_wp2_with (go_at_call 32; refine (frames_nil _).mono ?_; rintro e w' ⟨rfl, rfl⟩)
    go_ret2
    exact ⟨rfl, rfl⟩
/-- All in it? -/
def PartOk (n : Nat) (fr off m : Int) : Prop := 0 ≤ fr ∧ fr < n ∧ 0 ≤ off ∧ 0 ≤ m ∧ off + m ≤ 256
theorem part_no {w : World} {s h n : Nat} {f : Nat → Nat} (H : St w s h n f) (fr off m : Int) (h2 : -9223372036854775808 ≤ off ∧ off ≤ 9223372036854775807) (hn : ¬ PartOk n fr off m) :
    Calls Try.prog 35 #[.pointer (some ⟨s, 0, none⟩), .int .i64 fr, .int .i64 off, .int .i64 m] w fun e w' => e = .returned (.tuple #[.slice none 0 0, .int .i64 1]) ∧ w = w' := by
  have H' := Lib.hid H
  clear H
  have hc : fr < 0 ∨ (0 ≤ fr ∧ (n : Int) ≤ fr) ∨ (0 ≤ fr ∧ fr < n ∧ off < 0) ∨ (0 ≤ fr ∧ fr < n ∧ 0 ≤ off ∧ m < 0) ∨ (0 ≤ fr ∧ fr < n ∧ 0 ≤ off ∧ 0 ≤ m ∧ 256 - off < m) := by
    unfold PartOk at hn; omega
  clear hn
  rcases hc with hc | ⟨c1, c2⟩ | ⟨c1, c2, c3⟩ | ⟨c1, c2, c3, c4⟩ | ⟨c1, c2, c3, c4, c5⟩ <;>
  · go_enter Try.func35, Try.ntmps35
    go_wp2_with (go_at_call 32; refine (frames_in H'.out).mono ?_; rintro e w' ⟨rfl, rfl⟩)
    go_ret2
    exact ⟨rfl, rfl⟩
/-- Where a part from k on lies. -/
def partA (h L k : Nat) : Option Addr := if L = k then some ⟨h, 0, none⟩ else some ⟨h, k, none⟩
theorem partA_pos {h L k : Nat} (hk : k < L) : partA h L k = some ⟨h, k, none⟩ := by unfold partA; rw [if_neg (by omega)]
theorem part_ok {w : World} {s h n : Nat} {f : Nat → Nat} (H : St w s h n f) (fr off m : Int) (hn : PartOk n fr off m) :
    Calls Try.prog 35 #[.pointer (some ⟨s, 0, none⟩), .int .i64 fr, .int .i64 off, .int .i64 m] w fun e w' =>
      e = .returned (.tuple #[.slice (partA h (256 * n) (fr.toNat * 256 + off.toNat)) m.toNat (256 * n - (fr.toNat * 256 + off.toNat)), .int .i64 0]) ∧ w = w' := by
  have H' := Lib.hid H
  have h512 := H.le
  have hc := H.cell
  clear H
  obtain ⟨L, hL⟩ : ∃ L, 256 * n = L := ⟨_, rfl⟩
  have hl1 : L ≤ 131072 := by omega
  rw [hL] at hc ⊢
  obtain ⟨c1, c2, c3, c4, c5⟩ := hn
  obtain ⟨fr, rfl⟩ := Int.eq_ofNat_of_zero_le c1
  obtain ⟨off, rfl⟩ := Int.eq_ofNat_of_zero_le c3
  obtain ⟨m, rfl⟩ := Int.eq_ofNat_of_zero_le c4
  simp only [Int.toNat_natCast]
  have b1 : fr * 256 + off + m ≤ L := by omega
  have HL := Lib.hid hL
  clear hL
  go_enter Try.func35, Try.ntmps35
  go_wp2_with (go_at_call 32; refine (frames_in H'.out).mono ?_; rintro e w' ⟨rfl, rfl⟩)
  · go_ret2
    refine ⟨?_, rfl⟩
    have e1 : ∀ g k, partA g k k = some ⟨g, 0, none⟩ := fun g k => by unfold partA; rw [if_pos rfl]
    rw [e1]; rfl
  · go_ret2
    refine ⟨?_, rfl⟩
    have e1 : ∀ g, partA g L (fr * 256 + off) = some ⟨g, fr * 256 + off, none⟩ := fun g => partA_pos (by omega)
    rw [e1]; rfl
/-- The part's own bytes. -/
theorem part_at {w : World} {s h n : Nat} {f : Nat → Nat} (H : St w s h n f) (k m : Nat) (hk : k + m ≤ 256 * n) : BytesAt w (partA h (256 * n) k) m (fun i => f (k + i)) := by
  intro i hi
  rw [partA_pos (by omega)]
  exact H.row.bytes k m hk i hi

/-! ### eight -/
theorem eight_no {w : World} {s h n : Nat} {f : Nat → Nat} (H : St w s h n f) (fr i : Int) (hn : ¬ (0 ≤ fr ∧ fr < n ∧ 0 ≤ i ∧ i < 32)) :
    Calls Try.prog 26 #[.pointer (some ⟨s, 0, none⟩), .int .i64 fr, .int .i64 i] w fun e w' => e = .returned (.tuple #[.slice none 0 0, .int .i64 1]) ∧ w = w' := by
  have H' := Lib.hid H
  clear H
  by_cases h1 : i < 0
  · go_enter Try.func26, Try.ntmps26
    go_wp2
    go_ret2
    exact ⟨rfl, rfl⟩
  by_cases h2 : 32 ≤ i
  · go_enter Try.func26, Try.ntmps26
    go_wp2
    go_ret2
    exact ⟨rfl, rfl⟩
  have HN := Lib.hid (show ¬ PartOk n fr (i * 8) 8 by unfold PartOk; omega)
  clear hn
  go_enter Try.func26, Try.ntmps26
  go_wp2_with (go_at_call 35; refine (part_no H'.out fr (i * 8) 8 (by omega) HN.out).mono ?_; rintro e w' ⟨rfl, rfl⟩)
  go_ret2
  exact ⟨rfl, rfl⟩
theorem eight_nil (w : World) (fr i : Int) :
    Calls Try.prog 26 #[.pointer none, .int .i64 fr, .int .i64 i] w fun e w' => e = .returned (.tuple #[.slice none 0 0, .int .i64 1]) ∧ w = w' := by
  by_cases h1 : i < 0
  · go_enter Try.func26, Try.ntmps26
    go_wp2
    go_ret2
    exact ⟨rfl, rfl⟩
  by_cases h2 : 32 ≤ i
  · go_enter Try.func26, Try.ntmps26
    go_wp2
    go_ret2
    exact ⟨rfl, rfl⟩
  go_enter Try.func26, Try.ntmps26
  go_wp2_with (go_at_call 35; refine (part_nil _ _ _ _).mono ?_; rintro e w' ⟨rfl, rfl⟩)
  go_ret2
  exact ⟨rfl, rfl⟩
theorem eight_ok {w : World} {s h n : Nat} {f : Nat → Nat} (H : St w s h n f) (fr i : Nat) (hf : fr < n) (hi : i < 32) :
    Calls Try.prog 26 #[.pointer (some ⟨s, 0, none⟩), .int .i64 fr, .int .i64 i] w fun e w' =>
      e = .returned (.tuple #[.slice (some ⟨h, fr * 256 + i * 8, none⟩) 8 (256 * n - (fr * 256 + i * 8)), .int .i64 0]) ∧ w = w' := by
  have h := part_ok H fr (i * 8 : Int) 8 (by unfold PartOk; omega)
  rw [show (fr : Int).toNat = fr by omega, show ((i : Int) * 8).toNat = i * 8 by omega, show (8 : Int).toNat = 8 by omega, partA_pos (by omega)] at h
  have H' := Lib.hid h
  clear H h
  go_enter Try.func26, Try.ntmps26
  go_wp2_with (go_at_call 35; refine (H'.out).mono ?_; rintro e w' ⟨rfl, rfl⟩)
  go_ret2
  exact ⟨rfl, rfl⟩
end Go.Proofs.Ytepcijkmecoofaa
