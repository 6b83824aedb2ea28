/-
  Contract of a table's All where it has no frames; Make of any arguments.
-/
import Derived.Test.YtepcijkmecoofaaER
namespace Go.Proofs.Ytepcijkmecoofaa
open Go.ChangeShapes Go.WideShapes Go.ChangeAt Go.RowKit
open WM EM
set_option maxRecDepth 100000

set_option maxHeartbeats 1000000 in
theorem all_none {w : World} (form : Int) (A : Option Addr) (cap : Nat) (s : Value) :
    Calls Try.prog 12 #[.agg #[.int .i64 form, .slice A 0 cap], s] w fun e w' => e = .returned (.tuple #[.slice none 0 0, .slice none 0 0]) ∧ Below w.heap.size w w' := by
  have b1 := below_new w (.cells #[.int .i64 form, .slice A 0 cap] 27)
  have l2 := l2_mk w (.int .i64 form) (.slice A 0 cap) 27
  have HW := Lib.hid (fun W k => walk_err (w := W) form A 0 cap s k (fun V _ => below_none form A cap s k))
  have B1 := Lib.hid b1
  have L2' := Lib.hid l2
  clear b1 l2
  go_enter Try.func12, Try.ntmps12
  go_wp2_with fail
  generalize w.alloc (.cells #[.int .i64 form, .slice A 0 cap] 27) = V at *
  go_loopw [6, 7, 8, 9, 10, 11] (fun p q _ _ _ i wr => ∃ k : Nat, k ≤ 32 ∧ i = .int .i64 k ∧ p = .slice none 0 0 ∧ q = .slice none 0 0 ∧ Below V.heap.size V wr) (fun _ _ _ _ _ i _ => (32 - intOf i).toNat)
  case atStart => exact ⟨0, by omega, rfl, rfl, rfl, Below.refl _ _⟩
  case round =>
    obtain ⟨k, hk, rfl, rfl, rfl, hb⟩ := hrel
    have HB := Lib.hid hb
    by_cases hlt : k < 32
    · have kk : (k : Int) < 32 := by omega
      obtain ⟨e0, e1, el, ef⟩ := (L2'.out).later hb
      clear hb
      go_wp2_with fail
      refine ((HW.out) _ _).mono ?_
      rintro e w5 ⟨rfl, b5⟩
      have HB5 := Lib.hid (below_more (below_up HB.out b5) (.cells #[.bool false, .int .i64 0, .bool false] 31))
      clear b5 e0 e1 el ef
      go_wp2
      go_roundw
      case rel => exact ⟨k + 1, by omega, by go_num, rfl, rfl, HB5.out⟩
      case measure => simp [intOf]; omega
    · have kk : ¬ (k : Int) < 32 := by omega
      clear hb
      go_wp2
      go_ret2
      exact ⟨rfl, below_up B1.out HB.out⟩

/-- Is all of it right, as far as k of the frames go? -/
def okL (c : Bool) (l : Nat → Int) (n : Nat) : Nat → Bool
  | 0 => c
  | k + 1 => okL c l n k && (decide (0 ≤ l k) && decide (l k < n))
theorem okL_iff (c : Bool) (l : Nat → Int) (n k : Nat) : okL c l n k = true ↔ c = true ∧ ∀ i, i < k → 0 ≤ l i ∧ l i < n := by
  induction k with
  | zero => simp [okL]
  | succ k ih =>
    simp only [okL, Bool.and_eq_true, decide_eq_true_eq, ih]
    constructor
    · rintro ⟨⟨h1, h2⟩, h3, h4⟩
      refine ⟨h1, fun i hi => ?_⟩
      by_cases e : i = k
      · subst e; exact ⟨h3, h4⟩
      · exact h2 i (by omega)
    · rintro ⟨h1, h2⟩
      exact ⟨⟨h1, fun i hi => h2 i (by omega)⟩, h2 k (by omega)⟩
theorem make_any {w : World} {s h n : Nat} {f : Nat → Nat} (H : St w s h n f) (form : Int) (a : Option Addr) (len cap : Nat) (l : Nat → Int) (hl : IntsAt w a len l) (hcap : len ≤ cap) (hah : 0 < len → ∀ b off, a = some ⟨b, off, none⟩ → b ≠ h) (c : Bool) (hc : c = true ↔ len = 5 ∧ (form = 1 ∨ form = 2)) :
    Calls Try.prog 18 #[.pointer (some ⟨s, 0, none⟩), .int .i64 form, .slice a len cap] w fun e w' =>
      ∃ fv A L C F', e = .returned (.tuple #[.agg #[.int .i64 fv, .slice A L C], .int .i64 (if okL c l n len then 0 else 1)]) ∧ (okL c l n len = false → L = 0) ∧ St w' s h n F' ∧ w.grownBy w' (some h) := by
  have bad : ∀ (hr : okL c l n len = false), (Calls Try.prog 18 #[.pointer (some ⟨s, 0, none⟩), .int .i64 form, .slice a len cap] w fun e w' => e = .returned (.tuple #[.agg #[.int .i64 0, .slice none 0 0], .int .i64 1]) ∧ Below w.heap.size w w') →
      Calls Try.prog 18 #[.pointer (some ⟨s, 0, none⟩), .int .i64 form, .slice a len cap] w fun e w' =>
      ∃ fv A L C F', e = .returned (.tuple #[.agg #[.int .i64 fv, .slice A L C], .int .i64 (if okL c l n len then 0 else 1)]) ∧ (okL c l n len = false → L = 0) ∧ St w' s h n F' ∧ w.grownBy w' (some h) := by
    intro hr hh
    refine hh.mono fun e w' hx => ?_
    obtain ⟨he, hb⟩ := hx
    refine ⟨0, none, 0, 0, f, ?_, fun _ => rfl, H.below hb, World.grownBy.but (grown_of_below hb) (some h)⟩
    rw [he, hr]; rfl
  by_cases h1 : form = 1 ∨ form = 2
  · by_cases h2 : len = 5
    · subst h2
      have hct : c = true := hc.2 ⟨rfl, h1⟩
      by_cases h3 : ∀ i, i < 5 → 0 ≤ l i ∧ l i < n
      · have hr : okL c l n 5 = true := (okL_iff c l n 5).2 ⟨hct, h3⟩
        obtain ⟨b, off, rfl, _⟩ := hl 0 (by omega)
        obtain ⟨fm, rfl, hfm⟩ : ∃ m : Nat, form = (m : Int) ∧ (m = 1 ∨ m = 2) := by
          rcases h1 with rfl | rfl
          · exact ⟨1, rfl, .inl rfl⟩
          · exact ⟨2, rfl, .inr rfl⟩
        have hl' : IntsAt w (some ⟨b, off, none⟩) 5 (fun i => ((l i).toNat : Int)) := by
          intro i hi
          obtain ⟨b', off', e1, e2, e3⟩ := hl i hi
          refine ⟨b', off', e1, e2, ?_⟩
          show _ = some (Value.int .i64 ((l i).toNat : Int))
          rw [e3, Int.toNat_of_nonneg (h3 i hi).1]
        refine (make_ok H fm hfm b off cap (fun i => (l i).toNat) hl' hcap (fun i hi => by have := h3 i hi; omega) (hah (by omega) b off rfl)).mono fun e w' hx => ?_
        obtain ⟨g', cap', he, _, _, hs, hg⟩ := hx
        refine ⟨(fm : Int), some ⟨g', 0, none⟩, 5, cap', _, ?_, fun hh => absurd (hr.symm.trans hh) (by decide), hs, hg⟩
        rw [he, hr]; rfl
      · have hr : okL c l n 5 = false := by
          cases e : okL c l n 5
          · rfl
          · exact absurd ((okL_iff c l n 5).1 e).2 h3
        exact bad hr (make_out H form h1 a cap l hl h3)
    · have hr : okL c l n len = false := by
        cases e : okL c l n len
        · rfl
        · exact absurd (hc.1 ((okL_iff c l n len).1 e).1).1 h2
      exact bad hr (make_len _ form h1 a len cap h2)
  · have hr : okL c l n len = false := by
      cases e : okL c l n len
      · rfl
      · exact absurd (hc.1 ((okL_iff c l n len).1 e).1).2 h1
    exact bad hr (make_form _ form (fun e => h1 (.inl e)) (fun e => h1 (.inr e)) a len cap)
end Go.Proofs.Ytepcijkmecoofaa
