/-
  The law's own small calls (awake, form, made), and the words that stand in the store behind them.
-/
import Derived.Test.YtepcijkmecoofaaEO
import Derived.RegionTactic
namespace Go.Proofs.Ytepcijkmecoofaa
open Go.ChangeShapes Go.WideShapes Go.ChangeAt Go.RowKit
open WM EM
set_option maxRecDepth 100000

theorem awake6_in (w : World) : Calls Try.prog 7 #[] w fun e w' => e = .returned (.bool true) ∧ Below w.heap.size w w' := by
  have h := pack_in 1 5 true w (.inl rfl) (by omega)
  rw [show pk 1 5 true = 1283 by decide] at h
  have HP := Lib.hid h
  clear h
  go_enter Try.func7, Try.ntmps7
  go_wp2_with (go_at_call 15; refine (HP.out).mono ?_; rintro e w' ⟨rfl, hb⟩)
  go_ret
  exact ⟨rfl, hb⟩
def formN (n : Nat) : Nat := 1 + n % 2
theorem formN_in (n : Nat) : formN n = 1 ∨ formN n = 2 := by unfold formN; omega
theorem form_in (n : Nat) (hn : n < 256) (w : World) : Calls Try.prog 13 #[.int .u8 n] w fun e w' => e = .returned (.int .i64 (formN n : Nat)) ∧ w = w' := by
  go_enter Try.func13, Try.ntmps13
  go_wp2
  go_ret
  exact ⟨ret_int (by unfold formN; omega), rfl⟩

/-! ### made -/
def fl (i : Nat) : Nat := 3 + i
/-- The bytes behind made. -/
def madeF (form : Nat) : Nat → Nat := saveF (clearF (fun _ => 0) fl 5) form fl 4
theorem results232 {fn : Func} {p q u : Tmp} (hr : fn.results = #[.tmp q, .cell p 27, .tmp u]) {tmps : Array Value} {W : World} {B : Nat} {v0 v1 : Value} (hp : tmps.getD p undef = .pointer (some ⟨B, 0, none⟩))
    (h0 : W.cell? ⟨B, 0, none⟩ = some v0) (h1 : W.cell? ⟨B, 1, none⟩ = some v1) :
    (results fn tmps).run Try.prog W = .ok (.tuple #[tmps.getD q undef, .agg #[v0, v1], tmps.getD u undef]) W := by
  have hl := load2 W B v0 v1 h0 h1
  clear h0 h1
  have hp' : tmps[p]?.getD undef = .pointer (some ⟨B, 0, none⟩) := by simpa using hp
  simp only [results, hr]
  simp [hp', asAddr, hl]
/-- A table in a store, and where they lie. -/
structure Md (w : World) (s h g cap : Nat) (form : Nat) (F : Nat → Nat) (B : Nat) : Prop where
  st : St w s h 40 F
  ints : IntsAt w (some ⟨g, 0, none⟩) 5 (fun i => (fl i : Int))
  ls : B ≤ s
  lh : B ≤ h
  lg : B ≤ g
  ne : g ≠ h
set_option maxHeartbeats 1000000 in
theorem made_in (n : Nat) (hn : n < 256) (w : World) : Calls Try.prog 8 #[.int .u8 n] w fun e w' =>
    ∃ s h g cap, e = .returned (.tuple #[.pointer (some ⟨s, 0, none⟩), .agg #[.int .i64 (formN n : Nat), .slice (some ⟨g, 0, none⟩) 5 cap], .bool true]) ∧ Md w' s h g cap (formN n) (madeF (formN n)) w.heap.size ∧ Below w.heap.size w w' := by
  have b1 := below_new w (.cells #[.int .i64 0, .slice none 0 0] 27)
  have l2 := l2_mk w (.int .i64 0) (.slice none 0 0) 27
  have HN := Lib.hid (new_in 40 (by omega) (w.alloc (.cells #[.int .i64 0, .slice none 0 0] 27)))
  have HF := Lib.hid (fun W => form_in n hn W)
  have hform := formN_in n
  obtain ⟨fm, hfm⟩ : ∃ x, formN n = x := ⟨_, rfl⟩
  rw [hfm] at HF hform ⊢
  clear hfm
  go_enter Try.func8, Try.ntmps8
  go_wp2_with fail
  refine (HN.out).mono ?_
  rintro e w1 ⟨rfl, h1, g1⟩
  rw [World.size_alloc, show clampN 40 = 40 by unfold clampN; omega] at h1
  rw [World.size_alloc]
  have b2 := below_up b1 (below_of_grown g1)
  have l3 := l2.later (below_of_grown g1)
  clear g1 b1 l2
  have hi2 : IntsAt (w1.alloc (.cells #[.int .i64 3, .int .i64 4, .int .i64 5, .int .i64 6, .int .i64 7] 3)) (some ⟨w1.heap.size, 0, none⟩) 5 (fun i => (fl i : Int)) := by
    intro i hi
    refine ⟨w1.heap.size, 0, rfl, by simp, ?_⟩
    have : i = 0 ∨ i = 1 ∨ i = 2 ∨ i = 3 ∨ i = 4 := by omega
    rcases this with rfl | rfl | rfl | rfl | rfl <;> simp [fl]
  have hs2 := h1.below (below_new w1 (.cells #[.int .i64 3, .int .i64 4, .int .i64 5, .int .i64 6, .int .i64 7] 3))
  have b3 := below_more b2 (.cells #[.int .i64 3, .int .i64 4, .int .i64 5, .int .i64 6, .int .i64 7] 3)
  have l4 := l3.later (below_new w1 (.cells #[.int .i64 3, .int .i64 4, .int .i64 5, .int .i64 6, .int .i64 7] 3))
  have hrl := h1.row.lt
  have HM := Lib.hid (make_ok hs2 fm hform w1.heap.size 0 5 fl hi2 (by omega) (fun i hi => by unfold fl; omega) (by omega))
  clear h1 b2 l3 hs2 hi2
  go_wp2_with (first
    | (go_at_call 13; refine (HF.out _).mono ?_; rintro e w' ⟨rfl, rfl⟩)
    | (go_at_call 18; refine (HM.out).mono ?_; rintro e w4 ⟨g', cap', rfl, hg', hI4, hS4, g4⟩
       have HI4 := Lib.hid hI4
       have HS4 := Lib.hid hS4
       have HG4 := Lib.hid g4
       have b4 := b3.grown g4 b3.size (fun j hj => by injection hj with hj; omega)
       have l5 := l4.kept g4 (by intro e; injection e with e; omega)
       clear hI4 hS4 g4 b3 l4))
  have hz4 := (HG4.out).size
  rw [World.size_alloc] at hz4 hg'
  have l6 := l2_mk w4 (.int .i64 fm) (.slice (some ⟨g', 0, none⟩) 5 cap') 27
  have l7 := l5.later (below_new w4 (.cells #[.int .i64 fm, .slice (some ⟨g', 0, none⟩) 5 cap'] 27))
  have hl4 := l5.lt
  have b5 := below_more b4 (.cells #[.int .i64 fm, .slice (some ⟨g', 0, none⟩) 5 cap'] 27)
  have HI5 := Lib.hid ((HI4.out).below (below_new w4 (.cells #[.int .i64 fm, .slice (some ⟨g', 0, none⟩) 5 cap'] 27)))
  have HS5 := Lib.hid ((HS4.out).below (below_new w4 (.cells #[.int .i64 fm, .slice (some ⟨g', 0, none⟩) 5 cap'] 27)))
  have hw1 : w.heap.size < w1.heap.size := by have := (HS4.out).lt; omega
  clear l5 b4 HG4 HI4 HS4
  generalize w4.alloc (.cells #[.int .i64 fm, .slice (some ⟨g', 0, none⟩) 5 cap'] 27) = U at *
  obtain ⟨a0, a1, al, af⟩ := l6
  obtain ⟨c0, c1, cl, cf⟩ := l7
  have n1 : ¬ (w.heap.size = w4.heap.size) := by omega
  have n2 : ¬ (w4.heap.size = w.heap.size) := by omega
  generalize w4.heap.size = Be at *
  go_region
  go_wp2
  obtain ⟨r0, r1⟩ := set2 U w.heap.size (.int .i64 fm) (.slice (some ⟨g', 0, none⟩) 5 cap') (by rw [c0]; rfl) (by rw [c1]; rfl)
  have gA := grown_setCell U ⟨w.heap.size, 0, none⟩ (.int .i64 fm)
  have gB := grown_setCell (U.setCell ⟨w.heap.size, 0, none⟩ (.int .i64 fm)) ⟨w.heap.size, 1, none⟩ (.slice (some ⟨g', 0, none⟩) 5 cap')
  have hs5 := ((HS5.out).kept gA (by intro e; injection e with e; change _ = w.heap.size at e; omega) (by intro e; injection e with e; change _ = w.heap.size at e; omega)).kept gB (by intro e; injection e with e; change _ = w.heap.size at e; omega) (by intro e; injection e with e; change _ = w.heap.size at e; omega)
  have hi5 := ((HI5.out).kept gA (by intro b1 o1 e e2; injection e with e; injection e with e1; injection e2 with e2; simp at e2; omega)).kept gB (by intro b1 o1 e e2; injection e with e; injection e with e1; injection e2 with e2; simp at e2; omega)
  have b6 := (b5.setCell (p := ⟨w.heap.size, 0, none⟩) (Nat.le_refl _) (.int .i64 fm)).setCell (p := ⟨w.heap.size, 1, none⟩) (Nat.le_refl _) (.slice (some ⟨g', 0, none⟩) 5 cap')
  refine bodyPost_ret (results232 (hr := rfl) (hp := rfl) r0 r1) rfl ⟨_, w.heap.size + 1, g', cap', rfl, ⟨?_, ?_, by omega, by omega, by omega, by omega⟩, below_draws b6 1⟩
  · exact hs5.below (below_draws (Below.refl _ _) 1)
  · exact hi5.below (below_draws (Below.refl _ _) 1)

/-! ### the words behind a write -/
theorem wd_congr {f g : Nat → Nat} {k i : Nat} (h : ∀ j, j < 8 → f (k * 256 + i * 8 + j) = g (k * 256 + i * 8 + j)) : wd f k i = wd g k i := by
  unfold wd
  simp only [ofN]
  rw [h 0 (by omega), h 1 (by omega), h 2 (by omega), h 3 (by omega), h 4 (by omega), h 5 (by omega), h 6 (by omega), h 7 (by omega)]
theorem wd_same (f : Nat → Nat) (k i x : Nat) (hx : x < 18446744073709551616) : wd (putF f (k * 256 + i * 8) 8 (byteN x)) k i = x := by
  refine Eq.trans ?_ (ofN_bytes x hx)
  unfold wd
  have key : ∀ j, j < 8 → putF f (k * 256 + i * 8) 8 (byteN x) (k * 256 + i * 8 + j) = byteN x j := fun j hj => by
    unfold putF; rw [if_pos (by omega)]; congr 1; omega
  simp only [ofN]
  rw [key 0 (by omega), key 1 (by omega), key 2 (by omega), key 3 (by omega), key 4 (by omega), key 5 (by omega), key 6 (by omega), key 7 (by omega)]
theorem wd_other (f : Nat → Nat) (k i k' i' x : Nat) (hi : i < 32) (hi' : i' < 32) (hne : ¬ (k' = k ∧ i' = i)) : wd (putF f (k * 256 + i * 8) 8 (byteN x)) k' i' = wd f k' i' :=
  wd_congr fun j hj => by unfold putF; rw [if_neg (by omega)]
theorem wd_zero (k i : Nat) : wd (fun _ => 0) k i = 0 := by simp [wd, ofN]
theorem wd_clear (f : Nat → Nat) (k k' i' : Nat) (hi' : i' < 32) : wd (putF f (k * 256) 256 (fun _ => 0)) k' i' = if k' = k then 0 else wd f k' i' := by
  by_cases h : k' = k
  · subst h
    rw [if_pos rfl]
    have : wd (putF f (k' * 256) 256 (fun _ => 0)) k' i' = wd (fun _ => 0) k' i' := wd_congr fun j hj => by unfold putF; rw [if_pos (by omega)]
    rw [this, wd_zero]
  · rw [if_neg h]
    exact wd_congr fun j hj => by unfold putF; rw [if_neg (by omega)]
/-- The words behind made. -/
theorem made_wd (form k i : Nat) (hi : i < 32) : wd (madeF form) k i = if k = 3 ∧ i < 4 then pk form (4 + i) true else 0 := by
  have hc : ∀ k i, i < 32 → wd (clearF (fun _ => 0) fl 5) k i = 0 := by
    intro k i hi
    simp only [clearF]
    rw [wd_clear _ _ _ _ hi, wd_clear _ _ _ _ hi, wd_clear _ _ _ _ hi, wd_clear _ _ _ _ hi, wd_clear _ _ _ _ hi]
    rw [wd_zero]
    simp
  have step : ∀ m f k i, i < 32 → m < 4 → wd (putF f (fl 0 * 256 + m * 8) 8 (byteN (pk form (fl (m + 1)) true))) k i = if k = 3 ∧ i = m then pk form (4 + m) true else wd f k i := by
    intro m f k i hi hm
    by_cases h : k = 3 ∧ i = m
    · obtain ⟨rfl, rfl⟩ := h
      rw [if_pos ⟨rfl, rfl⟩]
      rw [show fl (i + 1) = 4 + i by unfold fl; omega, show fl 0 = 3 by decide]
      exact wd_same f 3 i _ (pk_lt _ _ _ (by omega))
    · rw [if_neg h, show fl 0 = 3 by decide]
      exact wd_other f 3 m k i _ (by omega) hi h
  unfold madeF
  simp only [saveF]
  rw [step 3 _ _ _ hi (by omega), step 2 _ _ _ hi (by omega), step 1 _ _ _ hi (by omega), step 0 _ _ _ hi (by omega), hc k i hi]
  by_cases h3 : k = 3
  · by_cases h4 : i < 4
    · have : i = 0 ∨ i = 1 ∨ i = 2 ∨ i = 3 := by omega
      rcases this with rfl | rfl | rfl | rfl <;> simp [h3]
    · rw [if_neg (by omega), if_neg (by omega), if_neg (by omega), if_neg (by omega), if_neg (by omega)]
  · rw [if_neg (by omega), if_neg (by omega), if_neg (by omega), if_neg (by omega), if_neg (by omega)]
end Go.Proofs.Ytepcijkmecoofaa
