/-
  What the laws of layer 13 call: near, ready, Number, Of, awake.
-/
import Derived.Test.YthafcgppopfdkaaUB
namespace Go.Proofs.Ythafcgppopfdkaa
open Go.ChangeShapes Go.WideShapes Go.ChangeAt Go.RowKit
set_option maxRecDepth 100000
set_option linter.unusedVariables false

def IV (l : Nat → Nat) : Array Value := arrA 18 fun i => .int .u8 (l i : Nat)
theorem IV_size (l : Nat → Nat) : (IV l).size = 18 := arrA_size _ _
def nearT (l : Nat → Nat) (i : Nat) : Int := ((l i % 4 : Nat) : Int)
theorem nearT_rg (l : Nat → Nat) : Rg (nearT l) := fun i => by unfold nearT; omega
def readyN (x i : Nat) : Bool := decide (x / 2 ^ i % 2 = 1)
theorem readyN_is (x k : Nat) : readyN x k = ((((x : Nat) : Int) / 2 ^ k).tmod 2 == 1) := by
  have e : ((x : Int) / 2 ^ k) = ((x / 2 ^ k : Nat) : Int) := by simp
  rw [e, Int.tmod_eq_emod_of_nonneg (Int.natCast_nonneg _)]
  unfold readyN
  generalize x / 2 ^ k = n
  by_cases h : n % 2 = 1
  · rw [decide_eq_true h]; symm; simp; omega
  · rw [decide_eq_false h]; symm; simp; omega
theorem TV_build (f : Nat → Int) (k : Nat) : TV (updA (fun i => if i < k then f i else 0) k (f k)) = TV (fun i => if i < k + 1 then f i else 0) := TV_congr fun i _ => by
  unfold updA
  by_cases h : i = k
  · subst h; simp
  · rw [if_neg h]
    show (if i < k then f i else 0) = _
    by_cases h2 : i < k
    · rw [if_pos h2, if_pos (by omega)]
    · rw [if_neg h2, if_neg (by omega)]
theorem RV_congr {t u : Nat → Bool} (h : ∀ i, i < 18 → t i = u i) : RV t = RV u := by
  unfold RV
  exact arrA_congr fun i hi => by rw [h i hi]
theorem RV_build (f : Nat → Bool) (k : Nat) : RV (updA (fun i => if i < k then f i else false) k (f k)) = RV (fun i => if i < k + 1 then f i else false) := RV_congr fun i _ => by
  unfold updA
  by_cases h : i = k
  · subst h; simp
  · rw [if_neg h]
    show (if i < k then f i else false) = _
    by_cases h2 : i < k
    · rw [if_pos h2, if_pos (by omega)]
    · rw [if_neg h2, if_neg (by omega)]
set_option maxHeartbeats 2000000 in
theorem near13_in (l : Nat → Nat) (hl : ∀ i, l i < 256) (w : World) : Calls Try.prog 11 #[.agg (IV l)] w fun e w' => e = .returned (.agg (TV (nearT l))) ∧ Below w.heap.size w w' := by
  have HZ := zeroT_run
  have b1 := below_new w (.cells (IV l) 22)
  have b2 := below_more b1 (.cells (TV fun _ => 0) 25)
  have o1 := ((ob_new (Below.refl w.heap.size w) 22 (IV l)).below (below_new _ (.cells (TV fun _ => 0) 25))).below (below_new _ (.cells (TV fun _ => 0) 25))
  have o2 := (ob_new b1 25 (TV fun _ => 0)).below (below_new _ (.cells (TV fun _ => 0) 25))
  have o3 := ob_new b2 25 (TV fun _ => 0)
  rw [World.size_alloc] at o2
  rw [World.size_alloc, World.size_alloc] at o3
  have O1 := Lib.hid o1
  have O2 := Lib.hid o2
  have O3 := Lib.hid o3
  clear b1 b2 o1 o2 o3
  go_enter Try.func11, Try.ntmps11
  go_wp2
  generalize ((w.alloc (.cells (IV l) 22)).alloc (.cells (TV fun _ => 0) 25)).alloc (.cells (TV fun _ => 0) 25) = V at *
  go_loopw [4] (fun i wr => ∃ k : Nat, k ≤ 18 ∧ i = .int .i64 k ∧ OB w wr w.heap.size 22 (IV l) ∧ OB w wr (w.heap.size + 1) 25 (TV fun _ => 0) ∧ OB w wr (w.heap.size + 1 + 1) 25 (TV fun i => if i < k then nearT l i else 0)) (fun i _ => 18 - (intOf i).toNat)
  case atStart => exact ⟨0, by omega, rfl, O1.out, O2.out, by simpa using O3.out⟩
  case round =>
    clear O1 O2 O3
    obtain ⟨k, hk, rfl, h1, h2, h3⟩ := hrel
    by_cases hlt : k < 18
    · have k1 : (k : Int) < 18 := by omega
      have c1 := h1.bl.at hlt
      have hl8 := hl k
      have c3 := h3.bl.at hlt
      have f3 := h3.bl.fz k
      have h4 := h3.set k (.int .i64 (nearT l k)) (TV_set _ k _)
      rw [TV_build (nearT l) k] at h4
      have g4 := grown_setCell wr ⟨w.heap.size + 1 + 1, k, none⟩ (.int .i64 (nearT l k))
      have H4 := Lib.hid h4
      have H1 := Lib.hid (h1.kept g4 (by dsimp only; omega) (by dsimp only; omega))
      have H2 := Lib.hid (h2.kept g4 (by dsimp only; omega) (by dsimp only; omega))
      clear h1 h2 h3 h4 g4
      unfold nearT at H1 H2 H4
      go_wp2
      go_roundw
      case rel => exact ⟨k + 1, by omega, by go_num, H1.out, H2.out, H4.out⟩
      case measure => simp [intOf]; omega
    · obtain rfl : k = 18 := by omega
      have e : (TV fun i => if i < 18 then nearT l i else 0) = TV (nearT l) := TV_congr fun i hi => if_pos hi
      rw [e] at h3
      have H3 := Lib.hid h3
      have H2 := Lib.hid h2
      have H4 := Lib.hid (h2.put (TV (nearT l)))
      clear h1 h2 h3 e
      go_wp2_with (first
        | (refine wpList_ldT rfl (.tmp 3) rfl (w.heap.size + 1 + 1) rfl (nearT l) (H3.out).bl ?_)
        | (refine wpList_stT rfl (.tmp 2) (.tmp 16) rfl (w.heap.size + 1) rfl (fun _ => 0) (nearT l) rfl (H2.out).bl ?_))
      exact bodyPost_ret (results_arr rfl _ Try.underlying25 rfl (by rw [TV_size]; exact sizeT) rfl (H4.out).bl) rfl ⟨rfl, (H4.out).bel⟩
set_option maxHeartbeats 2000000 in
theorem ready_in (x : Nat) (hx : x < 4294967296) (w : World) : Calls Try.prog 12 #[.int .u32 x] w fun e w' => e = .returned (.agg (RV (readyN x))) ∧ Below w.heap.size w w' := by
  have HZ := zeroR_run
  have b1 := below_new w (.cells (RV fun _ => false) 27)
  have o1 := (ob_new (Below.refl w.heap.size w) 27 (RV fun _ => false)).below (below_new _ (.cells (RV fun _ => false) 27))
  have o2 := ob_new b1 27 (RV fun _ => false)
  rw [World.size_alloc] at o2
  have O1 := Lib.hid o1
  have O2 := Lib.hid o2
  clear b1 o1 o2
  go_enter Try.func12, Try.ntmps12
  go_wp2
  generalize (w.alloc (.cells (RV fun _ => false) 27)).alloc (.cells (RV fun _ => false) 27) = V at *
  go_loopw [4] (fun i wr => ∃ k : Nat, k ≤ 18 ∧ i = .int .i64 k ∧ OB w wr w.heap.size 27 (RV fun _ => false) ∧ OB w wr (w.heap.size + 1) 27 (RV fun i => if i < k then readyN x i else false)) (fun i _ => 18 - (intOf i).toNat)
  case atStart => exact ⟨0, by omega, rfl, O1.out, by simpa using O2.out⟩
  case round =>
    clear O1 O2
    obtain ⟨k, hk, rfl, h1, h3⟩ := hrel
    by_cases hlt : k < 18
    · have k1 : (k : Int) < 18 := by omega
      have c3 := h3.bl.at hlt
      have f3 := h3.bl.fz k
      have h4 := h3.set k (.bool (readyN x k)) (RV_set _ k _)
      rw [RV_build (readyN x) k] at h4
      have ev := readyN_is x k
      rw [ev] at h4
      have g4 := grown_setCell wr ⟨w.heap.size + 1, k, none⟩ (.bool ((((x : Nat) : Int) / 2 ^ k).tmod 2 == 1))
      clear ev
      have H4 := Lib.hid h4
      have H1 := Lib.hid (h1.kept g4 (by dsimp only; omega) (by dsimp only; omega))
      clear h1 h3 h4 g4
      go_wp2
      go_roundw
      case rel => exact ⟨k + 1, by omega, by go_num, H1.out, H4.out⟩
      case measure => simp [intOf]; omega
    · obtain rfl : k = 18 := by omega
      have e : (RV fun i => if i < 18 then readyN x i else false) = RV (readyN x) := RV_congr fun i hi => if_pos hi
      rw [e] at h3
      have H3 := Lib.hid h3
      have H2 := Lib.hid h1
      have H4 := Lib.hid (h1.put (RV (readyN x)))
      clear h1 h3 e
      go_wp2_with (first
        | (refine wpList_ldR rfl (.tmp 3) rfl (w.heap.size + 1) rfl (readyN x) (H3.out).bl ?_)
        | (refine wpList_stR rfl (.tmp 2) (.tmp 16) rfl w.heap.size rfl (fun _ => false) (readyN x) rfl (H2.out).bl ?_))
      exact bodyPost_ret (results_arr rfl _ Try.underlying27 rfl (by rw [RV_size]; exact sizeR) rfl (H4.out).bl) rfl ⟨rfl, (H4.out).bel⟩

/-! ### Number, Of -/
def numN (vm seat : Int) : Int := if 0 ≤ vm ∧ vm < 6 ∧ 0 ≤ seat ∧ seat < 3 then vm * 3 + seat else -1
theorem number_in (vm seat : Int) (w : World) : Calls Try.prog 15 #[.int .i64 vm, .int .i64 seat] w fun e w' => e = .returned (.int .i64 (numN vm seat)) ∧ w = w' := by
  by_cases h : 0 ≤ vm ∧ vm < 6 ∧ 0 ≤ seat ∧ seat < 3
  · have e : numN vm seat = vm * 3 + seat := if_pos h
    obtain ⟨h1, h2, h3, h4⟩ := h
    have n1 : ¬ (vm < 0) := by omega
    have n2 : ¬ (6 ≤ vm) := by omega
    have n3 : ¬ (seat < 0) := by omega
    have n4 : ¬ (3 ≤ seat) := by omega
    rw [e]
    clear e
    go_enter Try.func15, Try.ntmps15
    go_wp2
    go_ret
    exact ⟨rfl, rfl⟩
  · have e : numN vm seat = -1 := if_neg h
    rw [e]
    clear e
    by_cases h1 : vm < 0
    · clear h
      go_enter Try.func15, Try.ntmps15
      go_wp2
      go_ret
      exact ⟨rfl, rfl⟩
    by_cases h2 : 6 ≤ vm
    · clear h
      go_enter Try.func15, Try.ntmps15
      go_wp2
      go_ret
      exact ⟨rfl, rfl⟩
    by_cases h3 : seat < 0
    · clear h
      go_enter Try.func15, Try.ntmps15
      go_wp2
      go_ret
      exact ⟨rfl, rfl⟩
    have h4 : 3 ≤ seat := by omega
    clear h
    go_enter Try.func15, Try.ntmps15
    go_wp2
    go_ret
    exact ⟨rfl, rfl⟩
theorem of_in (n : Nat) (hn : n < 18) (w : World) : Calls Try.prog 16 #[.int .i64 (n : Nat)] w fun e w' => e = .returned (.tuple #[.int .i64 (n / 3 : Nat), .int .i64 (n % 3 : Nat)]) ∧ w = w' := by
  go_enter Try.func16, Try.ntmps16
  go_wp2
  go_ret2
  refine ⟨?_, rfl⟩
  have e1 : ((n / 3 : Nat) : Int) = (n : Int) / 3 := by omega
  have e2 : ((n % 3 : Nat) : Int) = (n : Int) % 3 := by omega
  rw [e1, e2]
  rfl
/-! ### awake -/
def aR (i : Nat) : Bool := decide (i < 2)
def aT : Nat → Nat → Int
  | 0 => fun _ => 0
  | k + 1 => pickN (aT k) aR
theorem aT_rg (k : Nat) : Rg (aT k) := by
  induction k with
  | zero => intro i; show (0 : Int) ≤ 0 ∧ (0 : Int) ≤ 3; omega
  | succ k ih => exact pickN_rg ih aR
theorem aT_best : ∀ k, k < 7 → bestN (aT k) aR 18 = ((k % 2 : Nat) : Int) := by decide
def wantA : Array Value := #[.int .i64 0, .int .i64 1, .int .i64 0, .int .i64 1, .int .i64 0, .int .i64 1, .int .i64 0]
theorem wantA_at (k : Nat) (h : k < 7) : wantA[k]? = some (.int .i64 ((k % 2 : Nat) : Int)) := by
  have h' : k = 0 ∨ k = 1 ∨ k = 2 ∨ k = 3 ∨ k = 4 ∨ k = 5 ∨ k = 6 := by omega
  rcases h' with rfl | rfl | rfl | rfl | rfl | rfl | rfl <;> rfl
theorem aR_row : ((RV fun _ => false).setIfInBounds 0 (.bool true)).setIfInBounds 1 (.bool true) = RV aR := by
  rw [RV_set, RV_set]
  exact RV_congr (by decide)
/-- What stands in awake's loop. -/
structure AwI (w wr : World) (k : Nat) : Prop where
  t : OB w wr w.heap.size 25 (TV (aT k))
  r : OB w wr (w.heap.size + 1) 27 (RV aR)
  v : OB w wr (w.heap.size + 1 + 1) 3 wantA
theorem AwI.below {w wr w' : World} {k : Nat} (h : AwI w wr k) (hb : Below wr.heap.size wr w') : AwI w w' k := ⟨h.t.below hb, h.r.below hb, h.v.below hb⟩
theorem AwI.put {w wr : World} {k : Nat} (h : AwI w wr k) : AwI w (wr.setRow w.heap.size (TV (aT (k + 1)))) (k + 1) :=
  ⟨h.t.put _, h.r.kept (grown_setRow _ _ _) (by omega) (by omega), h.v.kept (grown_setRow _ _ _) (by omega) (by omega)⟩
set_option maxHeartbeats 2000000 in
theorem awake13_in (w : World) : Calls Try.prog 14 #[] w fun e w' => e = .returned (.bool true) ∧ Below w.heap.size w w' := by
  have HZ := zeroT_run
  have HY := zeroR_run
  have HP := Lib.hid (fun k => pick_in (aT k) aR (aT_rg k))
  have HA := Lib.hid aT_best
  have b1 := below_new w (.cells (TV fun _ => 0) 25)
  have b2 := below_more b1 (.cells (RV aR) 27)
  have o1 := (ob_new (Below.refl w.heap.size w) 25 (TV fun _ => 0)).below (below_new _ (.cells (RV aR) 27))
  have o2 := ob_new b1 27 (RV aR)
  have o3 := ob_new b2 3 wantA
  rw [World.size_alloc] at o2
  rw [World.size_alloc, World.size_alloc] at o3
  have H0 : Hid (AwI w (((w.alloc (.cells (TV fun _ => 0) 25)).alloc (.cells (RV aR) 27)).alloc (.cells wantA 3)) 0) := Lib.hid ⟨o1.below (below_new _ _), o2.below (below_new _ _), o3⟩
  clear o1 o2 o3
  have o1 := (ob_new (Below.refl w.heap.size w) 25 (TV fun _ => 0)).below (below_new _ (.cells (RV fun _ => false) 27))
  have o2 := ob_new b1 27 (RV fun _ => false)
  rw [World.size_alloc] at o2
  have c0 := o2.bl.at (show 0 < 18 by omega)
  have f0 := o2.bl.fz 0
  have p1 := o2.set 0 (.bool true) (RV_set _ _ _)
  have c1 := p1.bl.at (show 1 < 18 by omega)
  have f1 := p1.bl.fz 1
  have AR := Lib.hid aR_row
  clear b1 b2 o1 o2 p1
  go_enter Try.func14, Try.ntmps14
  go_wp2_with fail
  rw [AR.out]
  have e : (#[.int .i64 0, .int .i64 1, .int .i64 0, .int .i64 1, .int .i64 0, .int .i64 1, .int .i64 0] : Array Value) = wantA := rfl
  rw [e]
  clear c0 f0 c1 f1 AR e
  generalize (((w.alloc (.cells (TV fun _ => 0) 25)).alloc (.cells (RV aR) 27)).alloc (.cells wantA 3)) = V at *
  go_loopw [4, 5, 6] (fun i _ _ wr => ∃ k : Nat, k ≤ 7 ∧ i = .int .i64 k ∧ AwI w wr k) (fun i _ _ _ => 7 - (intOf i).toNat)
  case atStart => exact ⟨0, by omega, rfl, H0.out⟩
  case round =>
    clear H0
    obtain ⟨k, hk, rfl, h0⟩ := hrel
    by_cases hlt : k < 7
    · have k1 : (k : Int) < 7 := by omega
      have H := Lib.hid h0
      have hP := HP.out k
      have ha := HA.out k hlt
      rw [ha] at hP
      have HK : Hid (∀ W, _) := Lib.hid hP
      clear h0 hP ha
      go_wp2_with (first
        | (refine wpList_ldT rfl (.tmp 1) rfl w.heap.size rfl (aT k) (H.out).t.bl ?_)
        | (refine wpList_ldR rfl (.tmp 2) rfl (w.heap.size + 1) rfl aR (H.out).r.bl ?_))
      refine (HK.out _).mono ?_
      rintro e w1 ⟨rfl, b1⟩
      have h1 := (H.out).below b1
      have l1 := ob_lay h1.t.bel 25 (TV fun _ => 0) (TV (aT (k + 1)))
      have g1 := (below_new w1 (.cells (TV fun _ => 0) 25)).grown (grown_setRow _ w1.heap.size (TV (aT (k + 1)))) (by simp) (fun j hj => by injection hj with hj; omega)
      have h2 := h1.below g1
      have cw := (h2.v.bl.cell k).trans (wantA_at k hlt)
      have H2 := Lib.hid h2
      have H3 := Lib.hid h2.put
      have L1 := Lib.hid l1
      have Z1 := Lib.hid (bl_new w1 25 (TV fun _ => 0))
      clear h1 l1 g1 h2 b1 H
      go_wp2_with (first
        | (refine wpList_stT rfl (.tmp 5) (.tmp 18) rfl w1.heap.size rfl (fun _ => 0) (aT (k + 1)) rfl Z1.out ?_)
        | (refine wpList_ldT rfl (.tmp 5) rfl w1.heap.size rfl (aT (k + 1)) (L1.out).bl ?_)
        | (refine wpList_stT rfl (.tmp 1) (.tmp 26) rfl w.heap.size rfl (aT k) (aT (k + 1)) rfl (H2.out).t.bl ?_))
      go_roundw
      case rel => exact ⟨k + 1, by omega, by go_num, H3.out⟩
      case measure => simp [intOf]; omega
    · obtain rfl : k = 7 := by omega
      have H := Lib.hid h0
      clear h0
      go_wp2
      go_ret
      exact ⟨rfl, (H.out).t.bel⟩
end Go.Proofs.Ythafcgppopfdkaa
