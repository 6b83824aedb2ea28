/-
  Contracts of package turn.
-/
import Derived.Test.YthafcgppopfdkaaUA
namespace Go.Proofs.Ythafcgppopfdkaa
open Go.ChangeShapes Go.WideShapes Go.ChangeAt Go.RowKit
set_option maxRecDepth 100000
set_option linter.unusedVariables false

def TV (t : Nat → Int) : Array Value := arrA 18 fun i => .int .i64 (t i)
def RV (r : Nat → Bool) : Array Value := arrA 18 fun i => .bool (r i)
theorem TV_size (t : Nat → Int) : (TV t).size = 18 := arrA_size _ _
theorem RV_size (r : Nat → Bool) : (RV r).size = 18 := arrA_size _ _
theorem TV_set (t : Nat → Int) (k : Nat) (v : Int) : (TV t).setIfInBounds k (.int .i64 v) = TV (updA t k v) := by
  unfold TV
  rw [arrA_set]
  refine arrA_congr fun i _ => ?_
  unfold updA; split <;> rfl
theorem RV_set (r : Nat → Bool) (k : Nat) (v : Bool) : (RV r).setIfInBounds k (.bool v) = RV (updA r k v) := by
  unfold RV
  rw [arrA_set]
  refine arrA_congr fun i _ => ?_
  unfold updA; split <;> rfl
theorem TV_one (t : Nat → Int) : (TV t).all (·.oneCell') = true := arrA_one fun _ => rfl
theorem RV_one (r : Nat → Bool) : (RV r).all (·.oneCell') = true := arrA_one fun _ => rfl
theorem sizeT : (Try.prog.info? 25).map (·.size) = some 18 := by kernel_rfl
theorem sizeR : (Try.prog.info? 27).map (·.size) = some 18 := by kernel_rfl
theorem sizeN : (Try.prog.info? 24).map (·.size) = some 18 := by kernel_rfl
theorem sizeI : (Try.prog.info? 22).map (·.size) = some 18 := by kernel_rfl
theorem zeroT_run (W : World) : (zeroValue 25).run Try.prog W = .ok (.agg (TV fun _ => 0)) W := by kernel_rfl
theorem zeroR_run (W : World) : (zeroValue 27).run Try.prog W = .ok (.agg (RV fun _ => false)) W := by kernel_rfl
theorem zeroN_run (W : World) : (zeroValue 24).run Try.prog W = .ok (.agg (TV fun _ => 0)) W := by kernel_rfl

section
variable {ops : Array Oper} {rest : List Oper} {o : Oper} {a : Act} {w : World} {Q : Exit → Act → World → Prop}
theorem wpList_ldT (hw : Region.wanted o (yielded ops a.tmps) = true) (x : Operand) (ho : o.op = .load 25 x) (B : Nat) (hx : a.eval x = .pointer (some ⟨B, 0, none⟩)) (t : Nat → Int) (hL : BL w B 25 (TV t))
    (h : wpList Try.prog ops Q rest (a.put o.dst (.agg (TV t))) w) : wpList Try.prog ops Q (o :: rest) a w :=
  wpList_ldA hw _ x ho B hx _ _ _ Try.underlying25 rfl (by rw [TV_size]; exact sizeT) hL h
theorem wpList_ldR (hw : Region.wanted o (yielded ops a.tmps) = true) (x : Operand) (ho : o.op = .load 27 x) (B : Nat) (hx : a.eval x = .pointer (some ⟨B, 0, none⟩)) (r : Nat → Bool) (hL : BL w B 27 (RV r))
    (h : wpList Try.prog ops Q rest (a.put o.dst (.agg (RV r))) w) : wpList Try.prog ops Q (o :: rest) a w :=
  wpList_ldA hw _ x ho B hx _ _ _ Try.underlying27 rfl (by rw [RV_size]; exact sizeR) hL h
theorem wpList_stT (hw : Region.wanted o (yielded ops a.tmps) = true) (x y : Operand) (ho : o.op = .store 25 x y) (B : Nat) (hx : a.eval x = .pointer (some ⟨B, 0, none⟩)) (t u : Nat → Int) (hy : a.eval y = .agg (TV u)) (hL : BL w B 25 (TV t))
    (h : wpList Try.prog ops Q rest (a.put o.dst undef) (w.setRow B (TV u))) : wpList Try.prog ops Q (o :: rest) a w :=
  wpList_stA hw _ x y ho B hx _ _ _ hy (by rw [TV_size]; exact sizeT) (by rw [TV_size, TV_size]) (TV_one u) hL h
theorem wpList_stR (hw : Region.wanted o (yielded ops a.tmps) = true) (x y : Operand) (ho : o.op = .store 27 x y) (B : Nat) (hx : a.eval x = .pointer (some ⟨B, 0, none⟩)) (t u : Nat → Bool) (hy : a.eval y = .agg (RV u)) (hL : BL w B 27 (RV t))
    (h : wpList Try.prog ops Q rest (a.put o.dst undef) (w.setRow B (RV u))) : wpList Try.prog ops Q (o :: rest) a w :=
  wpList_stA hw _ x y ho B hx _ _ _ hy (by rw [RV_size]; exact sizeR) (by rw [RV_size, RV_size]) (RV_one u) hL h
end

theorem run_idxR (r : Nat → Bool) (i : Nat) (hi : i < 18) (w : World) : (Instr.index 27 (.agg (RV r)) (.int .i64 i)).run Try.prog w = .ok (.bool (r i)) w :=
  run_idx1 _ _ _ Try.underlying27 (by kernel_rfl) (by rw [Try.underlying4]) _ _ i _ hi (arrA_at _ hi) w

/-! ### first -/
/-- Who is picked of the first k. -/
def bestN (t : Nat → Int) (r : Nat → Bool) : Nat → Int
  | 0 => -1
  | k + 1 => if r k = true ∧ (bestN t r k < 0 ∨ t (bestN t r k).toNat < t k) then (k : Int) else bestN t r k
theorem bestN_succ (t : Nat → Int) (r : Nat → Bool) (k : Nat) : bestN t r (k + 1) = if r k = true ∧ (bestN t r k < 0 ∨ t (bestN t r k).toNat < t k) then (k : Int) else bestN t r k := rfl
theorem bestN_in (t : Nat → Int) (r : Nat → Bool) (k : Nat) : bestN t r k = -1 ∨ ∃ j : Nat, j < k ∧ bestN t r k = (j : Nat) := by
  induction k with
  | zero => exact .inl rfl
  | succ k ih =>
    unfold bestN
    split
    · exact .inr ⟨k, by omega, rfl⟩
    · rcases ih with h | ⟨j, hj, h⟩
      · exact .inl h
      · exact .inr ⟨j, by omega, h⟩
theorem bestN_skip {t : Nat → Int} {r : Nat → Bool} {k : Nat} (h : r k = false) : bestN t r (k + 1) = bestN t r k := by rw [bestN_succ, if_neg (by simp [h])]
theorem bestN_one {t : Nat → Int} {r : Nat → Bool} {k : Nat} (h : r k = true) (hb : bestN t r k = -1) : bestN t r (k + 1) = (k : Nat) := by rw [bestN_succ, if_pos ⟨h, .inl (by omega)⟩]
theorem bestN_new {t : Nat → Int} {r : Nat → Bool} {k j : Nat} (h : r k = true) (hb : bestN t r k = (j : Nat)) (hl : t j < t k) : bestN t r (k + 1) = (k : Nat) := by rw [bestN_succ, if_pos ⟨h, .inr (by rw [hb]; simpa using hl)⟩]
theorem bestN_old {t : Nat → Int} {r : Nat → Bool} {k j : Nat} (hb : bestN t r k = (j : Nat)) (hl : ¬ t j < t k) : bestN t r (k + 1) = bestN t r k := by
  rw [bestN_succ, if_neg]
  rintro ⟨_, h⟩
  rw [hb] at h
  rcases h with h | h
  · omega
  · exact hl (by simpa using h)
set_option maxHeartbeats 2000000 in
theorem first_in (t : Nat → Int) (r : Nat → Bool) (w : World) :
    Calls Try.prog 25 #[.agg (TV t), .agg (RV r)] w fun e w' => e = .returned (.int .i64 (bestN t r 18)) ∧ Below w.heap.size w w' := by
  have HB := Lib.hid (below_more (below_new w (.cells (TV t) 25)) (.cells (RV r) 27))
  have HT : Hid (BL ((w.alloc (.cells (TV t) 25)).alloc (.cells (RV r) 27)) w.heap.size 25 (TV t)) := Lib.hid ((bl_new w _ _).below (below_new _ _))
  have HR : Hid (BL ((w.alloc (.cells (TV t) 25)).alloc (.cells (RV r) 27)) (w.heap.size + 1) 27 (RV r)) := Lib.hid (bl_newAt _ _ _ _ (by simp))
  go_enter Try.func25, Try.ntmps25
  go_wp2_with (refine wpList_ldR rfl (.tmp 3) rfl (w.heap.size + 1) rfl r HR.out ?_)
  generalize (w.alloc (.cells (TV t) 25)).alloc (.cells (RV r) 27) = V at *
  go_loopw [5, 6, 7, 9] (fun b _ _ i wr => ∃ k n : Nat, k ≤ 18 ∧ i = .int .i64 k ∧ b = .int .i64 (bestN t r k) ∧ wr = V.drewN n) (fun _ _ _ i _ => 18 - (intOf i).toNat)
  case atStart => exact ⟨0, 0, by omega, rfl, rfl, rfl⟩
  case round =>
    obtain ⟨k, n, hk, rfl, rfl, rfl⟩ := hrel
    by_cases hlt : k < 18
    · have k1 : (k : Int) < 18 := by omega
      have hat := run_idxR r k hlt
      have c1 := (HT.out).at hlt
      have k2 : ¬ ((k : Int) < 0) := by omega
      cases hr : r k
      · have e := Lib.hid (bestN_skip (t := t) hr)
        rw [hr] at hat
        clear c1 hr
        generalize bestN t r k = b at *
        go_wp2_with (simp only [hat])
        go_quiet (fail)
        go_wp2
        go_roundw
        case rel => exact ⟨k + 1, _, by omega, by go_num, by rw [e.out], rfl⟩
        case measure => simp [intOf]; omega
      · rcases bestN_in t r k with hb | ⟨j, hj, hb⟩
        · have e := Lib.hid (bestN_one hr hb)
          rw [hr] at hat
          rw [hb]
          clear hb hr
          go_wp2_with (simp only [hat])
          go_quiet (fail)
          go_wp2
          go_roundw
          case rel => exact ⟨k + 1, _, by omega, by go_num, by rw [e.out], rfl⟩
          case measure => simp [intOf]; omega
        · have c2 := (HT.out).at (show j < 18 by omega)
          have j0 : ¬ ((j : Int) < 0) := by omega
          have j1 : (j : Int) < 18 := by omega
          rw [hr] at hat
          by_cases hl : t j < t k
          · have e := Lib.hid (bestN_new hr hb hl)
            rw [hb]
            clear hb hr
            go_wp2_with (simp only [hat])
            go_quiet (fail)
            go_wp2
            go_roundw
            case rel => exact ⟨k + 1, _, by omega, by go_num, by rw [e.out], rfl⟩
            case measure => simp [intOf]; omega
          · have e := Lib.hid (bestN_old hb hl)
            rw [hb] at e ⊢
            clear hb hr
            go_wp2_with (simp only [hat])
            go_quiet (fail)
            go_wp2
            go_roundw
            case rel => exact ⟨k + 1, _, by omega, by go_num, by rw [e.out], rfl⟩
            case measure => simp [intOf]; omega
    · obtain rfl : k = 18 := by omega
      obtain ⟨b, hb⟩ : ∃ b, bestN t r 18 = b := ⟨_, rfl⟩
      rw [hb]
      have e := Lib.hid hb
      clear hb
      go_wp2
      go_ret
      exact ⟨by rw [e.out]; rfl, below_draws HB.out n⟩

/-! ### full, Pick -/
theorem TV_congr {t u : Nat → Int} (h : ∀ i, i < 18 → t i = u i) : TV t = TV u := by
  unfold TV
  exact arrA_congr fun i hi => by rw [h i hi]
theorem TV_step (k : Nat) (hk : k < 18) : TV (updA (fun i => if i < k then (3 : Int) else 0) k 3) = TV (fun i => if i < k + 1 then 3 else 0) := TV_congr fun i _ => by
  unfold updA
  by_cases h : i = k
  · subst h; simp
  · rw [if_neg h]
    show (if i < k then (3 : Int) else 0) = _
    by_cases h2 : i < k
    · rw [if_pos h2, if_pos (by omega)]
    · rw [if_neg h2, if_neg (by omega)]
set_option maxHeartbeats 2000000 in
theorem full_in (w : World) : Calls Try.prog 26 #[] w fun e w' => e = .returned (.agg (TV fun _ => 3)) ∧ Below w.heap.size w w' := by
  have HZ := zeroT_run
  have b1 := below_new w (.cells (TV fun _ => 0) 25)
  have h1 : OB w ((w.alloc (.cells (TV fun _ => 0) 25)).alloc (.cells (TV fun _ => 0) 25)) (w.heap.size + 1) 25 (TV fun _ => 0) :=
    ⟨bl_newAt _ _ _ _ (by simp), by omega, below_more b1 _⟩
  have h0 : OB w ((w.alloc (.cells (TV fun _ => 0) 25)).alloc (.cells (TV fun _ => 0) 25)) w.heap.size 25 (TV fun _ => 0) :=
    (ob_new (Below.refl _ _) _ _).below (below_new _ _)
  have H0 := Lib.hid h0
  have H1 := Lib.hid h1
  clear h0 h1 b1
  go_enter Try.func26, Try.ntmps26
  go_wp2
  generalize (w.alloc (.cells (TV fun _ => 0) 25)).alloc (.cells (TV fun _ => 0) 25) = V at *
  go_loopw [2, 3] (fun _ i wr => ∃ k : Nat, k ≤ 18 ∧ i = .int .i64 k ∧ OB w wr w.heap.size 25 (TV fun _ => 0) ∧ OB w wr (w.heap.size + 1) 25 (TV fun i => if i < k then 3 else 0)) (fun _ i _ => 18 - (intOf i).toNat)
  case atStart => exact ⟨0, by omega, rfl, H0.out, by simpa using H1.out⟩
  case round =>
    clear H0 H1
    obtain ⟨k, hk, rfl, h0, h1⟩ := hrel
    by_cases hlt : k < 18
    · have k1 : (k : Int) < 18 := by omega
      have c1 := h1.bl.at hlt
      have f1 := h1.bl.fz k
      have h2 := h1.set k (.int .i64 3) (TV_set _ k 3)
      rw [TV_step k hlt] at h2
      have H2 := Lib.hid h2
      have H3 := Lib.hid (h0.kept (grown_setCell wr ⟨w.heap.size + 1, k, none⟩ (.int .i64 3)) (by simp) (by simp))
      clear h0 h1 h2
      go_wp2
      go_roundw
      case rel => exact ⟨k + 1, by omega, by go_num, H3.out, H2.out⟩
      case measure => simp [intOf]; omega
    · obtain rfl : k = 18 := by omega
      have e : (TV fun i => if i < 18 then (3 : Int) else 0) = TV fun _ => 3 := TV_congr fun i hi => if_pos hi
      rw [e] at h1
      have H0 := Lib.hid h0
      have H1 := Lib.hid h1
      have H2 := Lib.hid (h0.put (TV fun _ => 3))
      clear h0 h1 e
      go_wp2_with (first
        | (refine wpList_ldT rfl (.tmp 1) rfl (w.heap.size + 1) rfl (fun _ => 3) (H1.out).bl ?_)
        | (refine wpList_stT rfl (.tmp 0) (.tmp 9) rfl w.heap.size rfl (fun _ => 0) (fun _ => 3) rfl (H0.out).bl ?_))
      exact bodyPost_ret (results_arr rfl _ Try.underlying25 rfl (by rw [TV_size]; exact sizeT) rfl (H2.out).bl) rfl ⟨rfl, (H2.out).bel⟩
def Rg (t : Nat → Int) : Prop := ∀ i, 0 ≤ t i ∧ t i ≤ 3
def fullN (t : Nat → Int) (j : Nat) : Nat → Int := if t j ≤ 0 then fun _ => 3 else t
def pickN (t : Nat → Int) (r : Nat → Bool) : Nat → Int :=
  if bestN t r 18 < 0 then t else updA (fullN t (bestN t r 18).toNat) (bestN t r 18).toNat (fullN t (bestN t r 18).toNat (bestN t r 18).toNat - 1)
theorem fullN_rg {t : Nat → Int} (h : Rg t) (j : Nat) : Rg (fullN t j) := by
  unfold fullN; split
  · intro i; dsimp only; omega
  · exact h
theorem fullN_pos {t : Nat → Int} (j : Nat) : 0 < fullN t j j := by
  unfold fullN; split
  · show (0 : Int) < 3; omega
  · omega
theorem pickN_none {t : Nat → Int} {r : Nat → Bool} (h : bestN t r 18 = -1) : pickN t r = t := by unfold pickN; rw [if_pos (by omega)]
theorem pickN_some {t : Nat → Int} {r : Nat → Bool} {j : Nat} (h : bestN t r 18 = (j : Nat)) : pickN t r = updA (fullN t j) j (fullN t j j - 1) := by
  unfold pickN; rw [h, if_neg (by omega)]; rfl
theorem pickN_rg {t : Nat → Int} (h : Rg t) (r : Nat → Bool) : Rg (pickN t r) := by
  rcases bestN_in t r 18 with hb | ⟨j, hj, hb⟩
  · rw [pickN_none hb]; exact h
  · rw [pickN_some hb]
    have := fullN_rg h j
    have h2 := fullN_pos (t := t) j
    intro i
    unfold updA; split
    · have := this j; omega
    · exact this i
set_option maxHeartbeats 2000000 in
theorem pick_none {t : Nat → Int} {r : Nat → Bool} (hb : bestN t r 18 = -1) (w : World) :
    Calls Try.prog 13 #[.agg (TV t), .agg (RV r)] w fun e w' => e = .returned (.tuple #[.agg (TV t), .int .i64 (-1)]) ∧ Below w.heap.size w w' := by
  have HZ := zeroT_run
  have HF := Lib.hid (fun W => (first_in t r W))
  rw [hb] at HF
  have HU := Lib.hid full_in
  have b1 := below_new w (.cells (TV t) 25)
  have b2 := below_more b1 (.cells (RV r) 27)
  have o1 := (ob_new (Below.refl w.heap.size w) 25 (TV t)).below (below_new _ (.cells (RV r) 27))
  have o2 := ob_new b1 27 (RV r)
  rw [World.size_alloc] at o2
  have O1 := Lib.hid (o1.below (below_new _ (.cells (TV fun _ => 0) 25)))
  have O2 := Lib.hid (o2.below (below_new _ (.cells (TV fun _ => 0) 25)))
  have o3 := ob_new b2 25 (TV fun _ => 0)
  rw [World.size_alloc, World.size_alloc] at o3
  have O3 := Lib.hid o3
  clear b1 b2 o1 o2 o3 hb
  go_enter Try.func13, Try.ntmps13
  go_wp2_with (first
    | (refine wpList_ldT rfl (.tmp 2) rfl w.heap.size rfl t (O1.out).bl ?_)
    | (refine wpList_ldR rfl (.tmp 3) rfl (w.heap.size + 1) rfl r (O2.out).bl ?_))
  refine (HF.out _).mono ?_
  rintro e w1 ⟨rfl, b1⟩
  have P1 := Lib.hid ((O1.out).below b1)
  have P3 := Lib.hid ((O3.out).below b1)
  clear b1 O1 O2 O3 HF
  have P4 := Lib.hid ((P3.out).put (TV t))
  go_wp2_with (first
    | (refine wpList_ldT rfl (.tmp 2) rfl w.heap.size rfl t (P1.out).bl ?_)
    | (refine wpList_stT rfl (.tmp 4) (.tmp 12) rfl (w.heap.size + 1 + 1) rfl (fun _ => 0) t rfl (P3.out).bl ?_))
  exact bodyPost_ret (results_arr2 rfl _ Try.underlying25 rfl (by rw [TV_size]; exact sizeT) rfl (P4.out).bl) rfl ⟨rfl, (P4.out).bel⟩
set_option maxHeartbeats 2000000 in
theorem pick_some {t : Nat → Int} {r : Nat → Bool} (ht : Rg t) {j : Nat} (hj : j < 18) (hb : bestN t r 18 = (j : Nat)) (w : World) :
    Calls Try.prog 13 #[.agg (TV t), .agg (RV r)] w fun e w' => e = .returned (.tuple #[.agg (TV (updA (fullN t j) j (fullN t j j - 1))), .int .i64 (j : Nat)]) ∧ Below w.heap.size w w' := by
  have j0 : ¬ ((j : Int) < 0) := by omega
  have j1 : (j : Int) < 18 := by omega
  by_cases hf : t j ≤ 0
  · have ef : fullN t j = fun _ => 3 := by unfold fullN; rw [if_pos hf]
    rw [ef]
    clear ef
    have HZ := zeroT_run
    have HF := Lib.hid (fun W => (first_in t r W))
    rw [hb] at HF
    have HU := Lib.hid full_in
    have b1 := below_new w (.cells (TV t) 25)
    have b2 := below_more b1 (.cells (RV r) 27)
    have o1 := (ob_new (Below.refl w.heap.size w) 25 (TV t)).below (below_new _ (.cells (RV r) 27))
    have o2 := ob_new b1 27 (RV r)
    rw [World.size_alloc] at o2
    have O1 := Lib.hid (o1.below (below_new _ (.cells (TV fun _ => 0) 25)))
    have O2 := Lib.hid (o2.below (below_new _ (.cells (TV fun _ => 0) 25)))
    have o3 := ob_new b2 25 (TV fun _ => 0)
    rw [World.size_alloc, World.size_alloc] at o3
    have O3 := Lib.hid o3
    clear b1 b2 o1 o2 o3 hb
    go_enter Try.func13, Try.ntmps13
    go_wp2_with (first
      | (refine wpList_ldT rfl (.tmp 2) rfl w.heap.size rfl t (O1.out).bl ?_)
      | (refine wpList_ldR rfl (.tmp 3) rfl (w.heap.size + 1) rfl r (O2.out).bl ?_))
    refine (HF.out _).mono ?_
    rintro e w1 ⟨rfl, b1⟩
    have P1 := Lib.hid ((O1.out).below b1)
    have P3 := Lib.hid ((O3.out).below b1)
    clear b1 O1 O2 O3 HF
    have c1 := (P1.out).bl.at hj
    go_wp2_with fail
    refine (HU.out _).mono ?_
    rintro e w2 ⟨rfl, b2⟩
    have Q1 := Lib.hid ((P1.out).below b2)
    have Q3 := Lib.hid ((P3.out).below b2)
    have Q1' := Lib.hid ((Q1.out).put (TV fun _ => 3))
    have Q3' := Lib.hid ((Q3.out).kept (grown_setRow w2 w.heap.size (TV fun _ => 3)) (by omega) (by omega))
    clear b2 P1 P3 c1 hf
    have c1 := (Q1'.out).bl.at hj
    have f1 := (Q1'.out).bl.fz j
    have R1 := Lib.hid ((Q1'.out).set j (.int .i64 (3 - 1)) (TV_set _ _ _))
    have R3 := Lib.hid ((Q3'.out).kept (grown_setCell (w2.setRow w.heap.size (TV fun _ => 3)) ⟨w.heap.size, j, none⟩ (.int .i64 (3 - 1))) (by dsimp only; omega) (by dsimp only; omega))
    have R4 := Lib.hid ((R3.out).put (TV (updA (fun _ => 3) j (3 - 1))))
    go_wp2_with (first
      | (refine wpList_stT rfl (.tmp 2) (.tmp 18) rfl w.heap.size rfl t (fun _ => 3) rfl (Q1.out).bl ?_)
      | (refine wpList_ldT rfl (.tmp 2) rfl w.heap.size rfl (updA (fun _ => 3) j (3 - 1)) (R1.out).bl ?_)
      | (refine wpList_stT rfl (.tmp 4) (.tmp 24) rfl (w.heap.size + 1 + 1) rfl (fun _ => 0) (updA (fun _ => 3) j (3 - 1)) rfl (R3.out).bl ?_))
    exact bodyPost_ret (results_arr2 rfl _ Try.underlying25 rfl (by rw [TV_size]; exact sizeT) rfl (R4.out).bl) rfl ⟨rfl, (R4.out).bel⟩
  · have ef : fullN t j = t := by unfold fullN; rw [if_neg hf]
    rw [ef]
    clear ef
    obtain ⟨t0, t3⟩ := ht j
    have HZ := zeroT_run
    have HF := Lib.hid (fun W => (first_in t r W))
    rw [hb] at HF
    have HU := Lib.hid full_in
    have b1 := below_new w (.cells (TV t) 25)
    have b2 := below_more b1 (.cells (RV r) 27)
    have o1 := (ob_new (Below.refl w.heap.size w) 25 (TV t)).below (below_new _ (.cells (RV r) 27))
    have o2 := ob_new b1 27 (RV r)
    rw [World.size_alloc] at o2
    have O1 := Lib.hid (o1.below (below_new _ (.cells (TV fun _ => 0) 25)))
    have O2 := Lib.hid (o2.below (below_new _ (.cells (TV fun _ => 0) 25)))
    have o3 := ob_new b2 25 (TV fun _ => 0)
    rw [World.size_alloc, World.size_alloc] at o3
    have O3 := Lib.hid o3
    clear b1 b2 o1 o2 o3 hb
    go_enter Try.func13, Try.ntmps13
    go_wp2_with (first
      | (refine wpList_ldT rfl (.tmp 2) rfl w.heap.size rfl t (O1.out).bl ?_)
      | (refine wpList_ldR rfl (.tmp 3) rfl (w.heap.size + 1) rfl r (O2.out).bl ?_))
    refine (HF.out _).mono ?_
    rintro e w1 ⟨rfl, b1⟩
    have P1 := Lib.hid ((O1.out).below b1)
    have P3 := Lib.hid ((O3.out).below b1)
    clear b1 O1 O2 O3 HF
    have c1 := (P1.out).bl.at hj
    have f1 := (P1.out).bl.fz j
    have R1 := Lib.hid ((P1.out).set j (.int .i64 (t j - 1)) (TV_set _ _ _))
    have R3 := Lib.hid ((P3.out).kept (grown_setCell w1 ⟨w.heap.size, j, none⟩ (.int .i64 (t j - 1))) (by dsimp only; omega) (by dsimp only; omega))
    have R4 := Lib.hid ((R3.out).put (TV (updA t j (t j - 1))))
    go_wp2_with (first
      | (refine wpList_ldT rfl (.tmp 2) rfl w.heap.size rfl (updA t j (t j - 1)) (R1.out).bl ?_)
      | (refine wpList_stT rfl (.tmp 4) (.tmp 24) rfl (w.heap.size + 1 + 1) rfl (fun _ => 0) (updA t j (t j - 1)) rfl (R3.out).bl ?_))
    exact bodyPost_ret (results_arr2 rfl _ Try.underlying25 rfl (by rw [TV_size]; exact sizeT) rfl (R4.out).bl) rfl ⟨rfl, (R4.out).bel⟩
theorem pick_in (t : Nat → Int) (r : Nat → Bool) (ht : Rg t) (w : World) :
    Calls Try.prog 13 #[.agg (TV t), .agg (RV r)] w fun e w' => e = .returned (.tuple #[.agg (TV (pickN t r)), .int .i64 (bestN t r 18)]) ∧ Below w.heap.size w w' := by
  rcases bestN_in t r 18 with hb | ⟨j, hj, hb⟩
  · rw [pickN_none hb, hb]; exact pick_none hb w
  · rw [pickN_some hb, hb]; exact pick_some ht hj hb w
end Go.Proofs.Ythafcgppopfdkaa
