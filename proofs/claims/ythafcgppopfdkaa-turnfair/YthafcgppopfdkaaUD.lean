/-
  The walk of TurnPicks.
-/
import Derived.Test.YthafcgppopfdkaaUC
import Derived.Deep.CutBlock
namespace Go.Proofs.Ythafcgppopfdkaa
open Go.ChangeShapes Go.WideShapes Go.ChangeAt Go.RowKit
set_option maxRecDepth 100000
set_option linter.unusedVariables false

/-! ### what is picked, plain -/
theorem bestN_spec (t : Nat → Int) (r : Nat → Bool) (k : Nat) : (bestN t r k = -1 ∧ ∀ i, i < k → r i = false) ∨
    ∃ j : Nat, j < k ∧ bestN t r k = (j : Nat) ∧ r j = true ∧ (∀ i, i < k → r i = true → t i ≤ t j) ∧ ∀ i, i < j → r i = true → t i < t j := by
  induction k with
  | zero => exact .inl ⟨rfl, fun i hi => by omega⟩
  | succ k ih =>
    cases hr : r k
    · rw [bestN_skip hr]
      rcases ih with ⟨h1, h2⟩ | ⟨j, hj, h1, h2, h3, h4⟩
      · refine .inl ⟨h1, fun i hi => ?_⟩
        by_cases e : i = k
        · rw [e]; exact hr
        · exact h2 i (by omega)
      · refine .inr ⟨j, by omega, h1, h2, fun i hi hri => ?_, h4⟩
        by_cases e : i = k
        · rw [e, hr] at hri; cases hri
        · exact h3 i (by omega) hri
    · rcases ih with ⟨h1, h2⟩ | ⟨j, hj, h1, h2, h3, h4⟩
      · rw [bestN_one hr h1]
        refine .inr ⟨k, by omega, rfl, hr, fun i hi hri => ?_, fun i hi hri => ?_⟩
        · by_cases e : i = k
          · rw [e]; omega
          · rw [h2 i (by omega)] at hri; cases hri
        · rw [h2 i hi] at hri; cases hri
      · by_cases hl : t j < t k
        · rw [bestN_new hr h1 hl]
          refine .inr ⟨k, by omega, rfl, hr, fun i hi hri => ?_, fun i hi hri => ?_⟩
          · by_cases e : i = k
            · rw [e]; omega
            · have := h3 i (by omega) hri; omega
          · have := h3 i hi hri; omega
        · rw [bestN_old h1 hl]
          refine .inr ⟨j, by omega, h1, h2, fun i hi hri => ?_, h4⟩
          by_cases e : i = k
          · rw [e]; omega
          · exact h3 i (by omega) hri
/-- The law's own greatest. -/
def mostN (t : Nat → Int) (r : Nat → Bool) : Nat → Int
  | 0 => -1
  | k + 1 => if r k = true ∧ mostN t r k < t k then t k else mostN t r k
theorem mostN_succ (t : Nat → Int) (r : Nat → Bool) (k : Nat) : mostN t r (k + 1) = if r k = true ∧ mostN t r k < t k then t k else mostN t r k := rfl
theorem mostN_is {t : Nat → Int} (ht : Rg t) (r : Nat → Bool) (k : Nat) : (bestN t r k = -1 ∧ mostN t r k = -1) ∨ ∃ j : Nat, j < k ∧ bestN t r k = (j : Nat) ∧ mostN t r k = t j := by
  induction k with
  | zero => exact .inl ⟨rfl, rfl⟩
  | succ k ih =>
    have hk := (ht k).1
    cases hr : r k
    · rw [bestN_skip hr, mostN_succ, if_neg (by simp [hr])]
      rcases ih with h | ⟨j, hj, h1, h2⟩
      · exact .inl h
      · exact .inr ⟨j, by omega, h1, h2⟩
    · rcases ih with ⟨h1, h2⟩ | ⟨j, hj, h1, h2⟩
      · rw [bestN_one hr h1, mostN_succ, if_pos ⟨hr, by omega⟩]
        exact .inr ⟨k, by omega, rfl, rfl⟩
      · by_cases hl : t j < t k
        · rw [bestN_new hr h1 hl, mostN_succ, if_pos ⟨hr, by omega⟩]
          exact .inr ⟨k, by omega, rfl, rfl⟩
        · rw [bestN_old h1 hl, mostN_succ, if_neg (by omega)]
          exact .inr ⟨j, by omega, h1, h2⟩
/-- The law's own least. -/
def lstN (r : Nat → Bool) (v : Nat → Int) (m : Int) : Nat → Int
  | 0 => -1
  | k + 1 => if r (17 - k) = true ∧ v (17 - k) = m then ((17 - k : Nat) : Int) else lstN r v m k
theorem lstN_succ (r : Nat → Bool) (v : Nat → Int) (m : Int) (k : Nat) : lstN r v m (k + 1) = if r (17 - k) = true ∧ v (17 - k) = m then ((17 - k : Nat) : Int) else lstN r v m k := rfl
theorem lstN_is {r : Nat → Bool} {v : Nat → Int} {m : Int} {j : Nat} (hj : j < 18) (h1 : r j = true) (h2 : v j = m) (h3 : ∀ i, i < j → r i = true → v i ≠ m) : lstN r v m 18 = (j : Nat) := by
  have key : ∀ k, 18 - j ≤ k → k ≤ 18 → lstN r v m k = (j : Nat) := by
    intro k
    induction k with
    | zero => intro h _; omega
    | succ k ih =>
      intro h hk
      by_cases e : 17 - k = j
      · rw [lstN_succ, if_pos (by rw [e]; exact ⟨h1, h2⟩), e]
      · rw [lstN_succ, if_neg, ih (by omega) (by omega)]
        rintro ⟨g1, g2⟩
        exact h3 (17 - k) (by omega) g1 g2
  exact key 18 (by omega) (by omega)

theorem eqT (t : Nat → Int) (w : World) : (Op.equalIn 10000 25 (.agg (TV t)) (.agg (TV t))).run Try.prog w = .ok true w := by
  refine eq_arr_self 9999 _ _ 18 1 Try.underlying25 (by kernel_rfl) _ (fun i hi => ⟨.int .i64 (t i), fun w => ⟨?_, ?_⟩⟩) w
  · exact part_oneA _ _ _ _ (by rw [Nat.mul_one]; exact arrA_at _ hi) (by rw [Try.underlying3]) w
  · rw [run_equalIn_int w _ _ _ _ _ _ Try.underlying3]; simp
theorem wpList_eqT {ops : Array Oper} {rest : List Oper} {o : Oper} {a : Act} {w : World} {Q : Exit → Act → World → Prop} (hw : Region.wanted o (yielded ops a.tmps) = true) (x y : Operand) (ho : o.op = .binOp .eql 25 x y 25)
    (t : Nat → Int) (hx : a.eval x = .agg (TV t)) (hy : a.eval y = .agg (TV t)) (h : wpList Try.prog ops Q rest (a.put o.dst (.bool true)) w) : wpList Try.prog ops Q (o :: rest) a w :=
  wpList_eqA hw _ x y ho _ hx hy (by kernel_rfl) (eqT t) h
theorem wpList_ldI {ops : Array Oper} {rest : List Oper} {o : Oper} {a : Act} {w : World} {Q : Exit → Act → World → Prop} (hw : Region.wanted o (yielded ops a.tmps) = true) (x : Operand) (ho : o.op = .load 22 x) (B : Nat) (hx : a.eval x = .pointer (some ⟨B, 0, none⟩)) (l : Nat → Nat) (hL : BL w B 22 (IV l))
    (h : wpList Try.prog ops Q rest (a.put o.dst (.agg (IV l))) w) : wpList Try.prog ops Q (o :: rest) a w :=
  wpList_ldA hw _ x ho B hx _ _ _ Try.underlying22 rfl (by rw [IV_size]; exact sizeI) hL h
/-- What stands in the law's first loop. -/
structure PkI (w wr : World) (T R U : Nat) (t : Nat → Int) (r : Nat → Bool) (u : Nat → Int) : Prop where
  t : OB w wr T 25 (TV t)
  r : OB w wr R 27 (RV r)
  u : OB w wr U 25 (TV u)
theorem PkI.below {w wr w' : World} {T R U : Nat} {t : Nat → Int} {r : Nat → Bool} {u : Nat → Int} (h : PkI w wr T R U t r u) (hb : Below wr.heap.size wr w') : PkI w w' T R U t r u := ⟨h.t.below hb, h.r.below hb, h.u.below hb⟩
theorem PkI.drawn {w wr : World} {T R U : Nat} {t : Nat → Int} {r : Nat → Bool} {u : Nat → Int} (h : PkI w wr T R U t r u) (n : Nat) : PkI w (wr.drewN n) T R U t r u := h.below (below_draws (Below.refl _ _) n)
/-- And behind 'v := t'. -/
structure VkI (w wr : World) (T R U X : Nat) (t : Nat → Int) (r : Nat → Bool) (u v : Nat → Int) : Prop where
  p : PkI w wr T R U t r u
  v : OB w wr X 25 (TV v)
  lt : T < X ∧ R < X ∧ U < X
theorem VkI.put {w wr : World} {T R U X : Nat} {t : Nat → Int} {r : Nat → Bool} {u v : Nat → Int} (h : VkI w wr T R U X t r u v) (i : Nat) (z : Int) : VkI w (wr.setCell ⟨X, i, none⟩ (.int .i64 z)) T R U X t r u (updA v i z) :=
  ⟨⟨h.p.t.kept (grown_setCell _ _ _) (by have := h.lt; dsimp only; omega) h.v.lb, h.p.r.kept (grown_setCell _ _ _) (by have := h.lt; dsimp only; omega) h.v.lb, h.p.u.kept (grown_setCell _ _ _) (by have := h.lt; dsimp only; omega) h.v.lb⟩,
    h.v.set i _ (TV_set v i z), h.lt⟩
theorem VkI.below {w wr w' : World} {T R U X : Nat} {t : Nat → Int} {r : Nat → Bool} {u v : Nat → Int} (h : VkI w wr T R U X t r u v) (hb : Below wr.heap.size wr w') : VkI w w' T R U X t r u v := ⟨h.p.below hb, h.v.below hb, h.lt⟩
theorem VkI.drawn {w wr : World} {T R U X : Nat} {t : Nat → Int} {r : Nat → Bool} {u v : Nat → Int} (h : VkI w wr T R U X t r u v) (n : Nat) : VkI w (wr.drewN n) T R U X t r u v := h.below (below_draws (Below.refl _ _) n)
theorem VkI.congr {w wr : World} {T R U X : Nat} {t : Nat → Int} {r : Nat → Bool} {u v v' : Nat → Int} (h : VkI w wr T R U X t r u v) (e : ∀ i, i < 18 → v i = v' i) : VkI w wr T R U X t r u v' := ⟨h.p, by rw [← TV_congr e]; exact h.v, h.lt⟩
def fillA (t : Nat → Int) (k i : Nat) : Int := if i < k then 3 else t i
theorem fillA_step (t : Nat → Int) (k : Nat) : ∀ i, updA (fillA t k) k 3 i = fillA t (k + 1) i := fun i => by
  unfold updA fillA
  by_cases h : i = k
  · subst h; simp
  · rw [if_neg h]
    by_cases h2 : i < k
    · rw [if_pos h2, if_pos (by omega)]
    · rw [if_neg h2, if_neg (by omega)]
set_option maxHeartbeats 4000000 in
theorem turnPicks_core (l : Nat → Nat) (hl : ∀ i, l i < 256) (x : Nat) (hx : x < 4294967296) (w : World) :
    Calls Try.prog 3 #[.agg (IV l), .int .u32 x] w fun e w' => e = .returned (.bool true) ∧ Below w.heap.size w w' := by
  have HZ := zeroT_run
  have HY := zeroR_run
  have HN := Lib.hid (near13_in l hl)
  have HR := Lib.hid (ready_in x hx)
  have HP := Lib.hid (pick_in (nearT l) (readyN x) (nearT_rg l))
  have HA := Lib.hid awake13_in
  have HM := Lib.hid (mostN_is (nearT_rg l) (readyN x))
  have HS := Lib.hid (bestN_spec (nearT l) (readyN x) 18)
  have HG := Lib.hid (nearT_rg l)
  have HL := Lib.hid (bl_new w 22 (IV l))
  have HB := Lib.hid (below_new w (.cells (IV l) 22))
  generalize nearT l = t at *
  generalize readyN x = r at *
  obtain ⟨b, hb⟩ : ∃ b, bestN t r 18 = b := ⟨_, rfl⟩
  obtain ⟨p, hp⟩ : ∃ p, pickN t r = p := ⟨_, rfl⟩
  rw [hb, hp] at HP
  have HBQ := Lib.hid hb
  have HPQ := Lib.hid hp
  clear hl hx hb hp
  go_enter Try.func3, Try.ntmps3
  go_wp2_with (refine wpList_ldI rfl (.tmp 2) rfl w.heap.size rfl l HL.out ?_)
  refine (HN.out _).mono ?_
  rintro e w1 ⟨rfl, b1⟩
  have T1 := Lib.hid (ob_lay (below_up HB.out b1) 25 (TV fun _ => 0) (TV t))
  have Z1 := Lib.hid (bl_new w1 25 (TV fun _ => 0))
  clear HL HN HB b1
  go_wp2_with (refine wpList_stT rfl (.tmp 5) (.tmp 16) rfl w1.heap.size rfl (fun _ => 0) t rfl Z1.out ?_)
  refine (HR.out _).mono ?_
  rintro e w2 ⟨rfl, b2⟩
  have T2 := Lib.hid ((T1.out).below b2)
  have R2 := Lib.hid (ob_lay (T2.out).bel 27 (RV fun _ => false) (RV r))
  have T3 := Lib.hid ((T2.out).below (lay_below w2 27 (RV fun _ => false) (RV r)))
  have Z2 := Lib.hid (bl_new w2 27 (RV fun _ => false))
  generalize w1.heap.size = T at *
  clear T1 T2 Z1 b2 HR
  go_wp2_with (first
    | (refine wpList_stR rfl (.tmp 6) (.tmp 18) rfl w2.heap.size rfl (fun _ => false) r rfl Z2.out ?_)
    | (refine wpList_ldT rfl (.tmp 5) rfl T rfl t (T3.out).bl ?_)
    | (refine wpList_ldR rfl (.tmp 6) rfl w2.heap.size rfl r (R2.out).bl ?_))
  refine (HP.out _).mono ?_
  rintro e w3 ⟨rfl, b3⟩
  have T4 := Lib.hid ((T3.out).below b3)
  have R4 := Lib.hid ((R2.out).below b3)
  generalize w2.heap.size = R at *
  clear T3 R2 Z2 b3 HP
  have HPK : Hid (PkI w ((w3.alloc (.cells (TV fun _ => 0) 25)).setRow w3.heap.size (TV (p))) T R w3.heap.size t r (p)) :=
    Lib.hid ⟨(T4.out).below (lay_below _ _ _ _), (R4.out).below (lay_below _ _ _ _), ob_lay (T4.out).bel _ _ _⟩
  have Z3 := Lib.hid (bl_new w3 25 (TV fun _ => 0))
  clear T4 R4
  go_upto_region 5 with (refine wpList_stT rfl (.tmp 7) (.tmp 23) rfl w3.heap.size rfl (fun _ => 0) (p) rfl Z3.out ?_)
  generalize (w3.alloc (.cells (TV fun _ => 0) 25)).setRow w3.heap.size (TV (p)) = V at *
  generalize w3.heap.size = U at *
  clear Z3
  go_wp2_with fail
  go_loopw [9, 10] (fun m i wr => ∃ k n : Nat, k ≤ 18 ∧ i = .int .i64 k ∧ m = .int .i64 (mostN t r k) ∧ wr = V.drewN n) (fun _ i _ => 18 - (intOf i).toNat)
  case atStart => exact ⟨0, 0, by omega, rfl, rfl, rfl⟩
  case round =>
    obtain ⟨k, n, hk, rfl, rfl, rfl⟩ := hrel
    by_cases hlt : k < 18
    · have k1 : (k : Int) < 18 := by omega
      have c1 := (HPK.out).t.bl.at hlt
      have c2 := (HPK.out).r.bl.at hlt
      have e := Lib.hid (mostN_succ t r k)
      cases hr : r k
      · rw [hr] at c2 e
        rw [if_neg (by simp)] at e
        clear c1
        generalize mostN t r k = m at *
        go_wp2
        go_roundw
        case rel => exact ⟨k + 1, _, by omega, by go_num, by rw [e.out], rfl⟩
        case measure => simp [intOf]; omega
      · rw [hr] at c2 e
        by_cases hl : mostN t r k < t k
        · rw [if_pos ⟨rfl, hl⟩] at e
          generalize mostN t r k = m at *
          go_wp2
          go_roundw
          case rel => exact ⟨k + 1, _, by omega, by go_num, by rw [e.out], rfl⟩
          case measure => simp [intOf]; omega
        · rw [if_neg (fun h => hl h.2)] at e
          generalize mostN t r k = m at *
          go_wp2
          go_roundw
          case rel => exact ⟨k + 1, _, by omega, by go_num, by rw [e.out], rfl⟩
          case measure => simp [intOf]; omega
    · obtain rfl : k = 18 := by omega
      have HP := Lib.hid ((HPK.out).drawn n)
      clear HPK
      generalize V.drewN n = W at *
      rcases (HM.out) 18 with ⟨hb, hm⟩ | ⟨j, hj, hb, hm⟩
      · obtain rfl : b = -1 := (HBQ.out).symm.trans hb
        obtain rfl : t = p := (pickN_none hb).symm.trans HPQ.out
        rw [hm]
        have n0 : ((-1 : Int) == -1) = true := rfl
        clear hb hm HBQ HPQ HM HS HG
        go_wp2_with fail
        refine (HA.out _).mono ?_
        rintro e w5 ⟨rfl, b5⟩
        have HP5 := Lib.hid ((HP.out).below b5)
        clear HP b5
        go_wp2_with (first
          | (refine wpList_ldT rfl (.tmp 7) rfl U rfl t (HP5.out).u.bl ?_)
          | (refine wpList_ldT rfl (.tmp 5) rfl T rfl t (HP5.out).t.bl ?_)
          | (refine wpList_eqT rfl (.tmp 50) (.tmp 51) rfl t rfl rfl ?_))
        go_ret
        exact ⟨rfl, (HP5.out).t.bel⟩
      · rcases HS.out with ⟨hb', _⟩ | ⟨j', hj', hb', hrj, hmx, hlt'⟩
        · rw [hb'] at hb; omega
        obtain rfl : j' = j := by rw [hb'] at hb; omega
        obtain rfl : b = (j' : Nat) := (HBQ.out).symm.trans hb
        obtain rfl : updA (fullN t j') j' (fullN t j' j' - 1) = p := (pickN_some hb).symm.trans HPQ.out
        have hg := (HG.out) j'
        have HV : Hid (VkI w ((W.alloc (.cells (TV fun _ => 0) 25)).setRow W.heap.size (TV t)) T R U W.heap.size t r (updA (fullN t j') j' (fullN t j' j' - 1)) t) :=
          Lib.hid ⟨(HP.out).below (lay_below _ _ _ _), ob_lay (HP.out).t.bel _ _ _, (HP.out).t.bl.lt, (HP.out).r.bl.lt, (HP.out).u.bl.lt⟩
        have Z5 := Lib.hid (bl_new W 25 (TV fun _ => 0))
        have hfj : ∀ i, i < j' → r i = true → fullN t j' i ≠ fullN t j' j' → True := fun _ _ _ _ => trivial
        have hvm : (t j' = 0 ∧ fullN t j' = fun _ => 3) ∨ (0 < t j' ∧ fullN t j' = t) := by
          by_cases h0 : t j' ≤ 0
          · exact .inl ⟨by omega, by unfold fullN; rw [if_pos h0]⟩
          · exact .inr ⟨by omega, by unfold fullN; rw [if_neg h0]⟩
        have hlst : lstN r (fullN t j') (fullN t j' j') 18 = (j' : Nat) := by
          refine lstN_is hj' hrj rfl fun i hi hri => ?_
          have g := hlt' i hi hri
          rcases hvm with ⟨h0, h1⟩ | ⟨h0, h1⟩
          · have := (HG.out) i; omega
          · rw [h1]; omega
        have HLS := Lib.hid hlst
        have hrg := fullN_rg (HG.out) j' j'
        have HFP := Lib.hid (fullN_pos (t := t) j')
        rw [hm]
        clear hfj hlst hb hb' hm hmx hlt' HBQ HPQ HM HS
        obtain ⟨u, hu⟩ : ∃ u, updA (fullN t j') j' (fullN t j' j' - 1) = u := ⟨_, rfl⟩
        obtain ⟨m0, hm0⟩ : ∃ m, t j' = m := ⟨_, rfl⟩
        obtain ⟨cz, hcz⟩ : ∃ c, (m0 == 0) = c := ⟨_, rfl⟩
        have HVM : Hid ((cz = true → fullN t j' = fun _ => 3) ∧ (cz = false → fullN t j' = t ∧ t j' = m0)) := Lib.hid (by
          rw [← hcz]
          rcases hvm with ⟨h0, h1⟩ | ⟨h0, h1⟩
          · exact ⟨fun _ => h1, fun h => by simp at h; omega⟩
          · exact ⟨fun h => by simp at h; omega, fun _ => ⟨h1, hm0⟩⟩)
        have HU := Lib.hid hu
        have HG2 := Lib.hid hg
        have HRG := Lib.hid hrg
        rw [hu] at HV
        rw [hu, hm0]
        have n0 : ¬ (m0 < 0) := by omega
        clear hu hm0 hvm hg hrg
        go_upto_if 56 with (first
          | (refine wpList_ldT rfl (.tmp 5) rfl T rfl t (HP.out).t.bl ?_)
          | (refine wpList_stT rfl (.tmp 11) (.tmp 54) rfl W.heap.size rfl (fun _ => 0) t rfl Z5.out ?_))
        generalize (W.alloc (.cells (TV fun _ => 0) 25)).setRow W.heap.size (TV t) = V1 at *
        generalize W.heap.size = X at *
        clear Z5
        clear hcz
        go_cut [9, 12] from 57 to 62 (fun m _ wx => m = .int .i64 (fullN t j' j') ∧ VkI w wx T R U X t r u (fullN t j'))
        case first =>
          cases cz
          · have h1 := (HVM.out).2 rfl
            have H1 := Lib.hid h1
            clear h1
            go_wp2
            go_meet
            exact ⟨by rw [(H1.out).1, (H1.out).2], by rw [(H1.out).1]; exact HV.out⟩
          · have H1 := Lib.hid ((HVM.out).1 rfl)
            have H0 : Hid (VkI w V1 T R U X t r u (fillA t 0)) := Lib.hid ((HV.out).congr fun i _ => by unfold fillA; rw [if_neg (by omega)])
            clear HV
            go_wp2_with fail
            go_loopw [12] (fun i wr => ∃ k : Nat, k ≤ 18 ∧ i = .int .i64 k ∧ VkI w wr T R U X t r u (fillA t k)) (fun i _ => 18 - (intOf i).toNat)
            case atStart => exact ⟨0, by omega, rfl, H0.out⟩
            case round =>
              clear H0
              obtain ⟨k, hk, rfl, h0⟩ := hrel
              by_cases hlt : k < 18
              · have k1 : (k : Int) < 18 := by omega
                have c1 := h0.v.bl.at hlt
                have f1 := h0.v.bl.fz k
                have H := Lib.hid ((h0.put k 3).congr fun i _ => fillA_step t k i)
                clear h0
                go_wp2
                go_roundw
                case rel => exact ⟨k + 1, by omega, by go_num, H.out⟩
                case measure => simp [intOf]; omega
              · obtain rfl : k = 18 := by omega
                have H : Hid (VkI w wr T R U X t r u (fun _ => 3)) := Lib.hid (h0.congr fun i hi => if_pos hi)
                clear h0
                go_wp2
                go_meet
                exact ⟨by rw [H1.out], by rw [H1.out]; exact H.out⟩
        case rest =>
          obtain ⟨rfl, hv⟩ := hcut
          have HV2 := Lib.hid hv
          clear hv HV
          generalize fullN t j' = v at *
          obtain ⟨vr0, vr1⟩ := HRG.out
          clear HG HG2 HVM n0 HFP
          go_wp2_with fail
          go_loopw [13, 14] (fun m i wr => ∃ k n : Nat, k ≤ 18 ∧ i = .int .i64 (17 - (k : Int)) ∧ m = .int .i64 (lstN r v (v j') k) ∧ wr = wc.drewN n) (fun _ i _ => (intOf i + 1).toNat)
          case atStart => exact ⟨0, 0, by omega, rfl, rfl, rfl⟩
          case round =>
            obtain ⟨k, n, hk, rfl, rfl, rfl⟩ := hrel
            by_cases hlt : k < 18
            · obtain ⟨q, hq⟩ : ∃ q : Nat, 17 - k = q := ⟨_, rfl⟩
              have q1 : (17 : Int) - (k : Int) = (q : Nat) := by omega
              have q2 : q < 18 := by omega
              have q3 : (0 : Int) ≤ (q : Int) := by omega
              have q4 : (q : Int) < 18 := by omega
              have c1 := (HV2.out).v.bl.at q2
              have c2 := (HV2.out).p.r.bl.at q2
              have e := Lib.hid (lstN_succ r v (v j') k)
              rw [hq] at e
              rw [q1]
              have Q1 := Lib.hid q1
              clear q1
              obtain ⟨vq, hvq⟩ : ∃ x, v q = x := ⟨_, rfl⟩
              rw [hvq] at c1 e
              clear hvq
              cases hr : r q
              · rw [hr] at c2 e
                rw [if_neg (by simp)] at e
                clear c1 hr
                generalize lstN r v (v j') k = m at *
                go_wp2
                go_roundw
                case rel => exact ⟨k + 1, _, by omega, by go_num, by rw [e.out], rfl⟩
                case measure => simp [intOf]
              · rw [hr] at c2 e
                by_cases hl : vq = v j'
                · rw [if_pos ⟨rfl, hl⟩] at e
                  have z1 : (vq == v j') = true := by simp [hl]
                  clear hl hr
                  generalize lstN r v (v j') k = m at *
                  go_wp2
                  go_roundw
                  case rel => exact ⟨k + 1, _, by omega, by go_num, by rw [e.out], rfl⟩
                  case measure => simp [intOf]
                · rw [if_neg (fun h => hl h.2)] at e
                  have z1 : (vq == v j') = false := by simp [hl]
                  clear hl hr
                  generalize lstN r v (v j') k = m at *
                  go_wp2
                  go_roundw
                  case rel => exact ⟨k + 1, _, by omega, by go_num, by rw [e.out], rfl⟩
                  case measure => simp [intOf]
            · obtain rfl : k = 18 := by omega
              rw [HLS.out]
              have H3 := Lib.hid ((HV2.out).drawn n)
              clear HV2 HLS
              generalize wc.drewN n = W3 at *
              have c1 := (H3.out).v.bl.at hj'
              have f1 := (H3.out).v.bl.fz j'
              have H4 := Lib.hid ((H3.out).put j' (v j' - 1))
              have j0 : ¬ ((j' : Int) < 0) := by omega
              have z1 : ((j' : Int) == (j' : Int)) = true := by simp
              clear H3
              go_wp2_with fail
              refine (HA.out _).mono ?_
              rintro e w5 ⟨rfl, b5⟩
              have HP5 := Lib.hid ((H4.out).below b5)
              clear H4 b5 c1 f1
              rw [HU.out] at HP5
              go_wp2_with (first
                | (refine wpList_ldT rfl (.tmp 7) rfl U rfl u (HP5.out).p.u.bl ?_)
                | (refine wpList_ldT rfl (.tmp 11) rfl X rfl u (HP5.out).v.bl ?_)
                | (refine wpList_eqT rfl (.tmp 90) (.tmp 91) rfl u rfl rfl ?_))
              go_ret
              exact ⟨rfl, (HP5.out).v.bel⟩
end Go.Proofs.Ythafcgppopfdkaa
