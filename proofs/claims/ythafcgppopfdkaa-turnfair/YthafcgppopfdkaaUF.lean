/-
  The walk of TurnFair.
-/
import Derived.Test.YthafcgppopfdkaaUE
namespace Go.Proofs.Ythafcgppopfdkaa
open Go.ChangeShapes Go.WideShapes Go.ChangeAt Go.RowKit
set_option maxRecDepth 100000
set_option linter.unusedVariables false

/-! ### sums -/
def sumI (f : Nat → Int) : Nat → Int
  | 0 => 0
  | k + 1 => sumI f k + f k
theorem sumI_succ (f : Nat → Int) (k : Nat) : sumI f (k + 1) = sumI f k + f k := rfl
theorem sumI_le {f g : Nat → Int} {k : Nat} (h : ∀ i, i < k → f i ≤ g i) : sumI f k ≤ sumI g k := by
  induction k with
  | zero => exact Int.le_refl _
  | succ k ih =>
    rw [sumI_succ, sumI_succ]
    have := ih (fun i hi => h i (by omega))
    have := h k (by omega)
    omega
theorem sumI_lt {f g : Nat → Int} {k j : Nat} (hj : j < k) (h : ∀ i, i < k → f i ≤ g i) (h1 : f j + 1 ≤ g j) : sumI f k + 1 ≤ sumI g k := by
  induction k with
  | zero => omega
  | succ k ih =>
    rw [sumI_succ, sumI_succ]
    by_cases e : j = k
    · subst e
      have := sumI_le (k := j) (fun i hi => h i (by omega))
      omega
    · have := ih (by omega) (fun i hi => h i (by omega))
      have := h k (by omega)
      omega
theorem sumI_mul (f : Nat → Int) (k : Nat) : sumI (fun i => 4 * f i) k = 4 * sumI f k := by
  induction k with
  | zero => rfl
  | succ k ih => rw [sumI_succ, sumI_succ, ih]; omega
def oneI (b : Bool) : Int := if b then 1 else 0
def cntE (ev : Nat → Bool) (k : Nat) : Int := sumI (fun i => oneI (ev i)) k
theorem cntE_succ (ev : Nat → Bool) (k : Nat) : cntE ev (k + 1) = cntE ev k + oneI (ev k) := rfl
theorem cntE_in (ev : Nat → Bool) (k : Nat) : 0 ≤ cntE ev k ∧ cntE ev k ≤ k := by
  induction k with
  | zero => exact ⟨Int.le_refl _, Int.le_refl _⟩
  | succ k ih =>
    rw [cntE_succ]
    unfold oneI
    split <;> omega
/-- What a seat gives to the bound. -/
def giv (t : Nat → Int) (k : Nat) (ev : Nat → Bool) (i : Nat) : Int := if ev i = true then 4 - (if i = k then 0 else max 0 (t i - t k + 1)) else 0
theorem giv_in {t : Nat → Int} (ht : Rg t) (k : Nat) (ev : Nat → Bool) (i : Nat) : 0 ≤ giv t k ev i ∧ giv t k ev i ≤ 4 * oneI (ev i) := by
  have h1 := ht i
  have h2 := ht k
  unfold giv oneI
  split
  · split <;> omega
  · omega
structure FrN (k : Nat) (t : Nat → Int) (ev : Nat → Bool) (wt : Int) : Prop where
  rg : Rg t
  me : ev k = true
  w : 0 ≤ wt ∧ wt ≤ sumI (giv t k ev) 18
theorem FrN.more {k : Nat} {t : Nat → Int} {ev : Nat → Bool} {wt : Int} (h : FrN k t ev wt) (r : Nat → Bool) : FrN k t (fun i => ev i || r i) wt := by
  refine ⟨h.rg, by simp [h.me], h.w.1, Int.le_trans h.w.2 (sumI_le fun i _ => ?_)⟩
  have g := giv_in h.rg k (fun i => ev i || r i) i
  by_cases e : ev i = true
  · have e2 : (ev i || r i) = true := by rw [e]; rfl
    refine Int.le_of_eq ?_
    unfold giv
    rw [if_pos e]
    exact (if_pos e2).symm
  · have e0 : giv t k ev i = 0 := if_neg e
    rw [e0]; exact g.1
theorem FrN.step {k : Nat} {t : Nat → Int} {ev r : Nat → Bool} {wt : Int} (h : FrN k t ev wt) (hk : k < 18) (hr : r k = true) (he : ∀ i, r i = true → ev i = true) {j : Nat} (hj : j < 18) (hb : bestN t r 18 = (j : Nat)) :
    FrN k (pickN t r) ev (if j = k then 0 else wt + 1) ∧ r j = true := by
  rcases bestN_spec t r 18 with ⟨hb', _⟩ | ⟨j', hj', hb', hrj, hmx, hlt⟩
  · rw [hb'] at hb; omega
  obtain rfl : j' = j := by rw [hb'] at hb; omega
  have hrg := pickN_rg h.rg r
  refine ⟨⟨hrg, h.me, ?_, ?_⟩, hrj⟩
  · have := h.w.1
    split <;> omega
  · by_cases e : j' = k
    · rw [if_pos e]
      have : sumI (fun _ => 0) 18 ≤ sumI (giv (pickN t r) k ev) 18 := sumI_le fun i _ => (giv_in hrg k ev i).1
      have e0 : sumI (fun _ => 0) 18 = 0 := rfl
      omega
    · rw [if_neg e]
      have hw := h.w.2
      have key : sumI (giv t k ev) 18 + 1 ≤ sumI (giv (pickN t r) k ev) 18 := by
        have hkk := hmx k hk hr
        have hev := he j' hrj
        rw [pickN_some hb']
        unfold fullN
        by_cases h0 : t j' ≤ 0
        · rw [if_pos h0]
          have e1 : ∀ i, updA (fun _ => (3 : Int)) j' ((fun _ => (3 : Int)) j' - 1) i = if i = j' then 2 else 3 := fun i => by unfold updA; split <;> rfl
          have ek : updA (fun _ => (3 : Int)) j' ((fun _ => (3 : Int)) j' - 1) k = 3 := by rw [e1, if_neg (fun h => e h.symm)]
          refine sumI_lt hj' (fun i hi => ?_) ?_
          · have hi1 := h.rg i
            have hk1 := h.rg k
            unfold giv
            rw [ek, e1]
            by_cases g1 : ev i = true
            · rw [if_pos g1, if_pos g1]
              by_cases g2 : i = k
              · rw [if_pos g2, if_pos g2]; omega
              · rw [if_neg g2, if_neg g2]
                split <;> omega
            · rw [if_neg g1, if_neg g1]; omega
          · have hi1 := h.rg j'
            have hk1 := h.rg k
            unfold giv
            rw [ek, e1, if_pos hev, if_pos hev, if_neg e, if_neg e, if_pos rfl]
            omega
        · rw [if_neg h0]
          have ek : updA t j' (t j' - 1) k = t k := updA_other _ _ _ _ (fun h => e h.symm)
          refine sumI_lt hj' (fun i hi => ?_) ?_
          · unfold giv
            rw [ek]
            by_cases g1 : ev i = true
            · rw [if_pos g1, if_pos g1]
              by_cases g2 : i = k
              · rw [if_pos g2, if_pos g2]; omega
              · rw [if_neg g2, if_neg g2]
                unfold updA
                split
                · next g3 => subst g3; omega
                · omega
            · rw [if_neg g1, if_neg g1]; omega
          · unfold giv
            rw [ek, updA_same, if_pos hev, if_pos hev, if_neg e, if_neg e]
            omega
      omega
theorem FrN.bound {k : Nat} {t : Nat → Int} {ev : Nat → Bool} {wt : Int} (h : FrN k t ev wt) : wt ≤ 4 * cntE ev 18 := by
  refine Int.le_trans h.w.2 ?_
  unfold cntE
  rw [← sumI_mul]
  exact sumI_le fun i _ => (giv_in h.rg k ev i).2
theorem frN_start {t : Nat → Int} (ht : Rg t) (k : Nat) : FrN k t (updA (fun _ => false) k true) 0 := by
  refine ⟨ht, updA_same _ _ _, Int.le_refl _, ?_⟩
  have : sumI (fun _ => 0) 18 ≤ sumI (giv t k (updA (fun _ => false) k true)) 18 := sumI_le fun i _ => (giv_in ht k _ i).1
  have e0 : sumI (fun _ => 0) 18 = 0 := rfl
  omega
def U32At (w : World) (a : Option Addr) (len : Nat) (x : Nat → Nat) : Prop := ∀ i, i < len → ∃ b off, a = some ⟨b, off, none⟩ ∧ b < w.heap.size ∧ w.cell? ⟨b, off + i, none⟩ = some (.int .u32 (x i : Nat))
theorem U32At.kept {w w' : World} {a : Option Addr} {len : Nat} {x : Nat → Nat} (h : U32At w a len x) (hb : Below w.heap.size w w') : U32At w' a len x := fun i hi => by
  obtain ⟨b, off, ha, hl, hc⟩ := h i hi
  exact ⟨b, off, ha, by have := hb.size; omega, (hb.cell hl).trans hc⟩
/-- What stands in TurnFair's loop. -/
structure FrI (w wr : World) (T E : Nat) (t : Nat → Int) (ev : Nat → Bool) : Prop where
  t : OB w wr T 25 (TV t)
  e : OB w wr E 27 (RV ev)
  lt : T < E
theorem FrI.below {w wr w' : World} {T E : Nat} {t : Nat → Int} {ev : Nat → Bool} (h : FrI w wr T E t ev) (hb : Below wr.heap.size wr w') : FrI w w' T E t ev := ⟨h.t.below hb, h.e.below hb, h.lt⟩
theorem FrI.putT {w wr : World} {T E : Nat} {t : Nat → Int} {ev : Nat → Bool} (h : FrI w wr T E t ev) (u : Nat → Int) : FrI w (wr.setRow T (TV u)) T E u ev :=
  ⟨h.t.put _, h.e.kept (grown_setRow _ _ _) (by have := h.lt; omega) h.t.lb, h.lt⟩
theorem FrI.putE {w wr : World} {T E : Nat} {t : Nat → Int} {ev : Nat → Bool} (h : FrI w wr T E t ev) (i : Nat) (b : Bool) : FrI w (wr.setCell ⟨E, i, none⟩ (.bool b)) T E t (updA ev i b) :=
  ⟨h.t.kept (grown_setCell _ _ _) (by have := h.lt; dsimp only; omega) h.e.lb, h.e.set i _ (RV_set ev i b), h.lt⟩
theorem FrI.congr {w wr : World} {T E : Nat} {t : Nat → Int} {ev ev' : Nat → Bool} (h : FrI w wr T E t ev) (e : ∀ i, i < 18 → ev i = ev' i) : FrI w wr T E t ev' := ⟨h.t, by rw [← RV_congr e]; exact h.e, h.lt⟩
structure FrJ (w wr : World) (T E R : Nat) (t : Nat → Int) (ev r : Nat → Bool) : Prop where
  i : FrI w wr T E t ev
  r : OB w wr R 27 (RV r)
  lt : T < R ∧ E < R
theorem FrJ.below {w wr w' : World} {T E R : Nat} {t : Nat → Int} {ev r : Nat → Bool} (h : FrJ w wr T E R t ev r) (hb : Below wr.heap.size wr w') : FrJ w w' T E R t ev r := ⟨h.i.below hb, h.r.below hb, h.lt⟩
theorem FrJ.drawn {w wr : World} {T E R : Nat} {t : Nat → Int} {ev r : Nat → Bool} (h : FrJ w wr T E R t ev r) (n : Nat) : FrJ w (wr.drewN n) T E R t ev r := h.below (below_draws (Below.refl _ _) n)
theorem FrJ.putT {w wr : World} {T E R : Nat} {t : Nat → Int} {ev r : Nat → Bool} (h : FrJ w wr T E R t ev r) (u : Nat → Int) : FrJ w (wr.setRow T (TV u)) T E R u ev r :=
  ⟨h.i.putT u, h.r.kept (grown_setRow _ _ _) (by have := h.lt; omega) h.i.t.lb, h.lt⟩
theorem FrJ.putE {w wr : World} {T E R : Nat} {t : Nat → Int} {ev r : Nat → Bool} (h : FrJ w wr T E R t ev r) (i : Nat) (b : Bool) : FrJ w (wr.setCell ⟨E, i, none⟩ (.bool b)) T E R t (updA ev i b) r :=
  ⟨h.i.putE i b, h.r.kept (grown_setCell _ _ _) (by have := h.lt; dsimp only; omega) h.i.e.lb, h.lt⟩
theorem FrJ.congr {w wr : World} {T E R : Nat} {t : Nat → Int} {ev ev' r : Nat → Bool} (h : FrJ w wr T E R t ev r) (e : ∀ i, i < 18 → ev i = ev' i) : FrJ w wr T E R t ev' r := ⟨h.i.congr e, h.r, h.lt⟩
theorem or_more (ev r : Nat → Bool) : ∀ i, r i = true → (ev i || r i) = true := fun i h => by rw [h]; cases ev i <;> rfl
def orB (ev r : Nat → Bool) (i : Nat) : Bool := ev i || r i
def orA (ev r : Nat → Bool) (k i : Nat) : Bool := if i < k then ev i || r i else ev i
theorem orA_step (ev r : Nat → Bool) (k : Nat) : ∀ i, updA (orA ev r k) k (ev k || r k) i = orA ev r (k + 1) i := fun i => by
  unfold updA orA
  by_cases h : i = k
  · subst h; simp
  · rw [if_neg h]
    by_cases h2 : i < k
    · rw [if_pos h2, if_pos (by omega)]
    · rw [if_neg h2, if_neg (by omega)]
theorem orA_at (ev r : Nat → Bool) (k : Nat) : orA ev r k k = ev k := by unfold orA; rw [if_neg (by omega)]
set_option maxHeartbeats 4000000 in
theorem turnFair_long (l : Nat → Nat) (who : Nat) (a : Option Addr) (len cap : Nat) (hlen : 200 < len) (w : World) :
    Calls Try.prog 4 #[.agg (IV l), .int .u8 who, .slice a len cap] w fun e w' => e = .returned (.bool true) ∧ Below w.heap.size w w' := by
  have HA := Lib.hid awake13_in
  have HB := Lib.hid (below_new w (.cells (IV l) 22))
  have h2 : (200 : Int) < (len : Int) := by omega
  go_enter Try.func4, Try.ntmps4
  go_wp2_with fail
  refine (HA.out _).mono ?_
  rintro e w1 ⟨rfl, b1⟩
  go_wp2_with fail
  refine (HA.out _).mono ?_
  rintro e w2 ⟨rfl, b2⟩
  go_wp2
  go_ret
  exact ⟨rfl, below_up (below_up HB.out b1) b2⟩
set_option maxHeartbeats 4000000 in
theorem turnFair_in (l : Nat → Nat) (hl : ∀ i, l i < 256) (who : Nat) (hwho : who < 256) (a : Option Addr) (len cap : Nat) (f : Nat → Nat) (hf : ∀ i, f i < 4294967296) (hlen : len ≤ 200) (w : World) (ha : U32At w a len f) :
    Calls Try.prog 4 #[.agg (IV l), .int .u8 who, .slice a len cap] w fun e w' => e = .returned (.bool true) ∧ Below w.heap.size w w' := by
  have HZ := zeroT_run
  have HY := zeroR_run
  have HN := Lib.hid (near13_in l hl)
  have HRg := nearT_rg l
  have HR := Lib.hid (fun i => ready_in (f i) (hf i))
  have HP := Lib.hid (fun t r ht => pick_in t r ht)
  have HA := Lib.hid awake13_in
  have HL := Lib.hid (bl_new w 22 (IV l))
  have HB := Lib.hid (below_new w (.cells (IV l) 22))
  have HF := Lib.hid ha
  have h2 : ¬ (200 : Int) < (len : Int) := by omega
  obtain ⟨t0, ht0⟩ : ∃ t, nearT l = t := ⟨_, rfl⟩
  rw [ht0] at HN HRg
  have HS := Lib.hid (frN_start HRg (who % 18))
  have hk18 : who % 18 < 18 := Nat.mod_lt _ (by omega)
  have ek : ((who % 18 : Nat) : Int) = (who : Int) % 18 := by omega
  obtain ⟨k, hk⟩ : ∃ k, who % 18 = k := ⟨_, rfl⟩
  rw [hk] at HS hk18 ek
  clear ht0 HRg hf ha hk
  go_enter Try.func4, Try.ntmps4
  go_wp2_with fail
  refine (HA.out _).mono ?_
  rintro e w1 ⟨rfl, b1⟩
  have b1' := below_up HB.out b1
  have L1 := Lib.hid ((HL.out).below b1)
  clear HL HB b1
  go_wp2_with (refine wpList_ldI rfl (.tmp 3) rfl w.heap.size rfl l (L1.out) ?_)
  refine (HN.out _).mono ?_
  rintro e w2 ⟨rfl, b2⟩
  have T1 := Lib.hid (ob_lay (below_up b1' b2) 25 (TV fun _ => 0) (TV t0))
  have Z1 := Lib.hid (bl_new w2 25 (TV fun _ => 0))
  clear L1 HN b1' b2
  go_upto_region 7 with (refine wpList_stT rfl (.tmp 7) (.tmp 27) rfl w2.heap.size rfl (fun _ => 0) t0 rfl Z1.out ?_)
  rw [← ek]
  have HI : Hid (FrI w (((w2.alloc (.cells (TV fun _ => 0) 25)).setRow w2.heap.size (TV t0)).alloc (.cells (RV fun _ => false) 27)) w2.heap.size (w2.heap.size + 1) t0 (fun _ => false)) := Lib.hid (by
    have h1 := T1.out
    have h2 := ob_new h1.bel 27 (RV fun _ => false)
    have e1 : ((w2.alloc (.cells (TV fun _ => 0) 25)).setRow w2.heap.size (TV t0)).heap.size = w2.heap.size + 1 := by simp [World.setRow]
    rw [e1] at h2
    exact ⟨h1.below (below_new _ _), h2, by omega⟩)
  generalize (((w2.alloc (.cells (TV fun _ => 0) 25)).setRow w2.heap.size (TV t0)).alloc (.cells (RV fun _ => false) 27)) = V0 at *
  obtain ⟨T, hT⟩ : ∃ T, w2.heap.size = T := ⟨_, rfl⟩
  obtain ⟨E, hE⟩ : ∃ E, T + 1 = E := ⟨_, rfl⟩
  rw [hT, hE] at HI ⊢
  clear hT hE T1 Z1 ek
  have k0 : (k : Int) < 18 := by omega
  have c1 := (HI.out).e.bl.at hk18
  have f1 := (HI.out).e.bl.fz k
  have HI1 := Lib.hid ((HI.out).putE k true)
  clear HI
  go_upto_region 8 with fail
  clear c1 f1
  generalize V0.setCell ⟨E, k, none⟩ (.bool true) = V at *
  go_wp2_with fail
  go_loopw [6, 9, 11, 12, 13, 14, 15, 16, 17] (fun _ wt i _ _ _ _ _ _ wr => ∃ (n : Nat) (t : Nat → Int) (ev : Nat → Bool) (x : Int), n ≤ len ∧ i = .int .i64 n ∧ wt = .int .i64 x ∧ FrN k t ev x ∧ FrI w wr T E t ev) (fun _ _ i _ _ _ _ _ _ _ => len - (intOf i).toNat)
  case atStart => exact ⟨0, _, _, _, by omega, rfl, rfl, HS.out, HI1.out⟩
  case round =>
    clear HI1 HS
    obtain ⟨n, t, ev, x, hn, rfl, rfl, hN, hI⟩ := hrel
    have HN := Lib.hid hN
    have HI := Lib.hid hI
    clear hN hI
    by_cases hlt : n < len
    · have n1 : (n : Int) < (len : Int) := by omega
      obtain ⟨b, off, rfl, hbl, hcell⟩ := (HF.out) n hlt
      have c1 := ((HI.out).t.bel.cell (p := ⟨b, off + n, none⟩) hbl).trans hcell
      have HK := Lib.hid ((HR.out) n)
      clear hcell
      generalize f n = o at *
      go_wp2_with fail
      refine (HK.out _).mono ?_
      rintro e w3 ⟨rfl, b3⟩
      have I3 := Lib.hid ((HI.out).below b3)
      have I4 := Lib.hid ((I3.out).below (lay_below w3 27 (RV fun _ => false) (RV (readyN o))))
      have R4 := Lib.hid (ob_lay (I3.out).t.bel 27 (RV fun _ => false) (RV (readyN o)))
      have Z4 := Lib.hid (bl_new w3 27 (RV fun _ => false))
      have l3 := (I3.out).e.bl.lt
      have l4 := (I3.out).t.bl.lt
      have c4 := (R4.out).bl.at hk18
      have f4 := (R4.out).bl.fz k
      have R5 := Lib.hid ((R4.out).set k (.bool true) (RV_set _ _ _))
      have I5 : Hid (FrI w (((w3.alloc (.cells (RV fun _ => false) 27)).setRow w3.heap.size (RV (readyN o))).setCell ⟨w3.heap.size, k, none⟩ (.bool true)) T E t ev) :=
        Lib.hid ⟨(I4.out).t.kept (grown_setCell _ _ _) (by dsimp only; omega) (R4.out).lb, (I4.out).e.kept (grown_setCell _ _ _) (by dsimp only; omega) (R4.out).lb, (I4.out).lt⟩
      clear c1 HK I3 b3
      go_upto_region 13 with (refine wpList_stR rfl (.tmp 12) (.tmp 43) rfl w3.heap.size rfl (fun _ => false) (readyN o) rfl Z4.out ?_)
      clear c4 f4 Z4 R4 I4
      generalize ((w3.alloc (.cells (RV fun _ => false) 27)).setRow w3.heap.size (RV (readyN o))).setCell ⟨w3.heap.size, k, none⟩ (.bool true) = V3 at *
      obtain ⟨R, hR⟩ : ∃ R, w3.heap.size = R := ⟨_, rfl⟩
      obtain ⟨r, hr⟩ : ∃ r, updA (readyN o) k true = r := ⟨_, rfl⟩
      have hrk : r k = true := by rw [← hr, updA_same]
      rw [hR] at R5 l3 l4 ⊢
      rw [hr] at R5
      clear hR hr HI
      have HJ : Hid (FrJ w V3 T E R t (orA ev r 0) r) := Lib.hid (FrJ.congr ⟨I5.out, R5.out, l4, l3⟩ fun i _ => by unfold orA; rw [if_neg (by omega)])
      clear R5 I5 l3 l4
      go_wp2_with fail
      go_loopw [13] (fun i w4 => ∃ a : Nat, a ≤ 18 ∧ i = .int .i64 a ∧ FrJ w w4 T E R t (orA ev r a) r) (fun i _ => 18 - (intOf i).toNat)
      case atStart => exact ⟨0, by omega, rfl, HJ.out⟩
      case round =>
        clear HJ
        obtain ⟨a, ha, rfl, h4⟩ := hrel
        by_cases hla : a < 18
        · have a1 : (a : Int) < 18 := by omega
          have c1 := h4.i.e.bl.at hla
          have f1 := h4.i.e.bl.fz a
          have c2 := h4.r.bl.at hla
          rw [orA_at] at c1
          have h5 := (h4.putE a (ev a || r a)).congr fun i _ => orA_step ev r a i
          have H5 := Lib.hid h5
          clear h4 h5
          cases he : ev a
          · rw [he] at c1 H5
            cases hra : r a
            · rw [hra] at c2 H5
              clear he hra
              go_wp2
              go_roundw
              case rel => exact ⟨a + 1, by omega, by go_num, H5.out⟩
              case measure => simp [intOf]; omega
            · rw [hra] at c2 H5
              clear he hra
              go_wp2
              go_roundw
              case rel => exact ⟨a + 1, by omega, by go_num, H5.out⟩
              case measure => simp [intOf]; omega
          · rw [he] at c1 H5
            clear he c2
            go_wp2
            go_roundw
            case rel => exact ⟨a + 1, by omega, by go_num, H5.out⟩
            case measure => simp [intOf]; omega
        · obtain rfl : a = 18 := by omega
          have HJ : Hid (FrJ w wr T E R t (orB ev r) r) := Lib.hid (h4.congr fun i hi => if_pos hi)
          have HM : Hid (FrN k t (orB ev r) x) := Lib.hid ((HN.out).more r)
          clear h4 HN
          have HK := Lib.hid ((HP.out) t r (HM.out).rg)
          have HE : Hid (∀ i, r i = true → orB ev r i = true) := Lib.hid (or_more ev r)
          generalize orB ev r = ev' at *
          rcases bestN_in t r 18 with hb | ⟨j, hj, hb⟩
          · exfalso
            rcases bestN_spec t r 18 with ⟨_, h0⟩ | ⟨j, _, hb', _⟩
            · rw [h0 k hk18] at hrk; cases hrk
            · rw [hb'] at hb; omega
          obtain ⟨hN2, hrj⟩ := (HM.out).step hk18 hrk (HE.out) hj hb
          have HN2 := Lib.hid hN2
          have HRJ := Lib.hid hrj
          rw [hb] at HK
          obtain ⟨u, hu⟩ : ∃ u, pickN t r = u := ⟨_, rfl⟩
          rw [hu] at HK HN2
          obtain ⟨x0, x1⟩ := (HM.out).w
          have hx4 := (HM.out).bound
          have hcn := cntE_in ev' 18
          have xb : x ≤ 72 := by omega
          clear hN2 hrj hb hu HM HE x1 hx4 hcn hrk
          go_wp2_with (first
            | (refine wpList_ldT rfl (.tmp 7) rfl T rfl t (HJ.out).i.t.bl ?_)
            | (refine wpList_ldR rfl (.tmp 12) rfl R rfl r (HJ.out).r.bl ?_))
          refine (HK.out _).mono ?_
          rintro e w5 ⟨rfl, b5⟩
          have J5 := Lib.hid ((HJ.out).below b5)
          have J6 := Lib.hid ((J5.out).below (lay_below w5 25 (TV fun _ => 0) (TV u)))
          have U6 := Lib.hid (ob_lay (J5.out).i.t.bel 25 (TV fun _ => 0) (TV u))
          have Z6 := Lib.hid (bl_new w5 25 (TV fun _ => 0))
          have J7 := Lib.hid ((J6.out).putT u)
          clear HJ HK b5 J5
          go_upto_region 20 with (first
            | (refine wpList_stT rfl (.tmp 15) (.tmp 64) rfl w5.heap.size rfl (fun _ => 0) u rfl Z6.out ?_)
            | (refine wpList_ldT rfl (.tmp 15) rfl w5.heap.size rfl u (U6.out).bl ?_)
            | (refine wpList_stT rfl (.tmp 7) (.tmp 66) rfl T rfl t u rfl (J6.out).i.t.bl ?_))
          generalize ((w5.alloc (.cells (TV fun _ => 0) 25)).setRow w5.heap.size (TV u)).setRow T (TV u) = V5 at *
          generalize w5.heap.size = U at *
          clear Z6 U6 J6
          go_wp2_with fail
          go_loopw [14, 17] (fun m i wr => ∃ a : Nat, a ≤ 18 ∧ i = .int .i64 a ∧ m = .int .i64 (cntE ev' a) ∧ wr = V5) (fun _ i _ => 18 - (intOf i).toNat)
          case atStart => exact ⟨0, by omega, rfl, rfl, rfl⟩
          case round =>
            obtain ⟨a, ha, rfl, rfl, rfl⟩ := hrel
            obtain ⟨q0, q1⟩ := cntE_in ev' a
            by_cases hla : a < 18
            · have a1 : (a : Int) < 18 := by omega
              have c1 := (J7.out).i.e.bl.at hla
              have e := Lib.hid (cntE_succ ev' a)
              unfold oneI at e
              cases he : ev' a
              · rw [he] at c1 e
                rw [if_neg (by simp), Int.add_zero] at e
                clear he
                generalize cntE ev' a = m at *
                go_wp2
                go_roundw
                case rel => exact ⟨a + 1, by omega, by go_num, by rw [e.out], trivial⟩
                case measure => simp [intOf]; omega
              · rw [he] at c1 e
                rw [if_pos rfl] at e
                clear he
                generalize cntE ev' a = m at *
                go_wp2
                go_roundw
                case rel => exact ⟨a + 1, by omega, by go_num, by rw [e.out], trivial⟩
                case measure => simp [intOf]; omega
            · obtain rfl : a = 18 := by omega
              have c1 := (J7.out).r.bl.at hj
              rw [HRJ.out] at c1
              have hw := (HN2.out).w
              have hbd := (HN2.out).bound
              have j0 : ¬ ((j : Int) < 0) := by omega
              have j1 : (j : Int) < 18 := by omega
              have HI8 := Lib.hid (J7.out).i
              by_cases hjk : j = k
              · subst hjk
                rw [if_pos rfl] at hw hbd HN2
                have z1 : ((j : Int) == (j : Int)) = true := by simp
                have z2 : ¬ (7 * cntE ev' 18 < 0) := by omega
                generalize cntE ev' 18 = m at *
                clear hw hbd
                go_wp2
                go_roundw
                case rel => exact ⟨n + 1, _, _, _, by omega, by go_num, rfl, HN2.out, HI8.out⟩
                case measure => simp [intOf]; omega
              · rw [if_neg hjk] at hw hbd HN2
                have z1 : ((j : Int) == (k : Int)) = false := by simp; omega
                have z2 : ¬ (7 * cntE ev' 18 < x + 1) := by omega
                generalize cntE ev' 18 = m at *
                clear hw hbd hjk
                go_wp2
                go_roundw
                case rel => exact ⟨n + 1, _, _, _, by omega, by go_num, rfl, HN2.out, HI8.out⟩
                case measure => simp [intOf]; omega
    · obtain rfl : n = len := by omega
      go_wp2
      go_ret
      exact ⟨rfl, (HI.out).t.bel⟩
end Go.Proofs.Ythafcgppopfdkaa
