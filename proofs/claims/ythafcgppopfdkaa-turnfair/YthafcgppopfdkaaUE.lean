/-
  The walk of TurnEven.
-/
import Derived.Test.YthafcgppopfdkaaUD
namespace Go.Proofs.Ythafcgppopfdkaa
open Go.ChangeShapes Go.WideShapes Go.ChangeAt Go.RowKit
set_option maxRecDepth 100000
set_option linter.unusedVariables false

/-- What holds of turns and counts, of seats that are always the same ones that are ready. -/
structure EvN (r : Nat → Bool) (k : Nat) (t n : Nat → Int) : Prop where
  rg : Rg t
  sum : ∃ C, ∀ i, i < 18 → r i = true → n i + t i = C
  one : ∀ i j, i < 18 → j < 18 → r i = true → r j = true → t i ≤ t j + 1
  no : ∀ i, r i = false → n i = 0
  nn : ∀ i, 0 ≤ n i ∧ n i ≤ k
theorem evN_start (r : Nat → Bool) : EvN r 0 (fun _ => 0) (fun _ => 0) :=
  ⟨fun i => by (try dsimp only); omega, ⟨0, fun i _ _ => by (try dsimp only); omega⟩, fun i j _ _ _ _ => by (try dsimp only); omega, fun i _ => rfl, fun i => by (try dsimp only); omega⟩
theorem EvN.step {r : Nat → Bool} {k : Nat} {t n : Nat → Int} (h : EvN r k t n) {j : Nat} (hj : j < 18) (hb : bestN t r 18 = (j : Nat)) :
    EvN r (k + 1) (pickN t r) (updA n j (n j + 1)) := by
  rcases bestN_spec t r 18 with ⟨hb', _⟩ | ⟨j', hj', hb', hrj, hmx, hlt⟩
  · rw [hb'] at hb; omega
  obtain rfl : j' = j := by rw [hb'] at hb; omega
  obtain ⟨C, hC⟩ := h.sum
  refine ⟨pickN_rg h.rg r, ?_, ?_, fun i hi => ?_, fun i => ?_⟩
  · rw [pickN_some hb]
    by_cases h0 : t j' ≤ 0
    · refine ⟨C + 3, fun i hi hr => ?_⟩
      have h1 := hmx i hi hr
      have h2 := (h.rg i).1
      have h3 := hC i hi hr
      unfold fullN; rw [if_pos h0]
      unfold updA
      by_cases e : i = j'
      · rw [if_pos e, if_pos e, ← e]; (try dsimp only); omega
      · rw [if_neg e, if_neg e]; (try dsimp only); omega
    · refine ⟨C, fun i hi hr => ?_⟩
      have h3 := hC i hi hr
      unfold fullN; rw [if_neg h0]
      unfold updA
      by_cases e : i = j'
      · rw [if_pos e, if_pos e, ← e]; omega
      · rw [if_neg e, if_neg e]; omega
  · intro a b ha hb2 hra hrb
    rw [pickN_some hb]
    by_cases h0 : t j' ≤ 0
    · unfold fullN; rw [if_pos h0]
      unfold updA
      split <;> split <;> (try dsimp only) <;> omega
    · have a1 := hmx a ha hra
      have b1 := hmx b hb2 hrb
      have a2 := h.one j' a hj' ha hrj hra
      have b2 := h.one j' b hj' hb2 hrj hrb
      have ab := h.one a b ha hb2 hra hrb
      unfold fullN; rw [if_neg h0]
      unfold updA
      split <;> split <;> omega
  · unfold updA
    rw [if_neg (fun e => by rw [e, hrj] at hi; cases hi)]
    exact h.no i hi
  · have := h.nn i
    have h2 := h.nn j'
    unfold updA
    split <;> omega
theorem none_ready {x : Nat} (h : ∀ i, i < 18 → readyN x i = false) : x % 262144 = 0 := by
  have g : ∀ i, i < 18 → ¬ (x / 2 ^ i % 2 = 1) := fun i hi => of_decide_eq_false (h i hi)
  have key : ∀ k, k ≤ 18 → x % 2 ^ k = 0 := by
    intro k
    induction k with
    | zero => intro _; simp [Nat.mod_one]
    | succ k ih =>
      intro hk
      have h1 := g k (by omega)
      have h2 : x / 2 ^ k % 2 = 0 := by omega
      rw [Nat.mod_pow_succ, ih (by omega), h2]; simp
  exact key 18 (by omega)
/-- What stands in TurnEven's first loop. -/
structure EvI (w wr : World) (R T N : Nat) (r : Nat → Bool) (t n : Nat → Int) : Prop where
  r : OB w wr R 27 (RV r)
  t : OB w wr T 25 (TV t)
  n : OB w wr N 24 (TV n)
  lt : R < T ∧ T < N
theorem EvI.below {w wr w' : World} {R T N : Nat} {r : Nat → Bool} {t n : Nat → Int} (h : EvI w wr R T N r t n) (hb : Below wr.heap.size wr w') : EvI w w' R T N r t n := ⟨h.r.below hb, h.t.below hb, h.n.below hb, h.lt⟩
theorem EvI.drawn {w wr : World} {R T N : Nat} {r : Nat → Bool} {t n : Nat → Int} (h : EvI w wr R T N r t n) (k : Nat) : EvI w (wr.drewN k) R T N r t n := h.below (below_draws (Below.refl _ _) k)
theorem EvI.putT {w wr : World} {R T N : Nat} {r : Nat → Bool} {t n : Nat → Int} (h : EvI w wr R T N r t n) (t' : Nat → Int) : EvI w (wr.setRow T (TV t')) R T N r t' n :=
  ⟨h.r.kept (grown_setRow _ _ _) (by have := h.lt; omega) h.t.lb, h.t.put _, h.n.kept (grown_setRow _ _ _) (by have := h.lt; omega) h.t.lb, h.lt⟩
theorem EvI.putN {w wr : World} {R T N : Nat} {r : Nat → Bool} {t n : Nat → Int} (h : EvI w wr R T N r t n) (i : Nat) (z : Int) : EvI w (wr.setCell ⟨N, i, none⟩ (.int .i64 z)) R T N r t (updA n i z) :=
  ⟨h.r.kept (grown_setCell _ _ _) (by have := h.lt; dsimp only; omega) h.n.lb, h.t.kept (grown_setCell _ _ _) (by have := h.lt; dsimp only; omega) h.n.lb, h.n.set i _ (TV_set n i z), h.lt⟩
set_option maxHeartbeats 4000000 in
theorem turnEven_core (x : Nat) (hx : x < 4294967296) (s : Nat) (hs : s < 256) (w : World) :
    Calls Try.prog 6 #[.int .u32 x, .int .u8 s] w fun e w' => e = .returned (.bool true) ∧ Below w.heap.size w w' := by
  have HZ := zeroT_run
  have HY := zeroR_run
  have HW := zeroN_run
  have HR := Lib.hid (ready_in x hx)
  have HP := Lib.hid (fun t ht => pick_in t (readyN x) ht)
  have HA := Lib.hid awake13_in
  have HX := Lib.hid (none_ready (x := x))
  generalize readyN x = r at *
  clear hx
  go_enter Try.func6, Try.ntmps6
  go_wp2_with fail
  refine (HR.out _).mono ?_
  rintro e w1 ⟨rfl, b1⟩
  have R2 := Lib.hid (ob_lay b1 27 (RV fun _ => false) (RV r))
  have Z1 := Lib.hid (bl_new w1 27 (RV fun _ => false))
  clear HR b1
  go_upto_region 4 with (refine wpList_stR rfl (.tmp 5) (.tmp 14) rfl w1.heap.size rfl (fun _ => false) r rfl Z1.out ?_)
  have HI : Hid (EvI w ((((w1.alloc (.cells (RV fun _ => false) 27)).setRow w1.heap.size (RV r)).alloc (.cells (TV fun _ => 0) 25)).alloc (.cells (TV fun _ => 0) 24)) w1.heap.size (w1.heap.size + 1) (w1.heap.size + 1 + 1) r (fun _ => 0) (fun _ => 0)) := Lib.hid (by
    have h1 := R2.out
    have h2 := ob_new h1.bel 25 (TV fun _ => 0)
    have h3 := ob_new h2.bel 24 (TV fun _ => 0)
    have e1 : ((w1.alloc (.cells (RV fun _ => false) 27)).setRow w1.heap.size (RV r)).heap.size = w1.heap.size + 1 := by simp [World.setRow]
    rw [World.size_alloc, e1] at h3
    have h4 := h2.below (below_new _ (.cells (TV fun _ => 0) 24))
    rw [e1] at h4
    exact ⟨(h1.below (below_new _ _)).below (below_new _ _), h4, h3, by omega, by omega⟩)
  generalize ((((w1.alloc (.cells (RV fun _ => false) 27)).setRow w1.heap.size (RV r)).alloc (.cells (TV fun _ => 0) 25)).alloc (.cells (TV fun _ => 0) 24)) = V at *
  obtain ⟨R, hR⟩ : ∃ R, w1.heap.size = R := ⟨_, rfl⟩
  obtain ⟨T, hT⟩ : ∃ T, R + 1 = T := ⟨_, rfl⟩
  obtain ⟨N, hN⟩ : ∃ N, T + 1 = N := ⟨_, rfl⟩
  rw [hR, hT, hN] at HI ⊢
  clear hR hT hN R2 Z1
  go_wp2_with fail
  go_loopw [4, 8, 9, 10] (fun _ i _ _ wr => ∃ (k : Nat) (t n : Nat → Int), k ≤ s ∧ i = .int .i64 k ∧ EvN r k t n ∧ EvI w wr R T N r t n) (fun _ i _ _ _ => s - (intOf i).toNat)
  case atStart => exact ⟨0, _, _, by omega, rfl, evN_start r, HI.out⟩
  case round =>
    clear HI
    obtain ⟨k, t, n, hk, rfl, he, hi⟩ := hrel
    have HE := Lib.hid he
    have HI := Lib.hid hi
    clear hi
    by_cases hlt : k < s
    · have k1 : (k : Int) < (s : Int) := by omega
      have HK := Lib.hid ((HP.out) t he.rg)
      clear he
      rcases bestN_spec t r 18 with ⟨hb, hno⟩ | ⟨j, hj, hb, hrj, _, _⟩
      · rw [hb, pickN_none hb] at HK
        have hx0 := (HX.out) hno
        have z1 : ((x : Int) % 262144 == 0) = true := by simp; omega
        clear hb hno hx0 HX HE
        go_wp2_with (first
          | (refine wpList_ldT rfl (.tmp 6) rfl T rfl t (HI.out).t.bl ?_)
          | (refine wpList_ldR rfl (.tmp 5) rfl R rfl r (HI.out).r.bl ?_))
        refine (HK.out _).mono ?_
        rintro e w2 ⟨rfl, b2⟩
        have Z2 := Lib.hid (bl_new w2 25 (TV fun _ => 0))
        have HI2 := Lib.hid (((HI.out).below b2).below (lay_below w2 25 (TV fun _ => 0) (TV t)))
        clear b2 HI HK
        go_wp2_with (refine wpList_stT rfl (.tmp 9) (.tmp 25) rfl w2.heap.size rfl (fun _ => 0) t rfl Z2.out ?_)
        refine (HA.out _).mono ?_
        rintro e w3 ⟨rfl, b3⟩
        have HI3 := Lib.hid ((HI2.out).below b3)
        clear b3
        go_wp2
        go_ret
        exact ⟨rfl, (HI3.out).t.bel⟩
      · have HE2 := Lib.hid ((HE.out).step hj hb)
        rw [hb] at HK
        obtain ⟨n0, n1⟩ := (HE.out).nn j
        clear hb hrj HE HX
        generalize pickN t r = u at *
        go_wp2_with (first
          | (refine wpList_ldT rfl (.tmp 6) rfl T rfl t (HI.out).t.bl ?_)
          | (refine wpList_ldR rfl (.tmp 5) rfl R rfl r (HI.out).r.bl ?_))
        refine (HK.out _).mono ?_
        rintro e w2 ⟨rfl, b2⟩
        have Z2 := Lib.hid (bl_new w2 25 (TV fun _ => 0))
        have U2 := Lib.hid (ob_lay ((HI.out).below b2).t.bel 25 (TV fun _ => 0) (TV u))
        have HI2 := Lib.hid (((HI.out).below b2).below (lay_below w2 25 (TV fun _ => 0) (TV u)))
        have HI3 := Lib.hid ((HI2.out).putT u)
        have HI4 := Lib.hid ((HI3.out).putN j (n j + 1))
        have c1 := (HI3.out).n.bl.at hj
        have f1 := (HI3.out).n.bl.fz j
        have j0 : ¬ ((j : Int) < 0) := by omega
        have j1 : (j : Int) < 18 := by omega
        clear b2 HI HK
        go_wp2_with (first
          | (refine wpList_stT rfl (.tmp 9) (.tmp 25) rfl w2.heap.size rfl (fun _ => 0) u rfl Z2.out ?_)
          | (refine wpList_ldT rfl (.tmp 9) rfl w2.heap.size rfl u (U2.out).bl ?_)
          | (refine wpList_stT rfl (.tmp 6) (.tmp 35) rfl T rfl t u rfl (HI2.out).t.bl ?_))
        go_roundw
        case rel => exact ⟨k + 1, _, _, by omega, by go_num, HE2.out, HI4.out⟩
        case measure => simp [intOf]; omega
    · obtain rfl : k = s := by omega
      clear HP HX he
      go_wp2_with fail
      go_loopw [4, 11, 12] (fun _ i _ w2 => ∃ a m : Nat, a ≤ 18 ∧ i = .int .i64 a ∧ w2 = wr.drewN m) (fun _ i _ _ => 18 - (intOf i).toNat)
      case atStart => exact ⟨0, 0, by omega, rfl, rfl⟩
      case round =>
        obtain ⟨a, m, ha, rfl, rfl⟩ := hrel
        by_cases hla : a < 18
        · have a1 : (a : Int) < 18 := by omega
          have HI2 := Lib.hid ((HI.out).drawn m)
          generalize hW2 : wr.drewN m = W2 at *
          have HW2 := Lib.hid hW2
          clear hW2
          go_wp2_with fail
          go_loopw [4, 12] (fun _ j w3 => ∃ b m : Nat, b ≤ 18 ∧ j = .int .i64 b ∧ w3 = W2.drewN m) (fun _ j _ => 18 - (intOf j).toNat)
          case atStart => exact ⟨0, 0, by omega, rfl, rfl⟩
          case round =>
            obtain ⟨b, m2, hb, rfl, rfl⟩ := hrel
            by_cases hlb : b < 18
            · have b1 : (b : Int) < 18 := by omega
              have c1 := (HI2.out).r.bl.at hla
              have c2 := (HI2.out).r.bl.at hlb
              have c3 := (HI2.out).n.bl.at hla
              have c4 := (HI2.out).n.bl.at hlb
              obtain ⟨na0, na1⟩ := (HE.out).nn a
              obtain ⟨nb0, nb1⟩ := (HE.out).nn b
              cases hra : r a
              · have z0 := (HE.out).no a hra
                rw [hra] at c1
                rw [z0] at c3
                clear c2 c4 na0 na1 nb0 nb1 hra z0
                go_wp2
                go_quiet (fail)
                go_wp2
                go_roundw
                case rel => exact ⟨b + 1, _, by omega, by go_num, rfl⟩
                case measure => simp [intOf]; omega
              · rw [hra] at c1
                cases hrb : r b
                · rw [hrb] at c2
                  clear c3 c4 na0 na1 nb0 nb1 hra hrb
                  go_wp2
                  go_quiet (fail)
                  go_wp2
                  go_roundw
                  case rel => exact ⟨b + 1, _, by omega, by go_num, rfl⟩
                  case measure => simp [intOf]; omega
                · rw [hrb] at c2
                  have h1 := (HE.out).one b a hlb hla hrb hra
                  obtain ⟨C, hC⟩ := (HE.out).sum
                  have s1 := hC a hla hra
                  have s2 := hC b hlb hrb
                  have hno : decide (n b + 1 < n a) = false := decide_eq_false (by omega)
                  clear hC s1 s2 h1 hra hrb
                  generalize n a = na at *
                  generalize n b = nb at *
                  go_wp2
                  go_quiet (fail)
                  go_wp2
                  go_roundw
                  case rel => exact ⟨b + 1, _, by omega, by go_num, rfl⟩
                  case measure => simp [intOf]; omega
            · obtain rfl : b = 18 := by omega
              have HD := Lib.hid (HW2.out)
              go_wp2
              go_roundw
              case rel => exact ⟨a + 1, m + m2, by omega, by go_num, by rw [← HD.out]; simp [World.drewN, Nat.add_assoc]⟩
              case measure => simp [intOf]; omega
        · obtain rfl : a = 18 := by omega
          have HI2 := Lib.hid ((HI.out).drawn m)
          go_wp2_with fail
          refine (HA.out _).mono ?_
          rintro e w3 ⟨rfl, b3⟩
          have HI3 := Lib.hid ((HI2.out).below b3)
          clear b3
          go_wp2
          go_ret
          exact ⟨rfl, (HI3.out).t.bel⟩
end Go.Proofs.Ythafcgppopfdkaa
