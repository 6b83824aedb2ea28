/-
  The walk of AlarmTwins.
-/
import Derived.Test.YtfiahkjaeeoepaaAI
namespace Go.Proofs.Ytfiahkjaeeoepaa
open Go.ChangeShapes Go.WideShapes Go.ChangeAt Go.RowKit Go.Sort
set_option maxRecDepth 100000
set_option linter.unusedVariables false

def onT (k : Nat) : Nat → Bool := fun p => decide (p < k)
theorem LsA.fz0 {w : World} {base : Nat} {v : Value} {L : List AL} (h : LsA w base v L) {x : AL} (hx : L[0]? = some x) : ∀ g, v.ownBlock = some g → w.frozen? ⟨g, 0, none⟩ = false := by
  rcases h with ⟨_, rfl⟩ | ⟨g, cap, rfl, h2, h3, h4, h5, h6⟩
  · simp at hx
  · intro g' hg'
    rw [show (Value.slice (some ⟨g, 0, none⟩) L.length cap).ownBlock = some g from rfl] at hg'
    injection hg' with hg'
    subst hg'
    exact (h6 0 x hx).2.1
theorem cntT : ∀ n, n ≤ 18 → cntO (onT n) 18 = n := by
  have h : ∀ n < 19, cntO (onT n) 18 = n := by decide +kernel
  exact fun n hn => h n (by omega)
theorem cntT0 : ∀ n, 1 ≤ n → n ≤ 18 → cntO (upd (onT n) 0 false) 18 = n - 1 := by
  have h : ∀ n < 19, 1 ≤ n → cntO (upd (onT n) 0 false) 18 = n - 1 := by decide +kernel
  exact fun n h1 hn => h n (by omega) h1
theorem twins_out (a : Option Addr) (len cap by_ : Nat) (h : len = 0 ∨ 18 < len) (w : World) :
    Calls Try.prog 4 #[.slice a len cap, .int .u64 by_] w fun e w' => e = .returned (.bool true) ∧ Below w.heap.size w w' := by
  have HA := Lib.hid (fun U => awake10_in U)
  by_cases h0 : len = 0
  · subst h0
    clear h
    go_enter Try.func4, Try.ntmps4
    go_wp2_with fail
    refine (HA.out _).mono ?_
    rintro e w1 ⟨rfl, b1⟩
    have B1 := Lib.hid b1
    clear b1
    go_wp2_with fail
    refine (HA.out _).mono ?_
    rintro e w2 ⟨rfl, b2⟩
    have B2 := Lib.hid (below_up B1.out b2)
    clear b2
    go_wp2
    go_ret
    exact ⟨rfl, B2.out⟩
  · have z1 : ((len : Int) == 0) = false := by simp; omega
    have z2 : (18 : Int) < (len : Int) := by omega
    clear h h0
    go_enter Try.func4, Try.ntmps4
    go_wp2_with fail
    refine (HA.out _).mono ?_
    rintro e w1 ⟨rfl, b1⟩
    have B1 := Lib.hid b1
    clear b1
    go_wp2_with fail
    refine (HA.out _).mono ?_
    rintro e w2 ⟨rfl, b2⟩
    have B2 := Lib.hid (below_up B1.out b2)
    clear b2
    go_wp2
    go_ret
    exact ⟨rfl, B2.out⟩
set_option maxHeartbeats 2000000 in
theorem twins_in (a : Option Addr) (len cap by_ : Nat) (h1 : 1 ≤ len) (h18 : len ≤ 18) (hby : by_ < 18446744073709551616) (f : Nat → Nat) (hf : ∀ i, f i < 18446744073709551616) (w : World) (ha : W64At w a len f) :
    Calls Try.prog 4 #[.slice a len cap, .int .u64 by_] w fun e w' => e = .returned (.bool true) ∧ Below w.heap.size w w' := by
  have HA := Lib.hid (awake10_in w)
  have HF := Lib.hid hf
  have HW := Lib.hid ha
  have z1 : ((len : Int) == 0) = false := by simp; omega
  have z2 : ¬ (18 : Int) < (len : Int) := by omega
  clear hf ha
  go_enter Try.func4, Try.ntmps4
  go_wp2_with fail
  refine (HA.out).mono ?_
  rintro e w1 ⟨rfl, b1⟩
  have k0 := kw_new b1
  have K0 : Hid (Kw w (w1.alloc (.cells zeroK 31)) w1.heap.size (onT 0) f) := Lib.hid ⟨k0.m.congr (fun p _ => ⟨rfl, fun h => by cases h⟩), k0.lb, k0.bel⟩
  clear b1 HA k0
  go_wp2_with (refine wpList_bdK rfl rfl ?_)
  go_loopw [6] (fun i wr => ∃ k : Nat, k ≤ len ∧ i = .int .i64 k ∧ Kw w wr w1.heap.size (onT k) f) (fun i _ => len - (intOf i).toNat)
  case atStart => exact ⟨0, by omega, rfl, K0.out⟩
  case round =>
    clear K0
    obtain ⟨k, hk, rfl, hK⟩ := hrel
    by_cases hlt : k < len
    · obtain ⟨b, off, rfl, hbl, hc⟩ := ((HW.out).kept hK.bel) k hlt
      have hfk := (HF.out) k
      have e1 : ((k : Int) % 3) = ((k % 3 : Nat) : Int) := by omega
      have e2 : ((k : Int) / 3) = ((k / 3 : Nat) : Int) := by omega
      have e3 : ((k : Int).tmod 3) = ((k % 3 : Nat) : Int) := (Int.ofNat_tmod k 3).symm
      have e4 : ((k : Int).tdiv 3) = ((k / 3 : Nat) : Int) := by rw [Int.tdiv_eq_ediv_of_nonneg (by omega)]; exact e2
      have hv : k / 3 < 6 := by omega
      have hs : k % 3 < 3 := Nat.mod_lt _ (by omega)
      have HS : Hid (Calls Try.prog 13 #[.pointer (some ⟨w1.heap.size, 0, none⟩), .int .i64 (k / 3 : Nat), .int .i64 (k % 3 : Nat), .int .u64 (f k : Nat)] wr fun e w' => e = .returned (.int .i64 0) ∧ Mt wr w' w1.heap.size (onT (k + 1)) f) :=
        Lib.hid ((mset_yes hK.m (k / 3) (k % 3) hv hs (f k) hfk).mono (fun e w' ⟨he, h3⟩ => ⟨he, ⟨h3.m.congr (fun p hp => by
          have hi : k / 3 * 3 + k % 3 = k := by omega
          rw [hi]
          unfold onT
          by_cases e : p = k
          · subst e; rw [upd_same, upd_same]; exact ⟨by simp, fun _ => rfl⟩
          · rw [upd_other _ _ _ _ e, upd_other _ _ _ _ e]
            exact ⟨by congr 1; apply propext; omega, fun _ => rfl⟩), h3.gr⟩⟩))
      have HK := Lib.hid hK
      clear hK
      generalize f k = x at *
      generalize hq6 : k / 3 = q6 at *
      generalize hq3 : k % 3 = q3 at *
      clear hq6 hq3
      go_wp2_with fail
      refine (HS.out).mono ?_
      rintro e w3 ⟨rfl, h3⟩
      have K3 := Lib.hid ((HK.out).turn h3)
      clear h3 HS HK hc
      go_wp2
      go_roundw
      case rel => exact ⟨k + 1, by omega, by go_num, K3.out⟩
      case measure => simp [intOf]; omega
    · obtain rfl : k = len := by omega
      have hbd : ∀ p, p < 18 → onT k p = true → f p ≤ maxT := fun p _ _ => by have := HF.out p; unfold maxT; omega
      have hlen : (upL (onT k) f maxT).length = k := by rw [up_len, len_all (onT k) f maxT 18 hbd, cntT k h18]
      have hlen2 : (upL (upd (onT k) 0 false) (fun p => laterN (f p) by_) maxT).length = k - 1 := by
        rw [up_len, len_all _ _ maxT 18 (fun p _ _ => by have := laterN_lt (f p) by_ (HF.out p); unfold maxT; show laterN (f p) by_ ≤ _; omega), cntT0 k h1 h18]
      have HT := Lib.hid (mtwin_in hK.m)
      have HAL := Lib.hid (fun U C (h : Mk U C (onT k) f) => all_in h)
      have HSH := Lib.hid (fun U C (h : Mk U C (onT k) f) => shift_in h by_ hby)
      have HDR := Lib.hid (fun U C (h : Mk U C (onT k) (fun p => laterN (f p) by_)) => show Calls Try.prog 9 #[.pointer (some ⟨C, 0, none⟩), .int .i64 0, .int .i64 0] U fun e w' => e = .returned (.tuple #[]) ∧ Mt U w' C (upd (onT k) 0 false) (fun p => laterN (f p) by_) from mdrop_yes h 0 0 (by omega) (by omega))
      have HAD := Lib.hid (fun U C (h : Mk U C (upd (onT k) 0 false) (fun p => laterN (f p) by_)) => all_in h)
      have HK := Lib.hid hK
      have HUM := Lib.hid (fun x hx => ((up_mem (onT k) f maxT x).1 hx).2.2.1)
      clear hK hbd
      generalize upL (onT k) f maxT = L at *
      generalize upL (upd (onT k) 0 false) (fun p => laterN (f p) by_) maxT = L2 at *
      have N1 := Lib.hid hlen
      have N2 := Lib.hid hlen2
      clear hlen hlen2
      go_wp2_with fail
      refine (HT.out).mono ?_
      rintro e w2 ⟨rfl, m2, b2⟩
      have K1 := Lib.hid ((HK.out).below b2)
      have hlt2 := (HK.out).m.lt
      have K2 : Hid (Kw w w2 wr.heap.size (onT k) f) := Lib.hid ⟨m2, (HK.out).bel.size, (K1.out).bel⟩
      have HNE : Hid (w1.heap.size ≠ wr.heap.size ∧ w.heap.size ≤ w1.heap.size ∧ w.heap.size ≤ wr.heap.size) := Lib.hid ⟨by omega, (HK.out).lb, (HK.out).bel.size⟩
      clear m2 b2 HT HK hlt2
      generalize wr.heap.size = C at *
      generalize w1.heap.size = B at *
      go_wp2_with fail
      refine (HAL.out _ _ (K2.out).m).mono ?_
      rintro e w3 ⟨v3, rfl, l3, b3⟩
      have K3 := Lib.hid ((K1.out).below b3)
      have K4 := Lib.hid ((K2.out).below b3)
      have hC2 := (K2.out).m.lt
      have hB2 := (K1.out).m.lt
      have L3 := Lib.hid l3
      clear K1 K2 b3 l3
      go_wp2_with fail
      refine (HSH.out _ _ (K4.out).m).mono ?_
      rintro e w4 ⟨rfl, h4⟩
      have K5 := Lib.hid ((K4.out).turn h4)
      have K6 := Lib.hid ((K3.out).kept h4.gr (HNE.out).1 (HNE.out).2.2)
      have L4 := Lib.hid ((L3.out).kept h4.gr (fun g hg e => by injection e with e; omega))
      clear K3 K4 L3 h4 HSH
      go_wp2_with fail
      refine (HDR.out _ _ (K5.out).m).mono ?_
      rintro e w5 ⟨rfl, h5⟩
      have K7 := Lib.hid ((K5.out).turn h5)
      have K8 := Lib.hid ((K6.out).kept h5.gr (HNE.out).1 (HNE.out).2.2)
      have L5 := Lib.hid ((L4.out).kept h5.gr (fun g hg e => by injection e with e; omega))
      clear K5 K6 L4 h5 HDR
      go_wp2_with fail
      refine (HAL.out _ _ (K8.out).m).mono ?_
      rintro e w6 ⟨v6, rfl, m6, b6⟩
      have K9 := Lib.hid ((K7.out).below b6)
      have K10 := Lib.hid ((K8.out).below b6)
      have L6 := Lib.hid ((L5.out).below b6)
      have M6 := Lib.hid m6
      have l5 := L5.out
      obtain ⟨x0, hx0⟩ : ∃ x, L[0]? = some x := ⟨_, List.getElem?_eq_getElem (by have := N1.out; omega)⟩
      have HX0 := Lib.hid hx0
      obtain ⟨gl, cl, rfl, hgl1, hgl2, _⟩ := l5.at hx0
      obtain ⟨gm, cm, rfl, hgm1, hgm2, _⟩ := (M6.out).at hx0
      rw [N1.out]
      have HG : Hid (B ≠ gl ∧ gl < w5.heap.size ∧ w.heap.size ≤ gl) := Lib.hid ⟨by omega, by omega, by have := (HNE.out).2.1; omega⟩
      clear K7 K8 b6 m6 L5 l5 hx0 hgl1 hgl2 hgm1 hgm2 hC2 hB2
      have e9 : (((k - 1 : Nat) : Int) != (k : Int) - 1) = false := by simp; omega
      go_wp2_with fail
      refine (HAD.out _ _ (K9.out).m).mono ?_
      rintro e w7 ⟨v7, rfl, l7, b7⟩
      obtain ⟨p7, c7, rfl⟩ := l7.len
      rw [N2.out]
      have K11 := Lib.hid ((K10.out).below b7)
      have L7 := Lib.hid ((L6.out).below b7)
      have M7 := Lib.hid ((M6.out).below b7)
      clear l7 b7 K9 K10 L6 M6 HAD
      rw [N1.out] at L7 M7
      go_wp2_with fail
      clear e9
      go_loopw [4, 10] (fun _ i wr => ∃ j n : Nat, j ≤ k ∧ i = .int .i64 j ∧ wr = w7.drewN n) (fun _ i _ => k - (intOf i).toNat)
      case atStart => exact ⟨0, 0, by omega, rfl, rfl⟩
      case round =>
        obtain ⟨j, n, hj, rfl, rfl⟩ := hrel
        by_cases hlj : j < k
        · obtain ⟨x, hx⟩ : ∃ x, L[j]? = some x := ⟨_, List.getElem?_eq_getElem (by have := N1.out; omega)⟩
          obtain ⟨g1, c1, e1, _, _, a0, a1, a2⟩ := (L7.out).at hx
          obtain ⟨g2, c2, e2, _, _, d0, d1, d2⟩ := (M7.out).at hx
          simp only [Value.slice.injEq, Option.some.injEq, Addr.mk.injEq, and_true] at e1 e2
          obtain ⟨rfl, _, rfl⟩ := e1
          obtain ⟨rfl, _, rfl⟩ := e2
          have z7 : (j : Int) < (k : Int) := by omega
          clear hx
          generalize x.tm = tt at *
          generalize x.p / 3 = vv at *
          generalize x.p % 3 = ss at *
          go_wp2_with fail
          go_quiet (fail)
          go_wp2
          go_roundw
          case rel => exact ⟨j + 1, _, by omega, by go_num, rfl⟩
          case measure => simp [intOf]; omega
        · obtain rfl : j = k := by omega
          have fz := (L7.out).fz0 HX0.out
          obtain ⟨g1, c1, e1, _, _, a0, _, _⟩ := (L7.out).at HX0.out
          simp only [Value.slice.injEq, Option.some.injEq, Addr.mk.injEq, and_true] at e1
          obtain ⟨rfl, _, rfl⟩ := e1
          have fz' : (w7.drewN n).frozen? ⟨gl, 0, none⟩ = false := fz gl rfl
          have a0' : w7.cell? ⟨gl, 0, none⟩ = some (.int .u64 x0.tm) := a0
          have hgr : ∀ u, w7.grownBy ((w7.drewN n).setCell ⟨gl, 0, none⟩ u) (some gl) := fun u => ⟨rfl, rfl, rfl, (grown_setCell (w7.drewN n) ⟨gl, 0, none⟩ u).size, (grown_setCell (w7.drewN n) ⟨gl, 0, none⟩ u).block⟩
          have K12 := Lib.hid (fun u => (K11.out).kept (hgr u) (HG.out).1 (HG.out).2.2)
          have M8 := Lib.hid (fun u => (M7.out).kept (hgr u) (fun g hg e => by injection e with e; have := (HG.out).2.1; omega))
          have z8 : (0 : Int) < (j : Int) := by omega
          clear fz a0 hgr K11 L7 M7
          have K13 := Lib.hid ((K12.out) (.int .u64 (IntKind.u64.wrap ((x0.tm : Int) + 1))))
          have M13 := Lib.hid ((M8.out) (.int .u64 (IntKind.u64.wrap ((x0.tm : Int) + 1))))
          clear K12 M8
          go_wp2_with fail
          generalize (w7.drewN n).setCell ⟨gl, 0, none⟩ (.int .u64 (IntKind.u64.wrap ((x0.tm : Int) + 1))) = W8 at *
          obtain ⟨g2, c2, e2, _, hg2, d0, d1, d2⟩ := (M13.out).at HX0.out
          simp only [Value.slice.injEq, Option.some.injEq, Addr.mk.injEq, and_true] at e2
          obtain ⟨rfl, _, rfl⟩ := e2
          have d0' : W8.cell? ⟨gm, 0, none⟩ = some (.int .u64 x0.tm) := d0
          have d1' : W8.cell? ⟨gm, 1, none⟩ = some (.int .i64 ((x0.p / 3 : Nat) : Int)) := d1
          have d2' : W8.cell? ⟨gm, 2, none⟩ = some (.int .i64 ((x0.p % 3 : Nat) : Int)) := d2
          have HC : Hid (Calls Try.prog 14 #[.pointer (some ⟨B, 0, none⟩)] W8.drew (fun e w' => ∃ g9 c9, e = .returned (.slice (some ⟨g9, 0, none⟩) j c9) ∧
              (w'.cell? ⟨g9, 0, none⟩ = some (.int .u64 x0.tm) ∧ w'.cell? ⟨g9, 1, none⟩ = some (.int .i64 ((x0.p / 3 : Nat) : Int)) ∧ w'.cell? ⟨g9, 2, none⟩ = some (.int .i64 ((x0.p % 3 : Nat) : Int))) ∧
              (w'.cell? ⟨gm, 0, none⟩ = some (.int .u64 x0.tm) ∧ w'.cell? ⟨gm, 1, none⟩ = some (.int .i64 ((x0.p / 3 : Nat) : Int)) ∧ w'.cell? ⟨gm, 2, none⟩ = some (.int .i64 ((x0.p % 3 : Nat) : Int))) ∧ Below w.heap.size w w')) := Lib.hid
            ((HAL.out W8.drew B ((K13.out).below (below_draws (Below.refl _ _) 1)).m).mono (fun e w' ⟨v9, h1, h2, h3⟩ => by
              obtain ⟨g9, c9, rfl, _, _, q0, q1, q2⟩ := h2.at HX0.out
              rw [N1.out] at h1
              exact ⟨g9, c9, h1, ⟨q0, q1, q2⟩, ⟨(h3.cell (p := ⟨gm, 0, none⟩) hg2).trans d0', (h3.cell (p := ⟨gm, 1, none⟩) hg2).trans d1', (h3.cell (p := ⟨gm, 2, none⟩) hg2).trans d2'⟩,
                below_up ((K13.out).below (below_draws (Below.refl _ _) 1)).bel h3⟩))
          clear d0 d1 d2 K13 M13 hg2 HAL
          have z9 : 0 < j := by omega
          generalize x0.tm = tt at *
          generalize ((x0.p / 3 : Nat) : Int) = vv at *
          generalize ((x0.p % 3 : Nat) : Int) = ss at *
          go_region_with ((go_at_call 14; refine (HC.out).mono ?_; rintro e w9 ⟨g9, c9, rfl, ⟨q0, q1, q2⟩, ⟨y0, y1, y2⟩, hbel⟩; have HBEL := Lib.hid hbel; clear hbel))
          all_goals go_wp2
          all_goals go_ret
          all_goals exact ⟨rfl, HBEL.out⟩
end Go.Proofs.Ytfiahkjaeeoepaa
