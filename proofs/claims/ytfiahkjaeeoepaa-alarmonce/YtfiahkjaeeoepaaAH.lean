/-
  Words that came in; the walk of AlarmOnce.
-/
import Derived.Test.YtfiahkjaeeoepaaAG
namespace Go.Proofs.Ytfiahkjaeeoepaa
open Go.ChangeShapes Go.WideShapes Go.ChangeAt Go.RowKit Go.Sort
set_option maxRecDepth 100000
set_option linter.unusedVariables false

theorem of_u64 {a : Int} (h : (Lit.int .u64 a).wf = true) : ∃ n : Nat, a = n ∧ n < 18446744073709551616 := by
  simp only [Lit.wf, IntKind.min, IntKind.max, IntKind.signed, IntKind.bits, Bool.and_eq_true] at h
  simp at h
  exact ⟨a.toNat, by omega, by omega⟩
/-- The slice's words, as far as its length goes. -/
def W64At (w : World) (a : Option Addr) (len : Nat) (x : Nat → Nat) : Prop := ∀ i, i < len → ∃ b off, a = some ⟨b, off, none⟩ ∧ b < w.heap.size ∧ w.cell? ⟨b, off + i, none⟩ = some (.int .u64 (x i : Nat))
theorem W64At.kept {w w' : World} {a : Option Addr} {len : Nat} {x : Nat → Nat} (h : W64At w a len x) (hb : Below w.heap.size w w') : W64At w' a len x := fun i hi => by
  obtain ⟨b, off, ha, hl, hc⟩ := h i hi
  exact ⟨b, off, ha, by have := hb.size; omega, (hb.cell hl).trans hc⟩
theorem alL_single {on : Nat → Bool} {tm : Nat → Nat} (p : Nat) (hn : ∀ q, q < 18 → q ≠ p → on q = false) (hp : on p = true) (last : Nat) : ∀ k, k ≤ 18 → alL on tm last k = if p < k ∧ tm p ≤ last then [⟨tm p, p⟩] else []
  | 0, _ => by rw [if_neg (by omega)]; rfl
  | k + 1, hk => by
    rw [alL_succ, alL_single p hn hp last k (by omega)]
    by_cases e : k = p
    · subst e
      rw [hp]
      by_cases h : tm k ≤ last
      · simp [h]
      · simp [h]
    · rw [hn k (by omega) e]
      simp only [Bool.false_and, Bool.false_eq_true, if_false, List.append_nil]
      by_cases h : p < k ∧ tm p ≤ last
      · rw [if_pos h, if_pos ⟨by omega, h.2⟩]
      · rw [if_neg h, if_neg (by omega)]
theorem alL_none {on : Nat → Bool} {tm : Nat → Nat} (last : Nat) : ∀ k, (∀ q, q < k → (on q && decide (tm q ≤ last)) = false) → alL on tm last k = []
  | 0, _ => rfl
  | k + 1, h => by rw [alL_succ, alL_none last k (fun q hq => h q (by omega)), h k (by omega)]; rfl
/-- One seat's alarm. -/
def onO (p k : Nat) : Nat → Bool := if k = 0 then off0 else upd off0 p true
def tmO (p : Nat) (f : Nat → Nat) (k : Nat) : Nat → Nat := if k = 0 then tm0 else upd tm0 p (f (k - 1))
theorem upd_upd {α : Type} (f : Nat → α) (p : Nat) (a b : α) : upd (upd f p a) p b = upd f p b := by
  funext i; unfold upd; split <;> rfl
theorem onO_succ (p k : Nat) : upd (onO p k) p true = onO p (k + 1) := by
  unfold onO
  rw [if_neg (by omega : ¬ k + 1 = 0)]
  split
  · rfl
  · exact upd_upd _ _ _ _
theorem tmO_succ (p k : Nat) (f : Nat → Nat) : upd (tmO p f k) p (f k) = tmO p f (k + 1) := by
  unfold tmO
  rw [if_neg (by omega : ¬ k + 1 = 0), Nat.add_sub_cancel]
  split
  · rfl
  · exact upd_upd _ _ _ _
theorem once_early (on : Nat → Bool) (tm : Nat → Nat) (p last : Nat) (hn : ∀ q, q < 18 → q ≠ p → on q = false) (ht : last < tm p) : upL on tm last = [] :=
  up_nil (alL_none last 18 (fun q hq => by
    by_cases e : q = p
    · subst e; simp; omega
    · rw [hn q hq e]; rfl))
theorem once_due (on : Nat → Bool) (tm : Nat → Nat) (p last : Nat) (hp : p < 18) (hn : ∀ q, q < 18 → q ≠ p → on q = false) (ho : on p = true) (ht : tm p ≤ last) : upL on tm last = [⟨tm p, p⟩] :=
  up_one (by rw [alL_single p hn ho last 18 (Nat.le_refl _), if_pos ⟨hp, ht⟩])
theorem once_none (on : Nat → Bool) (tm : Nat → Nat) (last : Nat) (hn : ∀ q, q < 18 → on q = false) : upL on tm last = [] :=
  up_nil (alL_none last 18 (fun q hq => by rw [hn q hq]; rfl))
theorem once_out (a : Option Addr) (len cap vm seat : Nat) (h : len = 0 ∨ 30 < len) (w : World) :
    Calls Try.prog 7 #[.int .u8 vm, .int .u8 seat, .slice a len cap] w fun e w' => e = .returned (.bool true) ∧ Below w.heap.size w w' := by
  have HA := Lib.hid (fun U => awake10_in U)
  by_cases h0 : len = 0
  · subst h0
    clear h
    go_enter Try.func7, Try.ntmps7
    go_wp2_with fail
    refine (HA.out _).mono ?_
    rintro e w1 ⟨rfl, b1⟩
    have B1 := Lib.hid b1
    clear b1
    go_wp2_with fail
    refine (HA.out _).mono ?_
    rintro e w2 ⟨rfl, b2⟩
    have B2 := Lib.hid (below_up B1.out b2)
    clear b2
    go_wp2
    go_ret
    exact ⟨rfl, B2.out⟩
  · have z1 : ((len : Int) == 0) = false := by simp; omega
    have z2 : (30 : Int) < (len : Int) := by omega
    clear h h0
    go_enter Try.func7, Try.ntmps7
    go_wp2_with fail
    refine (HA.out _).mono ?_
    rintro e w1 ⟨rfl, b1⟩
    have B1 := Lib.hid b1
    clear b1
    go_wp2_with fail
    refine (HA.out _).mono ?_
    rintro e w2 ⟨rfl, b2⟩
    have B2 := Lib.hid (below_up B1.out b2)
    clear b2
    go_wp2
    go_ret
    exact ⟨rfl, B2.out⟩
set_option maxHeartbeats 2000000 in
theorem once_in (a : Option Addr) (len cap vm seat : Nat) (h1 : 1 ≤ len) (h30 : len ≤ 30) (f : Nat → Nat) (hf : ∀ i, f i < 18446744073709551616) (w : World) (ha : W64At w a len f) :
    Calls Try.prog 7 #[.int .u8 vm, .int .u8 seat, .slice a len cap] w fun e w' => e = .returned (.bool true) ∧ Below w.heap.size w w' := by
  have HA := Lib.hid (awake10_in w)
  have HF := Lib.hid hf
  have HW := Lib.hid ha
  have z1 : ((len : Int) == 0) = false := by simp; omega
  have z2 : ¬ (30 : Int) < (len : Int) := by omega
  have e1 : ((vm : Int) % 6) = ((vm % 6 : Nat) : Int) := by omega
  have e2 : ((seat : Int) % 3) = ((seat % 3 : Nat) : Int) := by omega
  have hv : vm % 6 < 6 := Nat.mod_lt _ (by omega)
  have hs : seat % 3 < 3 := Nat.mod_lt _ (by omega)
  clear hf ha
  generalize vm % 6 = v at *
  generalize seat % 3 = s at *
  go_enter Try.func7, Try.ntmps7
  go_wp2_with fail
  refine (HA.out).mono ?_
  rintro e w1 ⟨rfl, b1⟩
  have K0 := Lib.hid (kw_new b1)
  clear b1 HA
  go_wp2_with (refine wpList_bdK rfl rfl ?_)
  clear e1 e2
  go_loopw [10] (fun i wr => ∃ k : Nat, k ≤ len ∧ i = .int .i64 k ∧ Kw w wr w1.heap.size (onO (v * 3 + s) k) (tmO (v * 3 + s) f k)) (fun i _ => len - (intOf i).toNat)
  case atStart => exact ⟨0, by omega, rfl, K0.out⟩
  case round =>
    clear K0
    obtain ⟨k, hk, rfl, hK⟩ := hrel
    by_cases hlt : k < len
    · obtain ⟨b, off, rfl, hbl, hc⟩ := ((HW.out).kept hK.bel) k hlt
      have hfk := (HF.out) k
      have HS := Lib.hid (mset_yes hK.m v s hv hs (f k) hfk)
      rw [onO_succ, tmO_succ] at HS
      have HK := Lib.hid hK
      clear hK
      generalize f k = x at *
      go_wp2_with fail
      refine (HS.out).mono ?_
      rintro e w3 ⟨rfl, h3⟩
      have K3 := Lib.hid ((HK.out).turn h3)
      clear h3 HS HK hc
      go_wp2
      go_roundw
      case rel => exact ⟨k + 1, by omega, by go_num, K3.out⟩
      case measure => simp [intOf]; omega
    · obtain rfl : k = len := by omega
      obtain ⟨m, rfl⟩ : ∃ m, k = m + 1 := ⟨k - 1, by omega⟩
      obtain ⟨b, off, rfl, hbl, hc⟩ := ((HW.out).kept hK.bel) m (by omega)
      have hp : v * 3 + s < 18 := by omega
      have ho : onO (v * 3 + s) (m + 1) (v * 3 + s) = true := by unfold onO; rw [if_neg (by omega), upd_same]
      have hn : ∀ q, q < 18 → q ≠ v * 3 + s → onO (v * 3 + s) (m + 1) q = false := fun q _ e => by unfold onO; rw [if_neg (by omega), upd_other _ _ _ _ e]; rfl
      have ht : tmO (v * 3 + s) f (m + 1) (v * 3 + s) = f m := by unfold tmO; rw [if_neg (by omega), upd_same]; rfl
      have hfm := (HF.out) m
      generalize onO (v * 3 + s) (m + 1) = on at *
      generalize tmO (v * 3 + s) f (m + 1) = tm at *
      generalize f m = t at *
      have HL : Hid (∀ U, Mk U w1.heap.size on tm → Calls Try.prog 11 #[.pointer (some ⟨w1.heap.size, 0, none⟩), .int .u64 t] U (fun e w' => ∃ v', e = .returned v' ∧ LsA w' U.heap.size v' [⟨t, v * 3 + s⟩] ∧ Mt U w' w1.heap.size off0 tm)) := Lib.hid (fun U hU =>
        (due_in hU t).mono (fun e w' ⟨v', h1, h2, h3⟩ => ⟨v', h1, by
          rw [once_due on tm (v * 3 + s) t hp hn ho (by omega), ht] at h2; exact h2, ⟨h3.m.congr (fun p hp' => ⟨by
            by_cases e : p = v * 3 + s
            · subst e; simp [ho, ht, off0]
            · rw [hn p hp' e]; rfl, fun _ => rfl⟩), h3.gr⟩⟩))
      have HE : Hid (∀ U, Mk U w1.heap.size off0 tm → Calls Try.prog 11 #[.pointer (some ⟨w1.heap.size, 0, none⟩), .int .u64 18446744073709551615] U (fun e w' => ∃ v', e = .returned v' ∧ LsA w' U.heap.size v' [] ∧ Mt U w' w1.heap.size off0 tm)) := Lib.hid (fun U hU =>
        (show Calls Try.prog 11 #[.pointer (some ⟨w1.heap.size, 0, none⟩), .int .u64 18446744073709551615] U (Dt U w1.heap.size off0 tm 18446744073709551615) from due_in hU 18446744073709551615).mono (fun e w' ⟨v', h1, h2, h3⟩ => ⟨v', h1, by
          rw [once_none off0 tm _ (fun _ _ => rfl)] at h2; exact h2, ⟨h3.m.congr (fun p hp' => ⟨rfl, fun h => by cases h⟩), h3.gr⟩⟩))
      have evs : (v * 3 + s) / 3 = v ∧ (v * 3 + s) % 3 = s := by omega
      have EVS := Lib.hid evs
      by_cases h0 : 0 < t
      · have z3 : (0 : Int) < (t : Int) := by omega
        have HN : Hid (∀ U, Mk U w1.heap.size on tm → Calls Try.prog 11 #[.pointer (some ⟨w1.heap.size, 0, none⟩), .int .u64 ((t : Int) - 1)] U (fun e w' => ∃ v', e = .returned v' ∧ LsA w' U.heap.size v' [] ∧ Mt U w' w1.heap.size on tm)) := Lib.hid (fun U hU => by
          rw [show ((t : Int) - 1) = ((t - 1 : Nat) : Int) by omega]
          exact (due_in hU (t - 1)).mono (fun e w' ⟨v', h1, h2, h3⟩ => ⟨v', h1, by
            rw [once_early on tm (v * 3 + s) (t - 1) hn (by omega)] at h2; exact h2, ⟨h3.m.congr (fun p hp' => ⟨by
              by_cases e : p = v * 3 + s
              · subst e; simp [ho, ht]; omega
              · rw [hn p hp' e]; rfl, fun _ => rfl⟩), h3.gr⟩⟩))
        have HK := Lib.hid hK
        clear hK ho hn ht hp evs h0
        go_wp2_with fail
        refine (HN.out _ (HK.out).m).mono ?_
        rintro e w3 ⟨v3, rfl, l3, h3⟩
        obtain ⟨p3, c3, rfl⟩ := l3.len
        have K3 := Lib.hid ((HK.out).turn h3)
        clear h3 l3 HK HN
        go_wp2_with fail
        refine (HL.out _ (K3.out).m).mono ?_
        rintro e w4 ⟨v4, rfl, l4, h4⟩
        have K4 := Lib.hid ((K3.out).turn h4)
        obtain ⟨g, c4, rfl, _, _, d0, d1, d2⟩ := l4.at (i := 0) (x := ⟨t, v * 3 + s⟩) rfl
        rw [(EVS.out).1] at d1
        rw [(EVS.out).2] at d2
        have d0' : w4.cell? ⟨g, 0, none⟩ = some (.int .u64 t) := d0
        have d1' : w4.cell? ⟨g, 1, none⟩ = some (.int .i64 v) := d1
        have d2' : w4.cell? ⟨g, 2, none⟩ = some (.int .i64 s) := d2
        clear h4 l4 d0 d1 d2 HL K3
        go_wp2_with fail
        refine (HE.out _ (K4.out).m).mono ?_
        rintro e w5 ⟨v5, rfl, l5, h5⟩
        obtain ⟨p5, c5, rfl⟩ := l5.len
        have K5 := Lib.hid ((K4.out).turn h5)
        clear h5 l5 HE K4 d0' d1' d2'
        go_wp2
        go_ret
        exact ⟨rfl, (K5.out).bel⟩
      · have z3 : ¬ (0 : Int) < (t : Int) := by omega
        have HK := Lib.hid hK
        clear hK ho hn ht hp evs h0
        go_wp2_with fail
        refine (HL.out _ (HK.out).m).mono ?_
        rintro e w4 ⟨v4, rfl, l4, h4⟩
        have K4 := Lib.hid ((HK.out).turn h4)
        obtain ⟨g, c4, rfl, _, _, d0, d1, d2⟩ := l4.at (i := 0) (x := ⟨t, v * 3 + s⟩) rfl
        rw [(EVS.out).1] at d1
        rw [(EVS.out).2] at d2
        have d0' : w4.cell? ⟨g, 0, none⟩ = some (.int .u64 t) := d0
        have d1' : w4.cell? ⟨g, 1, none⟩ = some (.int .i64 v) := d1
        have d2' : w4.cell? ⟨g, 2, none⟩ = some (.int .i64 s) := d2
        clear h4 l4 d0 d1 d2 HL HK
        go_wp2_with fail
        refine (HE.out _ (K4.out).m).mono ?_
        rintro e w5 ⟨v5, rfl, l5, h5⟩
        obtain ⟨p5, c5, rfl⟩ := l5.len
        have K5 := Lib.hid ((K4.out).turn h5)
        clear h5 l5 HE K4 d0' d1' d2'
        go_wp2
        go_ret
        exact ⟨rfl, (K5.out).bel⟩
end Go.Proofs.Ytfiahkjaeeoepaa
