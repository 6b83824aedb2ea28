/-
  The walk of AlarmEnds.
-/
import Derived.Test.YtfiahkjaeeoepaaAH
namespace Go.Proofs.Ytfiahkjaeeoepaa
open Go.ChangeShapes Go.WideShapes Go.ChangeAt Go.RowKit Go.Sort
set_option maxRecDepth 100000
set_option linter.unusedVariables false

/-- How many of the first k stand. -/
def cntO (on : Nat → Bool) : Nat → Nat
  | 0 => 0
  | k + 1 => cntO on k + if on k then 1 else 0
theorem len_all (on : Nat → Bool) (tm : Nat → Nat) (last : Nat) : ∀ k, (∀ p, p < k → on p = true → tm p ≤ last) → (alL on tm last k).length = cntO on k
  | 0, _ => rfl
  | k + 1, h => by
    rw [alL_succ, List.length_append, len_all on tm last k (fun p hp => h p (by omega))]
    show _ = cntO on k + _
    cases ho : on k
    · simp
    · simp [h k (by omega) ho]
theorem len_two (on : Nat → Bool) (tm : Nat → Nat) (now last : Nat) : ∀ k, (∀ p, p < k → on p = true → tm p ≤ last) →
    (alL on tm now k).length + (alL (fun p => on p && !decide (tm p ≤ now)) tm last k).length = cntO on k
  | 0, _ => rfl
  | k + 1, h => by
    have ih := len_two on tm now last k (fun p hp => h p (by omega))
    rw [alL_succ, alL_succ, List.length_append, List.length_append]
    show _ = cntO on k + _
    cases ho : on k
    · simp; omega
    · have hl := h k (by omega) ho
      by_cases hn : tm k ≤ now
      · simp [hn]; omega
      · simp [hn, hl]; omega
def invE (p : Nat) : Nat := p % 3 * 6 + p / 3
def onE (k : Nat) : Nat → Bool := fun p => decide (invE p < k)
def tmE (f : Nat → Nat) : Nat → Nat := fun p => f (invE p)
theorem cntE : ∀ n, n ≤ 18 → cntO (onE n) 18 = n := by
  have h : ∀ n < 19, cntO (onE n) 18 = n := by decide +kernel
  exact fun n hn => h n (by omega)
theorem invE_at (k : Nat) (hk : k < 18) : invE (k % 6 * 3 + k / 6) = k := by
  have h : ∀ k < 18, invE (k % 6 * 3 + k / 6) = k := by decide +kernel
  exact h k hk
theorem invE_inj (p q : Nat) (hp : p < 18) (hq : q < 18) (h : invE p = invE q) : p = q := by
  have h' : ∀ p < 18, ∀ q < 18, invE p = invE q → p = q := by decide +kernel
  exact h' p hp q hq h
theorem ends_out (a : Option Addr) (len cap now : Nat) (h : 18 < len) (w : World) :
    Calls Try.prog 6 #[.slice a len cap, .int .u64 now] w fun e w' => e = .returned (.bool true) ∧ Below w.heap.size w w' := by
  have HA := Lib.hid (fun U => awake10_in U)
  have z2 : (18 : Int) < (len : Int) := by omega
  clear h
  go_enter Try.func6, Try.ntmps6
  go_wp2_with fail
  refine (HA.out _).mono ?_
  rintro e w1 ⟨rfl, b1⟩
  have B1 := Lib.hid b1
  clear b1
  go_wp2_with fail
  refine (HA.out _).mono ?_
  rintro e w2 ⟨rfl, b2⟩
  have B2 := Lib.hid (below_up B1.out b2)
  clear b2
  go_wp2
  go_ret
  exact ⟨rfl, B2.out⟩
set_option maxHeartbeats 2000000 in
theorem ends_in (a : Option Addr) (len cap now : Nat) (h18 : len ≤ 18) (hnow : now < 18446744073709551616) (f : Nat → Nat) (hf : ∀ i, f i < 18446744073709551616) (w : World) (ha : W64At w a len f) :
    Calls Try.prog 6 #[.slice a len cap, .int .u64 now] w fun e w' => e = .returned (.bool true) ∧ Below w.heap.size w w' := by
  have HA := Lib.hid (awake10_in w)
  have HF := Lib.hid hf
  have HW := Lib.hid ha
  have z2 : ¬ (18 : Int) < (len : Int) := by omega
  clear hf ha
  go_enter Try.func6, Try.ntmps6
  go_wp2_with fail
  refine (HA.out).mono ?_
  rintro e w1 ⟨rfl, b1⟩
  have k0 := kw_new b1
  have K0 : Hid (Kw w (w1.alloc (.cells zeroK 31)) w1.heap.size (onE 0) (tmE f)) := Lib.hid ⟨k0.m.congr (fun p _ => ⟨rfl, fun h => by cases h⟩), k0.lb, k0.bel⟩
  clear b1 HA k0
  go_wp2_with (refine wpList_bdK rfl rfl ?_)
  go_loopw [6] (fun i wr => ∃ k : Nat, k ≤ len ∧ i = .int .i64 k ∧ Kw w wr w1.heap.size (onE k) (tmE f)) (fun i _ => len - (intOf i).toNat)
  case atStart => exact ⟨0, by omega, rfl, K0.out⟩
  case round =>
    clear K0
    obtain ⟨k, hk, rfl, hK⟩ := hrel
    by_cases hlt : k < len
    · obtain ⟨b, off, rfl, hbl, hc⟩ := ((HW.out).kept hK.bel) k hlt
      have hfk := (HF.out) k
      have e1 : ((k : Int) % 6) = ((k % 6 : Nat) : Int) := by omega
      have e2 : ((k : Int) / 6) = ((k / 6 : Nat) : Int) := by omega
      have e3 : ((k : Int).tmod 6) = ((k % 6 : Nat) : Int) := (Int.ofNat_tmod k 6).symm
      have e4 : ((k : Int).tdiv 6) = ((k / 6 : Nat) : Int) := by rw [Int.tdiv_eq_ediv_of_nonneg (by omega)]; exact e2
      have hv : k % 6 < 6 := Nat.mod_lt _ (by omega)
      have hs : k / 6 < 3 := by omega
      have HS : Hid (Calls Try.prog 13 #[.pointer (some ⟨w1.heap.size, 0, none⟩), .int .i64 (k % 6 : Nat), .int .i64 (k / 6 : Nat), .int .u64 (f k : Nat)] wr fun e w' => e = .returned (.int .i64 0) ∧ Mt wr w' w1.heap.size (onE (k + 1)) (tmE f)) :=
        Lib.hid ((mset_yes hK.m (k % 6) (k / 6) hv hs (f k) hfk).mono (fun e w' ⟨he, h3⟩ => ⟨he, ⟨h3.m.congr (fun p hp => by
          have hi := invE_at k (by omega)
          by_cases e : p = k % 6 * 3 + k / 6
          · rw [e, upd_same, upd_same]
            unfold onE tmE
            rw [hi]
            exact ⟨by simp, fun _ => rfl⟩
          · rw [upd_other _ _ _ _ e, upd_other _ _ _ _ e]
            have hne : invE p ≠ k := fun h => e (invE_inj p _ hp (by omega) (h.trans hi.symm))
            unfold onE
            exact ⟨by congr 1; apply propext; omega, fun _ => rfl⟩), h3.gr⟩⟩))
      have HK := Lib.hid hK
      clear hK
      generalize f k = x at *
      generalize hq6 : k % 6 = q6 at *
      generalize hq3 : k / 6 = q3 at *
      clear hq6 hq3
      go_wp2_with fail
      refine (HS.out).mono ?_
      rintro e w3 ⟨rfl, h3⟩
      have K3 := Lib.hid ((HK.out).turn h3)
      clear h3 HS HK hc
      go_wp2
      go_roundw
      case rel => exact ⟨k + 1, by omega, by go_num, K3.out⟩
      case measure => simp [intOf]; omega
    · obtain rfl : k = len := by omega
      have hbd : ∀ p, p < 18 → onE k p = true → tmE f p ≤ maxT := fun p _ _ => by have := HF.out (invE p); unfold tmE maxT; omega
      have hcn := cntE k h18
      have hl2 := len_two (onE k) (tmE f) now maxT 18 hbd
      rw [← up_len, ← up_len, hcn] at hl2
      have HU2 := Lib.hid (up_mem (fun p => onE k p && !decide (tmE f p ≤ now)) (tmE f) maxT)
      have hno : upL (fun p => (onE k p && !decide (tmE f p ≤ now)) && !decide (tmE f p ≤ maxT)) (tmE f) maxT = [] := once_none _ _ _ (fun q hq => by
        cases ho : onE k q
        · rfl
        · simp [hbd q hq ho])
      have H1 := Lib.hid (due_in hK.m now)
      have H2 := Lib.hid (fun U (h : Mk U w1.heap.size (fun p => onE k p && !decide (tmE f p ≤ now)) (tmE f)) => show Calls Try.prog 11 #[.pointer (some ⟨w1.heap.size, 0, none⟩), .int .u64 18446744073709551615] U (Dt U w1.heap.size (fun p => onE k p && !decide (tmE f p ≤ now)) (tmE f) maxT) from due_in h maxT)
      have H3 := Lib.hid (fun U (h : Mk U w1.heap.size (fun p => (onE k p && !decide (tmE f p ≤ now)) && !decide (tmE f p ≤ maxT)) (tmE f)) => all_in h)
      rw [hno] at H3
      unfold Dt at H1 H2
      have HK := Lib.hid hK
      clear hK hno hcn hbd
      generalize upL (onE k) (tmE f) now = LA1 at *
      generalize hL2 : upL (fun p => onE k p && !decide (tmE f p ≤ now)) (tmE f) maxT = LA2 at *
      clear hL2
      obtain ⟨n1, hn1⟩ : ∃ n, LA1.length = n := ⟨_, rfl⟩
      obtain ⟨n2, hn2⟩ : ∃ n, LA2.length = n := ⟨_, rfl⟩
      rw [hn1, hn2] at hl2
      have N1 := Lib.hid hn1
      have N2 := Lib.hid hn2
      clear hn1 hn2
      go_wp2_with fail
      refine (H1.out).mono ?_
      rintro e w3 ⟨v3, rfl, l3, h3⟩
      have K3 := Lib.hid ((HK.out).turn h3)
      obtain ⟨p3, c3, rfl⟩ := l3.len
      rw [N1.out]
      clear l3 h3 HK H1
      go_wp2_with fail
      refine (H2.out _ (K3.out).m).mono ?_
      rintro e w4 ⟨v4, rfl, l4, h4⟩
      have K4 := Lib.hid ((K3.out).turn h4)
      obtain ⟨p4, c4, rfl⟩ := l4.len
      rw [N2.out] at l4 ⊢
      have L4 := Lib.hid l4
      clear l4 h4 K3 H2
      go_wp2_with fail
      go_loopw [4, 9] (fun _ i wr => ∃ j : Nat, j ≤ n2 ∧ i = .int .i64 j ∧ wr = w4) (fun _ i _ => n2 - (intOf i).toNat)
      case atStart => exact ⟨0, by omega, rfl, rfl⟩
      case round =>
        obtain ⟨j, hj, rfl, rfl⟩ := hrel
        by_cases hlj : j < n2
        · obtain ⟨x, hx⟩ : ∃ x, LA2[j]? = some x := ⟨_, List.getElem?_eq_getElem (by have := N2.out; omega)⟩
          have hm := (HU2.out x).1 (List.mem_of_getElem? hx)
          have hgt : ¬ x.tm ≤ now := by
            have h1 := hm.2.1
            simp only [Bool.and_eq_true, Bool.not_eq_true', decide_eq_false_iff_not] at h1
            rw [hm.2.2.2]; exact h1.2
          obtain ⟨g, c5, e5, _, _, d0, d1, d2⟩ := (L4.out).at hx
          simp only [Value.slice.injEq] at e5
          obtain ⟨rfl, _, rfl⟩ := e5
          have z5 : ¬ (x.tm : Int) ≤ (now : Int) := by omega
          clear hm hgt hx d1 d2
          generalize x.tm = t at *
          go_wp2
          go_roundw
          case rel => exact ⟨j + 1, by omega, by go_num, by trivial⟩
          case measure => simp [intOf]; omega
        · obtain rfl : j = n2 := by omega
          have z6 : (n1 : Int) + (j : Int) = (k : Int) := by omega
          clear L4
          go_wp2_with fail
          refine (H3.out _ (K4.out).m).mono ?_
          rintro e w6 ⟨v6, rfl, l6, h6⟩
          obtain ⟨p6, c6, rfl⟩ := l6.len
          have K6 := Lib.hid ((K4.out).below h6)
          clear l6 h6 K4 H3
          go_wp2
          go_ret
          exact ⟨rfl, (K6.out).bel⟩
end Go.Proofs.Ytfiahkjaeeoepaa
