/-
  The walk of SeatApart.
-/
import Derived.Test.YtjhiapailgbmkaaYK
namespace Go.Proofs.Ytjhiapailgbmkaa
open Go.ChangeShapes Go.WideShapes Go.ChangeAt Go.RowKit
set_option maxRecDepth 100000
set_option linter.unusedVariables false

def allF (s t : SV) (k : Nat) : Bool := (List.range k).all fun i => wordF s i == wordF t i
theorem allF_next (s t : SV) (k : Nat) : allF s t (k + 1) = (allF s t k && (wordF s k == wordF t k)) := by simp [allF, List.range_succ]
theorem allF_no (s t : SV) (k : Nat) (hk : k ≤ 26) (h : allF s t k = false) : allF s t 26 = false := by
  have h2 : ∀ m, allF s t (k + m) = false := by
    intro m
    induction m with
    | zero => exact h
    | succ m ih => rw [← Nat.add_assoc, allF_next, ih]; rfl
  have h3 := h2 (26 - k)
  rwa [show k + (26 - k) = 26 by omega] at h3
/-- What stands in SeatApart's loop. -/
structure SA (w wr : World) (s t : SV) (B C g h : Nat) : Prop where
  a : ∀ j, j < 26 → wr.cell? ⟨g, j, none⟩ = some (.int .u64 (wordF s j : Nat))
  b : ∀ j, j < 26 → wr.cell? ⟨h, j, none⟩ = some (.int .u64 (wordF t j : Nat))
  o : Ow2 w wr B C s t
theorem SA.drawn {w wr : World} {s t : SV} {B C g h : Nat} (k : SA w wr s t B C g h) (n : Nat) : SA w (wr.drewN n) s t B C g h := ⟨k.a, k.b, k.o.drawn n⟩
theorem ow2_boxes (w : World) (s t : SV) : Ow2 w ((w.alloc (.cells s.cells 26)).alloc (.cells t.cells 26)) w.heap.size (w.heap.size + 1) s t := by
  have h := ow_box w s
  have e : (w.alloc (.cells s.cells 26)).heap.size = w.heap.size + 1 := by simp
  refine ⟨h.below (below_new _ _), ⟨?_, by omega, below_more h.bel _⟩, by omega⟩
  have h2 := ls_new (w.alloc (.cells s.cells 26)) t
  rwa [e] at h2
theorem Ow2.putA {w w1 : World} {B C : Nat} {s t : SV} (h : Ow2 w w1 B C s t) (s' : SV) : Ow2 w (w1.setRow B s'.cells) B C s' t := h.turnA ⟨h.a.ls.put s', grown_setRowS _ _ _⟩
theorem Ow2.putB {w w1 : World} {B C : Nat} {s t : SV} (h : Ow2 w w1 B C s t) (t' : SV) : Ow2 w (w1.setRow C t'.cells) B C s t' := h.turnB ⟨h.b.ls.put t', grown_setRowS _ _ _⟩
set_option maxHeartbeats 2000000 in
theorem apart_other (S1 S2 : SV) (h1 : (nearV S1).ok) (h2 : (nearV S2).ok) (w : World) : Calls Try.prog 7 #[S1.agg, S2.agg, .bool false] w fun e w' => e = .returned (.bool true) ∧ Below w.heap.size w w' := by
  have HZ := zeroS_run
  have HN1 := Lib.hid (near_in S1)
  have HN2 := Lib.hid (near_in S2)
  have O0 := Lib.hid (ow2_boxes w S1 S2)
  have HA := Lib.hid awake11_in
  have HT := Lib.hid (trap_nil 1 1)
  have HK := Lib.hid back_nil
  have HX := Lib.hid (set_nil 0 0)
  generalize nearV S1 = T at *
  generalize nearV S2 = R at *
  have HP1 := Lib.hid (pack_words T h1)
  have HP2 := Lib.hid (pack_words R h2)
  have HSM : Hid (sameB T R = allF T R 26) := Lib.hid (same_words T R h1 h2)
  clear h1 h2
  unfold SV.agg at *
  go_enter Try.func7, Try.ntmps7
  go_wp2_with (refine wpList_ldS rfl (.tmp 3) rfl w.heap.size rfl S1 (O0.out).a.ls ?_; unfold SV.agg)
  refine (HN1.out _).mono ?_
  rintro e w1 ⟨rfl, b1⟩
  have O1 := Lib.hid ((O0.out).below b1)
  have O2 := Lib.hid ((O1.out).putA T)
  clear b1 HN1 O0
  go_wp2_with (first
    | (refine wpList_stS rfl (.tmp 3) (.tmp 13) rfl w.heap.size rfl S1 T rfl (O1.out).a.ls ?_)
    | (refine wpList_ldS rfl (.tmp 4) rfl (w.heap.size + 1) rfl S2 (O2.out).b.ls ?_; unfold SV.agg))
  refine (HN2.out _).mono ?_
  rintro e w2 ⟨rfl, b2⟩
  have O3 := Lib.hid ((O2.out).below b2)
  have O4 := Lib.hid ((O3.out).putB R)
  have O5 := O4
  clear b2 HN2 O2 O1 O4
  go_wp2_with (first
    | (refine wpList_stS rfl (.tmp 4) (.tmp 15) rfl (w.heap.size + 1) rfl S2 R rfl (O3.out).b.ls ?_)
    | (refine wpList_ldS rfl (.tmp 3) rfl w.heap.size rfl T (O5.out).a.ls ?_; unfold SV.agg))
  refine (HP1.out _).mono ?_
  rintro e w3 ⟨v, rfl, k3, b3⟩
  have K3 := Lib.hid k3
  obtain ⟨g, cap, rfl, _⟩ := k3
  have O6 := Lib.hid ((O5.out).below b3)
  clear b3 O5 O3 HP1
  go_wp2_with (refine wpList_ldS rfl (.tmp 4) rfl (w.heap.size + 1) rfl R (O6.out).b.ls ?_; unfold SV.agg)
  refine (HP2.out _).mono ?_
  rintro e w4 ⟨v, rfl, k4, b4⟩
  obtain ⟨g4, cap4, rfl, _, _, hc4, _⟩ := k4
  have k3' := (K3.out).below b4
  have O7 := Lib.hid ((O6.out).below b4)
  obtain ⟨g3, cap3, he, h31, h32, hc3, h34⟩ := k3'
  injection he with he1 _ he2
  injection he1 with he1
  injection he1 with he1
  subst he1 he2
  have SAX : Hid (SA w w4 T R w.heap.size (w.heap.size + 1) g g4) := Lib.hid ⟨hc3, hc4, O7.out⟩
  clear h31 h32 hc3 h34 hc4 b4 K3 O6 O7 HP2
  go_wp2_with fail
  go_loopw [9, 10] (fun q i wr => ∃ (k : Nat) (z : Bool), k ≤ 26 ∧ i = .int .i64 k ∧ q = .bool z ∧ z = allF T R k ∧ SA w wr T R w.heap.size (w.heap.size + 1) g g4) (fun _ i _ => 26 - (intOf i).toNat)
  case atStart => exact ⟨0, true, by omega, rfl, rfl, rfl, SAX.out⟩
  case round =>
    obtain ⟨k, z, hk, rfl, rfl, hz, hR⟩ := hrel
    have HQ := Lib.hid hR
    have HZF := Lib.hid hz
    clear hR SAX hz
    by_cases hlt : z = true ∧ k < 26
    · obtain ⟨rfl, hlt⟩ := hlt
      have kk : (k : Int) < 26 := by omega
      have c1 := (HQ.out).a k hlt
      have c2 := (HQ.out).b k hlt
      have HE : Hid ((((wordF T k : Nat) : Int) == ((wordF R k : Nat) : Int)) = allF T R (k + 1)) := Lib.hid (by rw [allF_next, ← HZF.out, beq_cast]; rfl)
      obtain ⟨x1, hx1⟩ : ∃ x1, wordF T k = x1 := ⟨_, rfl⟩
      obtain ⟨x2, hx2⟩ : ∃ x2, wordF R k = x2 := ⟨_, rfl⟩
      rw [hx1] at c1 HE
      rw [hx2] at c2 HE
      clear hx1 hx2
      go_wp2_with fail
      go_quiet (fail)
      have HQ2 := Lib.hid ((HQ.out).drawn nq)
      clear HQ c1 c2
      go_wp2
      go_roundw
      case rel => exact ⟨k + 1, _, by omega, by go_num, rfl, HE.out, HQ2.out⟩
      case measure => simp [intOf]; omega
    · have HF : Hid (sameB T R = z) := Lib.hid (by
        rw [HSM.out]
        cases z with
        | false => exact allF_no T R k hk (HZF.out).symm
        | true =>
          obtain rfl : k = 26 := by
            have : ¬ k < 26 := fun h => hlt ⟨rfl, h⟩
            omega
          exact (HZF.out).symm)
      have kz : z = true → ¬ (k : Int) < 26 := fun h h2 => hlt ⟨h, by omega⟩
      clear hlt HSM
      cases z with
      | true =>
        have kk := kz rfl
        clear kz
        go_wp2_with fail
        refine (HT.out _).mono ?_
        rintro e w5 ⟨rfl, rfl⟩
        go_wp2_with fail
        refine (HK.out _).mono ?_
        rintro e w5 ⟨rfl, rfl⟩
        go_wp2_with fail
        refine (HA.out _).mono ?_
        rintro e w5 ⟨rfl, b5⟩
        have O8 := Lib.hid ((HQ.out).o.below b5)
        clear b5 HQ
        go_wp2_with (first
          | (refine wpList_ldS rfl (.tmp 3) rfl w.heap.size rfl T (O8.out).a.ls ?_)
          | (refine wpList_ldS rfl (.tmp 4) rfl (w.heap.size + 1) rfl R (O8.out).b.ls ?_)
          | (refine wpList_eqS2 rfl (.tmp 52) (.tmp 53) rfl T R rfl rfl ?_; rw [HF.out]))
        refine (HX.out _).mono ?_
        rintro e w6 ⟨rfl, rfl⟩
        go_wp2
        go_ret
        exact ⟨rfl, (O8.out).a.bel⟩
      | false =>
        clear kz
        go_wp2_with fail
        refine (HT.out _).mono ?_
        rintro e w5 ⟨rfl, rfl⟩
        go_wp2_with fail
        refine (HK.out _).mono ?_
        rintro e w5 ⟨rfl, rfl⟩
        go_wp2_with fail
        refine (HA.out _).mono ?_
        rintro e w5 ⟨rfl, b5⟩
        have O8 := Lib.hid ((HQ.out).o.below b5)
        clear b5 HQ
        go_wp2_with (first
          | (refine wpList_ldS rfl (.tmp 3) rfl w.heap.size rfl T (O8.out).a.ls ?_)
          | (refine wpList_ldS rfl (.tmp 4) rfl (w.heap.size + 1) rfl R (O8.out).b.ls ?_)
          | (refine wpList_eqS2 rfl (.tmp 52) (.tmp 53) rfl T R rfl rfl ?_; rw [HF.out]))
        refine (HX.out _).mono ?_
        rintro e w6 ⟨rfl, rfl⟩
        go_wp2
        go_ret
        exact ⟨rfl, (O8.out).a.bel⟩
set_option maxHeartbeats 2000000 in
theorem apart_same (S1 S2 : SV) (h1 : (nearV S1).ok) (h2 : (nearV S2).ok) (w : World) : Calls Try.prog 7 #[S1.agg, S2.agg, .bool true] w fun e w' => e = .returned (.bool true) ∧ Below w.heap.size w w' := by
  have HZ := zeroS_run
  have HN1 := Lib.hid (near_in S1)
  have HN2 := Lib.hid (near_in S2)
  have O0 := Lib.hid (ow2_boxes w S1 S2)
  have HA := Lib.hid awake11_in
  have HT := Lib.hid (trap_nil 1 1)
  have HK := Lib.hid back_nil
  have HX := Lib.hid (set_nil 0 0)
  generalize nearV S1 = T at *
  generalize nearV S2 = R at *
  have HP1 := Lib.hid (pack_words T h1)
  have HP2 := Lib.hid (pack_words T h1)
  have HSM : Hid (sameB T T = allF T T 26) := Lib.hid (same_words T T h1 h1)
  clear h1 h2
  unfold SV.agg at *
  go_enter Try.func7, Try.ntmps7
  go_wp2_with (refine wpList_ldS rfl (.tmp 3) rfl w.heap.size rfl S1 (O0.out).a.ls ?_; unfold SV.agg)
  refine (HN1.out _).mono ?_
  rintro e w1 ⟨rfl, b1⟩
  have O1 := Lib.hid ((O0.out).below b1)
  have O2 := Lib.hid ((O1.out).putA T)
  clear b1 HN1 O0
  go_wp2_with (first
    | (refine wpList_stS rfl (.tmp 3) (.tmp 13) rfl w.heap.size rfl S1 T rfl (O1.out).a.ls ?_)
    | (refine wpList_ldS rfl (.tmp 4) rfl (w.heap.size + 1) rfl S2 (O2.out).b.ls ?_; unfold SV.agg))
  refine (HN2.out _).mono ?_
  rintro e w2 ⟨rfl, b2⟩
  have O3 := Lib.hid ((O2.out).below b2)
  have O4 := Lib.hid ((O3.out).putB R)
  have O5 := Lib.hid ((O4.out).putB T)
  clear b2 HN2 O2 O1
  go_wp2_with (first
    | (refine wpList_stS rfl (.tmp 4) (.tmp 15) rfl (w.heap.size + 1) rfl S2 R rfl (O3.out).b.ls ?_)
    | (refine wpList_stS rfl (.tmp 4) (.tmp 17) rfl (w.heap.size + 1) rfl R T rfl (O4.out).b.ls ?_)
    | (refine wpList_ldS rfl (.tmp 3) rfl w.heap.size rfl T (O4.out).a.ls ?_; unfold SV.agg)
    | (refine wpList_ldS rfl (.tmp 3) rfl w.heap.size rfl T (O5.out).a.ls ?_; unfold SV.agg))
  refine (HP1.out _).mono ?_
  rintro e w3 ⟨v, rfl, k3, b3⟩
  have K3 := Lib.hid k3
  obtain ⟨g, cap, rfl, _⟩ := k3
  have O6 := Lib.hid ((O5.out).below b3)
  clear b3 O5 O3 HP1
  go_wp2_with (refine wpList_ldS rfl (.tmp 4) rfl (w.heap.size + 1) rfl T (O6.out).b.ls ?_; unfold SV.agg)
  refine (HP2.out _).mono ?_
  rintro e w4 ⟨v, rfl, k4, b4⟩
  obtain ⟨g4, cap4, rfl, _, _, hc4, _⟩ := k4
  have k3' := (K3.out).below b4
  have O7 := Lib.hid ((O6.out).below b4)
  obtain ⟨g3, cap3, he, h31, h32, hc3, h34⟩ := k3'
  injection he with he1 _ he2
  injection he1 with he1
  injection he1 with he1
  subst he1 he2
  have SAX : Hid (SA w w4 T T w.heap.size (w.heap.size + 1) g g4) := Lib.hid ⟨hc3, hc4, O7.out⟩
  clear h31 h32 hc3 h34 hc4 b4 K3 O6 O7 HP2
  go_wp2_with fail
  go_loopw [9, 10] (fun q i wr => ∃ (k : Nat) (z : Bool), k ≤ 26 ∧ i = .int .i64 k ∧ q = .bool z ∧ z = allF T T k ∧ SA w wr T T w.heap.size (w.heap.size + 1) g g4) (fun _ i _ => 26 - (intOf i).toNat)
  case atStart => exact ⟨0, true, by omega, rfl, rfl, rfl, SAX.out⟩
  case round =>
    obtain ⟨k, z, hk, rfl, rfl, hz, hR⟩ := hrel
    have HQ := Lib.hid hR
    have HZF := Lib.hid hz
    clear hR SAX hz
    by_cases hlt : z = true ∧ k < 26
    · obtain ⟨rfl, hlt⟩ := hlt
      have kk : (k : Int) < 26 := by omega
      have c1 := (HQ.out).a k hlt
      have c2 := (HQ.out).b k hlt
      have HE : Hid ((((wordF T k : Nat) : Int) == ((wordF T k : Nat) : Int)) = allF T T (k + 1)) := Lib.hid (by rw [allF_next, ← HZF.out, beq_cast]; rfl)
      obtain ⟨x1, hx1⟩ : ∃ x1, wordF T k = x1 := ⟨_, rfl⟩
      rw [hx1] at c1 c2 HE
      clear hx1
      go_wp2_with fail
      go_quiet (fail)
      have HQ2 := Lib.hid ((HQ.out).drawn nq)
      clear HQ c1 c2
      go_wp2
      go_roundw
      case rel => exact ⟨k + 1, true, by omega, by go_num, rfl, by have h := HE.out; simpa using h, HQ2.out⟩
      case measure => simp [intOf]; omega
    · have HF : Hid (sameB T T = z) := Lib.hid (by
        rw [HSM.out]
        cases z with
        | false => exact allF_no T T k hk (HZF.out).symm
        | true =>
          obtain rfl : k = 26 := by
            have : ¬ k < 26 := fun h => hlt ⟨rfl, h⟩
            omega
          exact (HZF.out).symm)
      have kz : z = true → ¬ (k : Int) < 26 := fun h h2 => hlt ⟨h, by omega⟩
      clear hlt HSM
      cases z with
      | true =>
        have kk := kz rfl
        clear kz
        go_wp2_with fail
        refine (HT.out _).mono ?_
        rintro e w5 ⟨rfl, rfl⟩
        go_wp2_with fail
        refine (HK.out _).mono ?_
        rintro e w5 ⟨rfl, rfl⟩
        go_wp2_with fail
        refine (HA.out _).mono ?_
        rintro e w5 ⟨rfl, b5⟩
        have O8 := Lib.hid ((HQ.out).o.below b5)
        clear b5 HQ
        go_wp2_with (first
          | (refine wpList_ldS rfl (.tmp 3) rfl w.heap.size rfl T (O8.out).a.ls ?_)
          | (refine wpList_ldS rfl (.tmp 4) rfl (w.heap.size + 1) rfl T (O8.out).b.ls ?_)
          | (refine wpList_eqS2 rfl (.tmp 52) (.tmp 53) rfl T T rfl rfl ?_; rw [HF.out]))
        refine (HX.out _).mono ?_
        rintro e w6 ⟨rfl, rfl⟩
        go_wp2
        go_ret
        exact ⟨rfl, (O8.out).a.bel⟩
      | false =>
        clear kz
        go_wp2_with fail
        refine (HT.out _).mono ?_
        rintro e w5 ⟨rfl, rfl⟩
        go_wp2_with fail
        refine (HK.out _).mono ?_
        rintro e w5 ⟨rfl, rfl⟩
        go_wp2_with fail
        refine (HA.out _).mono ?_
        rintro e w5 ⟨rfl, b5⟩
        have O8 := Lib.hid ((HQ.out).o.below b5)
        clear b5 HQ
        go_wp2_with (first
          | (refine wpList_ldS rfl (.tmp 3) rfl w.heap.size rfl T (O8.out).a.ls ?_)
          | (refine wpList_ldS rfl (.tmp 4) rfl (w.heap.size + 1) rfl T (O8.out).b.ls ?_)
          | (refine wpList_eqS2 rfl (.tmp 52) (.tmp 53) rfl T T rfl rfl ?_; rw [HF.out]))
        refine (HX.out _).mono ?_
        rintro e w6 ⟨rfl, rfl⟩
        go_wp2
        go_ret
        exact ⟨rfl, (O8.out).a.bel⟩
theorem seatApart_core (S1 S2 : SV) (h1 : (nearV S1).ok) (h2 : (nearV S2).ok) (b : Bool) (w : World) : Calls Try.prog 7 #[S1.agg, S2.agg, .bool b] w fun e w' => e = .returned (.bool true) ∧ Below w.heap.size w w' := by
  cases b
  · exact apart_other S1 S2 h1 h2 w
  · exact apart_same S1 S2 h1 h2 w
end Go.Proofs.Ytjhiapailgbmkaa
