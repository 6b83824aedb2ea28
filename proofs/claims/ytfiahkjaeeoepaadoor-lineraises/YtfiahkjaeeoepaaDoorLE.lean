/-
  LineRaises' walk, by its ways.
-/
import Derived.Test.YtfiahkjaeeoepaaDoorLD
namespace Go.Proofs.YtfiahkjaeeoepaaDoor
open Go.ChangeShapes Go.WideShapes Go.ChangeAt Go.RowKit
set_option maxRecDepth 100000
set_option linter.unusedVariables false

theorem shl_wrap (k : Nat) (hk : k < 32) : IntKind.u32.wrap (2 ^ k) = ((2 ^ k : Nat) : Int) := by rw [IntKind.wrap_u32]; exact shl_one k hk
set_option maxHeartbeats 1000000 in
theorem raises_low (S T : SV) (hT0 : nearV S = T) (n : Int) (h0 : ¬ 0 ≤ n) (w : World) (hT : TW w) : Calls Tryd.prog 3 #[S.agg, .int .i64 n] w fun e w' => e = .returned (.bool true) ∧ Below w.heap.size w w' := by
  have HZ := zeroS_run
  have HT := Lib.hid hT
  have HN := Lib.hid (near_in S)
  have HL := Lib.hid (ls_new w S)
  obtain ⟨n1, n2, n3⟩ := near_bounds S
  rw [hT0] at HN n1 n2 n3
  clear hT hT0
  have HSS := Lib.hid (fun w1 b1 => @ow2_start w w1 S T b1)
  have HAW := Lib.hid (fun U (h : TabAt U) => awake9_in U h)
  have HE := Lib.hid (fun U B => raise_arg B n U (by omega))
  have HR := Lib.hid (fun U => right_no n U (by omega))
  unfold SV.agg at *
  go_enter Tryd.func3, Tryd.ntmps3
  go_wp2_with (refine wpList_ldS rfl (.tmp 2) rfl w.heap.size rfl S HL.out ?_; unfold SV.agg)
  refine (HN.out _).mono ?_
  rintro e w1 ⟨rfl, b1⟩
  have O1 := Lib.hid (HSS.out w1 b1)
  have L1 := Lib.hid ((HL.out).below b1)
  clear b1 HSS HN HL
  go_wp2_with (first
    | (refine wpList_stS rfl (.tmp 2) (.tmp 9) rfl w.heap.size rfl S T rfl L1.out ?_)
    | (refine wpList_ldS rfl (.tmp 2) rfl w.heap.size rfl T (LS.put L1.out T) ?_; unfold SV.agg)
    | (refine wpList_stS rfl (.tmp 5) (.tmp 10) rfl w1.heap.size rfl SV.zero T rfl (ls_zero1 w1 _ _) ?_))
  refine (HE.out _ _).mono ?_
  rintro e w2 ⟨rfl, rfl⟩
  go_wp2_with fail
  refine (HAW.out _ ((O1.out).a.tab HT.out)).mono ?_
  rintro e w3 ⟨rfl, b3⟩
  have O3 := Lib.hid ((O1.out).below b3)
  clear b3 O1
  go_wp2_with (first
    | (refine wpList_ldS rfl (.tmp 2) rfl w.heap.size rfl T (O3.out).a.ls ?_)
    | (refine wpList_ldS rfl (.tmp 5) rfl w1.heap.size rfl T (O3.out).b.ls ?_)
    | (refine wpList_eqS rfl (.tmp 28) (.tmp 29) rfl T rfl rfl ?_)
    | (go_at_call 11; refine (HR.out _).mono ?_; rintro e w4 ⟨rfl, rfl⟩))
  go_ret
  exact ⟨rfl, (O3.out).a.bel⟩
set_option maxHeartbeats 1000000 in
theorem raises_high (S T : SV) (hT0 : nearV S = T) (n : Int) (h0 : 0 ≤ n) (h1 : ¬ n < 8) (w : World) (hT : TW w) : Calls Tryd.prog 3 #[S.agg, .int .i64 n] w fun e w' => e = .returned (.bool true) ∧ Below w.heap.size w w' := by
  have HZ := zeroS_run
  have HT := Lib.hid hT
  have HN := Lib.hid (near_in S)
  have HL := Lib.hid (ls_new w S)
  obtain ⟨n1, n2, n3⟩ := near_bounds S
  rw [hT0] at HN n1 n2 n3
  clear hT hT0
  have HSS := Lib.hid (fun w1 b1 => @ow2_start w w1 S T b1)
  have HAW := Lib.hid (fun U (h : TabAt U) => awake9_in U h)
  have HE := Lib.hid (fun U B => raise_arg B n U (by omega))
  have HR := Lib.hid (fun U => right_no n U (by omega))
  unfold SV.agg at *
  go_enter Tryd.func3, Tryd.ntmps3
  go_wp2_with (refine wpList_ldS rfl (.tmp 2) rfl w.heap.size rfl S HL.out ?_; unfold SV.agg)
  refine (HN.out _).mono ?_
  rintro e w1 ⟨rfl, b1⟩
  have O1 := Lib.hid (HSS.out w1 b1)
  have L1 := Lib.hid ((HL.out).below b1)
  clear b1 HSS HN HL
  go_wp2_with (first
    | (refine wpList_stS rfl (.tmp 2) (.tmp 9) rfl w.heap.size rfl S T rfl L1.out ?_)
    | (refine wpList_ldS rfl (.tmp 2) rfl w.heap.size rfl T (LS.put L1.out T) ?_; unfold SV.agg)
    | (refine wpList_stS rfl (.tmp 5) (.tmp 10) rfl w1.heap.size rfl SV.zero T rfl (ls_zero1 w1 _ _) ?_))
  refine (HE.out _ _).mono ?_
  rintro e w2 ⟨rfl, rfl⟩
  go_wp2_with fail
  refine (HAW.out _ ((O1.out).a.tab HT.out)).mono ?_
  rintro e w3 ⟨rfl, b3⟩
  have O3 := Lib.hid ((O1.out).below b3)
  clear b3 O1
  go_wp2_with (first
    | (refine wpList_ldS rfl (.tmp 2) rfl w.heap.size rfl T (O3.out).a.ls ?_)
    | (refine wpList_ldS rfl (.tmp 5) rfl w1.heap.size rfl T (O3.out).b.ls ?_)
    | (refine wpList_eqS rfl (.tmp 28) (.tmp 29) rfl T rfl rfl ?_)
    | (go_at_call 11; refine (HR.out _).mono ?_; rintro e w4 ⟨rfl, rfl⟩))
  go_ret
  exact ⟨rfl, (O3.out).a.bel⟩
set_option maxHeartbeats 1000000 in
theorem raises_dead (S T : SV) (hT0 : nearV S = T) (k : Nat) (hk : k < 8) (hs : T.st = 2) (w : World) (hT : TW w) : Calls Tryd.prog 3 #[S.agg, .int .i64 k] w fun e w' => e = .returned (.bool true) ∧ Below w.heap.size w w' := by
  have HZ := zeroS_run
  have HT := Lib.hid hT
  have HN := Lib.hid (near_in S)
  have HL := Lib.hid (ls_new w S)
  obtain ⟨n1, n2, n3⟩ := near_bounds S
  rw [hT0] at HN n1 n2 n3
  clear hT hT0
  have HSS := Lib.hid (fun w1 b1 => @ow2_start w w1 S T b1)
  have HAW := Lib.hid (fun U (h : TabAt U) => awake9_in U h)
  have HE := Lib.hid (fun U B (h : LS U B T) => raise_dead h k hk hs)
  have HR := Lib.hid (fun U => right_yes k U (by omega) (by omega))
  have z1 : (0 : Int) ≤ (k : Int) := by omega
  have z2 : (k : Int) < 8 := by omega
  have HS := Lib.hid hs
  clear hs
  unfold SV.agg at *
  go_enter Tryd.func3, Tryd.ntmps3
  go_wp2_with (refine wpList_ldS rfl (.tmp 2) rfl w.heap.size rfl S HL.out ?_; unfold SV.agg)
  refine (HN.out _).mono ?_
  rintro e w1 ⟨rfl, b1⟩
  have O1 := Lib.hid (HSS.out w1 b1)
  have L1 := Lib.hid ((HL.out).below b1)
  clear b1 HSS HN HL
  go_wp2_with (first
    | (refine wpList_stS rfl (.tmp 2) (.tmp 9) rfl w.heap.size rfl S T rfl L1.out ?_)
    | (refine wpList_ldS rfl (.tmp 2) rfl w.heap.size rfl T (LS.put L1.out T) ?_; unfold SV.agg)
    | (refine wpList_stS rfl (.tmp 5) (.tmp 10) rfl w1.heap.size rfl SV.zero T rfl (ls_zero1 w1 _ _) ?_))
  refine (HE.out _ _ (O1.out).a.ls).mono ?_
  rintro e w2 ⟨rfl, rfl⟩
  have c1 := (O1.out).b.ls.st'
  rw [HS.out] at c1
  go_wp2_with fail
  refine (HAW.out _ ((O1.out).a.tab HT.out)).mono ?_
  rintro e w3 ⟨rfl, b3⟩
  have O3 := Lib.hid ((O1.out).below b3)
  clear b3 O1
  go_wp2_with (first
    | (refine wpList_ldS rfl (.tmp 2) rfl w.heap.size rfl T (O3.out).a.ls ?_)
    | (refine wpList_ldS rfl (.tmp 5) rfl w1.heap.size rfl T (O3.out).b.ls ?_)
    | (refine wpList_eqS rfl (.tmp 28) (.tmp 29) rfl T rfl rfl ?_)
    | (go_at_call 11; refine (HR.out _).mono ?_; rintro e w4 ⟨rfl, rfl⟩))
  go_ret
  exact ⟨rfl, (O3.out).a.bel⟩
set_option maxHeartbeats 2000000 in
theorem raises_ok (S T : SV) (hT0 : nearV S = T) (k : Nat) (hk : k < 8) (hs : T.st ≠ 2) (w : World) (hT : TW w) : Calls Tryd.prog 3 #[S.agg, .int .i64 k] w fun e w' => e = .returned (.bool true) ∧ Below w.heap.size w w' := by
  have HZ := zeroS_run
  have HT := Lib.hid hT
  have HN := Lib.hid (near_in S)
  have HL := Lib.hid (ls_new w S)
  obtain ⟨n1, n2, n3⟩ := near_bounds S
  rw [hT0] at HN n1 n2 n3
  clear hT hT0
  have HSS := Lib.hid (fun w1 b1 => @ow2_start w w1 S T b1)
  have HAW := Lib.hid (fun U (h : TabAt U) => awake9_in U h)
  have HE := Lib.hid (fun U B (h : LS U B T) => raise_ok h k hk hs n2 n3)
  have HR := Lib.hid (fun U => right_yes k U (by omega) (by omega))
  have z1 : (0 : Int) ≤ (k : Int) := by omega
  have z2 : (k : Int) < 8 := by omega
  have z3 : ((T.st : Int) == 2) = false := by simp; omega
  have hol := or_lt T.pd n2 k hk
  have HO := Lib.hid (or32 T.pd (2 ^ k) (by omega) (two_lt k (by omega)))
  have HSH := Lib.hid (shl_wrap k (by omega))
  have HRV := Lib.hid (fun U B (h : LS U B T) => show Sn U ((U.setCell ⟨B, 24, none⟩ (.int .u32 ((T.pd ||| 2 ^ k : Nat) : Int))).drew) B (raiseV T k) from ⟨h.setPd _, ⟨rfl, rfl, rfl, (grown_setCellS U ⟨B, 24, none⟩ _).size, (grown_setCellS U ⟨B, 24, none⟩ _).block⟩⟩)
  have hq1 : (raiseV T k).pd < 256 := hol
  have hq2 : (raiseV T k).ma < 256 := n3
  have hq3 : (raiseV T k).st = T.st := rfl
  clear hol hs
  generalize raiseV T k = R at *
  generalize 2 ^ k = q at *
  unfold SV.agg at *
  go_enter Tryd.func3, Tryd.ntmps3
  go_wp2_with (refine wpList_ldS rfl (.tmp 2) rfl w.heap.size rfl S HL.out ?_; unfold SV.agg)
  refine (HN.out _).mono ?_
  rintro e w1 ⟨rfl, b1⟩
  have O1 := Lib.hid (HSS.out w1 b1)
  have L1 := Lib.hid ((HL.out).below b1)
  clear b1 HSS HN HL
  go_wp2_with (first
    | (refine wpList_stS rfl (.tmp 2) (.tmp 9) rfl w.heap.size rfl S T rfl L1.out ?_)
    | (refine wpList_ldS rfl (.tmp 2) rfl w.heap.size rfl T (LS.put L1.out T) ?_; unfold SV.agg)
    | (refine wpList_stS rfl (.tmp 5) (.tmp 10) rfl w1.heap.size rfl SV.zero T rfl (ls_zero1 w1 _ _) ?_))
  refine (HE.out _ _ (O1.out).a.ls).mono ?_
  rintro e w2 ⟨rfl, h2⟩
  have o2 := (O1.out).turnA h2
  have O2 := Lib.hid o2
  clear h2 O1 L1
  have c1 := o2.b.ls.st'
  have c2 := o2.b.ls.pd'
  have c3 := o2.b.ls.ma'
  have cf := o2.b.ls.fz 24
  clear o2
  generalize w1.heap.size = C at *
  have Hn := Lib.hid (And.intro n1 (And.intro n2 (And.intro n3 (And.intro hq1 (And.intro hq2 hq3)))))
  clear n1 n2 n3 hq1 hq2 hq3
  go_wp2_with fail
  go_region_with (fail)
  all_goals rw [HSH.out, HO.out]
  have O3 := Lib.hid ((O2.out).turnB (HRV.out _ _ (O2.out).b.ls))
  clear O2 HRV HE HO HSH c1 c2 c3 cf z3
  generalize (w2.setCell ⟨C, 24, none⟩ (.int .u32 ((T.pd ||| q : Nat) : Int))).drew = W at *
  obtain ⟨n1, n2, n3, q1, q2, q3⟩ := Hn.out
  have c1 := (O3.out).b.ls.st'
  have c2 := (O3.out).b.ls.pd'
  have c3 := (O3.out).b.ls.ma'
  have cf := (O3.out).b.ls.fz 23
  have e1 := and32 R.pd R.ma (by omega) (by omega)
  have hnot : R.st ≠ 2 ∨ True := .inr trivial
  clear n1 n2 n3 q1 q2 q3 hnot Hn
  by_cases hs : R.st = 1
  · by_cases hc : coN R = 0
    · have hv : wakeV R = R := by unfold wakeV wakeB; rw [if_neg (by simp [hc])]
      rw [hv] at O3
      have z : (bits .and .u32 (R.pd : Int) (R.ma : Int) != 0) = false := by rw [e1]; have : ((coN R : Nat) : Int) = 0 := by omega
                                                                             simp [coN] at this ⊢; exact this
      rw [hs] at c1
      clear e1 hs hc hv
      go_wp2_with fail
      refine (HAW.out _ ((O3.out).a.tab HT.out)).mono ?_
      rintro e w3 ⟨rfl, b3⟩
      have O5 := Lib.hid ((O3.out).below b3)
      clear b3 O3
      go_wp2_with (first
        | (refine wpList_ldS rfl (.tmp 2) rfl w.heap.size rfl R (O5.out).a.ls ?_)
        | (refine wpList_ldS rfl (.tmp 5) rfl C rfl R (O5.out).b.ls ?_)
        | (refine wpList_eqS rfl (.tmp 75) (.tmp 76) rfl R rfl rfl ?_)
        | (go_at_call 11; refine (HR.out _).mono ?_; rintro e w4 ⟨rfl, rfl⟩))
      go_ret
      exact ⟨rfl, (O5.out).a.bel⟩
    · have hv : wakeV R = { R with st := 0 } := by unfold wakeV wakeB; rw [if_pos (by simp [hc, hs])]
      rw [hv] at O3
      have z : (bits .and .u32 (R.pd : Int) (R.ma : Int) != 0) = true := by rw [e1]; have : ((coN R : Nat) : Int) ≠ 0 := by omega
                                                                            simp [coN] at this ⊢; exact this
      rw [hs] at c1
      have O4 : Hid (Ow2 w (W.setCell ⟨C, 23, none⟩ (.int .u8 0)) w.heap.size C { R with st := 0 } { R with st := 0 }) := Lib.hid ((O3.out).turnB ⟨(O3.out).b.ls.setSt 0, grown_setCellS _ ⟨C, 23, none⟩ _⟩)
      clear e1 hs hc hv O3
      generalize ({ R with st := 0 } : SV) = R' at *
      go_wp2_with fail
      refine (HAW.out _ ((O4.out).a.tab HT.out)).mono ?_
      rintro e w3 ⟨rfl, b3⟩
      have O5 := Lib.hid ((O4.out).below b3)
      clear b3 O4
      go_wp2_with (first
        | (refine wpList_ldS rfl (.tmp 2) rfl w.heap.size rfl R' (O5.out).a.ls ?_)
        | (refine wpList_ldS rfl (.tmp 5) rfl C rfl R' (O5.out).b.ls ?_)
        | (refine wpList_eqS rfl (.tmp 75) (.tmp 76) rfl R' rfl rfl ?_)
        | (go_at_call 11; refine (HR.out _).mono ?_; rintro e w4 ⟨rfl, rfl⟩))
      go_ret
      exact ⟨rfl, (O5.out).a.bel⟩
  · have hv : wakeV R = R := by unfold wakeV wakeB; rw [if_neg (by simp [hs])]
    rw [hv] at O3
    have z : ((R.st : Int) == 1) = false := by simp; omega
    clear e1 hs hv
    go_wp2_with fail
    refine (HAW.out _ ((O3.out).a.tab HT.out)).mono ?_
    rintro e w3 ⟨rfl, b3⟩
    have O5 := Lib.hid ((O3.out).below b3)
    clear b3 O3
    go_wp2_with (first
      | (refine wpList_ldS rfl (.tmp 2) rfl w.heap.size rfl R (O5.out).a.ls ?_)
      | (refine wpList_ldS rfl (.tmp 5) rfl C rfl R (O5.out).b.ls ?_)
      | (refine wpList_eqS rfl (.tmp 75) (.tmp 76) rfl R rfl rfl ?_)
      | (go_at_call 11; refine (HR.out _).mono ?_; rintro e w4 ⟨rfl, rfl⟩))
    go_ret
    exact ⟨rfl, (O5.out).a.bel⟩
theorem lineRaises_core (S : SV) (n : Int) (w : World) (hT : TW w) : Calls Tryd.prog 3 #[S.agg, .int .i64 n] w fun e w' => e = .returned (.bool true) ∧ Below w.heap.size w w' := by
  by_cases h0 : 0 ≤ n
  · by_cases h1 : n < 8
    · obtain ⟨k, rfl⟩ := Int.eq_ofNat_of_zero_le h0
      by_cases hs : (nearV S).st = 2
      · exact raises_dead S _ rfl k (by omega) hs w hT
      · exact raises_ok S _ rfl k (by omega) hs w hT
    · exact raises_high S _ rfl n h0 h1 w hT
  · exact raises_low S _ rfl n h0 w hT
end Go.Proofs.YtfiahkjaeeoepaaDoor
