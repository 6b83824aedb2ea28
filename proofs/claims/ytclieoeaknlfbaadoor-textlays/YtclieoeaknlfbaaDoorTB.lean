/-
  TextLays: the walk.
-/
import Derived.Test.YtclieoeaknlfbaaDoorTA
import Derived.Deep.CutBlock
namespace Go.Proofs.YtclieoeaknlfbaaDoor
open Go.ChangeShapes Go.WideShapes Go.ChangeAt Go.RowKit
open WM CM
set_option maxRecDepth 100000
set_option linter.unusedVariables false
set_option linter.unusedSimpArgs false
theorem lays_short (a : Option Addr) (n cap : Nat) (ba : Option Addr) (bn bcap : Nat) (w : World) (hn : n = 0 ∨ 20 < n) (hm : n ≤ 9223372036854775807) (hT : TW w) :
    Calls Tryd.prog 3 #[.slice a n cap, .slice ba bn bcap] w fun e w' => e = .returned (.bool true) ∧ Below w.heap.size w w' := by
  have HA := Lib.hid (fun W hW => awake3_in W hW)
  have HT := Lib.hid hT
  clear hT
  rcases hn with rfl | hn
  · go_enter Tryd.func3, Tryd.ntmps3
    go_wp2_with fail
    refine (HA.out _ HT.out).mono ?_
    rintro e w1 ⟨rfl, b1⟩
    go_wp2_with fail
    refine (HA.out _ ((HT.out).later b1)).mono ?_
    rintro e w2 ⟨rfl, b2⟩
    go_wp2
    go_ret
    exact ⟨rfl, below_up b1 b2⟩
  · have t1 : (20 : Int) < n := by omega
    have t2 : ¬ (n : Int) = 0 := by omega
    have t3 : ¬ n = 0 := by omega
    go_enter Tryd.func3, Tryd.ntmps3
    go_wp2_with fail
    refine (HA.out _ HT.out).mono ?_
    rintro e w1 ⟨rfl, b1⟩
    go_wp2_with fail
    refine (HA.out _ ((HT.out).later b1)).mono ?_
    rintro e w2 ⟨rfl, b2⟩
    go_wp2
    go_ret
    exact ⟨rfl, below_up b1 b2⟩
/-- What stands before a round. -/
structure GI (w wr : World) (x : Nat → Nat) (j : Nat) (v : Value) : Prop where
  own : wr.ownsRow w.heap.size 5 1 v (4 * j) (bytesV x j)
  bel : Below w.heap.size w wr
def pdN (bn : Nat) (bf : Nat → Nat) (i : Nat) : Nat := if i < bn then bf i % 4 else 0
theorem pdN_lt (bn : Nat) (bf : Nat → Nat) (i : Nat) : pdN bn bf i < 4 := by unfold pdN; split; (· exact Nat.mod_lt _ (by decide)); (· decide)
theorem lays_lay (fC fA fB fD : Nat → Nat) (fN : Nat → Int) (bn n : Nat) (bf : Nat → Nat) (W : World) (hnum : ∀ i, i < n → -32768 ≤ fN i ∧ fN i ≤ 32767) (hn : 0 < n) (hn2 : n ≤ 20) (hW : TW W) :
    Calls Tryd.prog 8 #[.string (str (joinL (gLines (pdN bn bf) (nearL fC fA fB fD fN) n)))] W fun e W' => Below W.heap.size W W' ∧
      ∃ v, e = .returned (.tuple #[v, .int .i64 0, .int .i64 0]) ∧ W'.ownsRow W.heap.size 5 1 v (4 * n) (bytesV (nearX fC fA fB fD fN) n) := by
  have HG := fun i (hi : i < n) => nearL_len fC fA fB fD fN i (hnum i hi)
  refine (lay_in (gLines (pdN bn bf) (nearL fC fA fB fD fN) n) n W (by rw [gLines_len]; omega) (by rw [gLines_len]; omega) (by rw [gLines_len]; omega)
    (fun l hl => by
      unfold gLines at hl
      obtain ⟨j, _, rfl⟩ := List.mem_map.1 hl
      apply pad_semi
      exact nearL_semi _ _ _ _ _ _)
    (Nat.le_trans (gText_len _ _ n (pdN_lt bn bf) HG n (Nat.le_refl _)) (by omega))
    (fun j l hj hl => by
      rw [gLines_at _ _ _ _ (by omega)] at hl
      obtain rfl := Option.some.inj hl
      rw [nearL_trim]
      exact nearL_read _ _ _ _ _ _ (hnum j (by omega)))
    (fun l hl => by
      have : n < (gLines (pdN bn bf) (nearL fC fA fB fD fN) n).length := (List.getElem?_eq_some_iff.1 hl).1
      rw [gLines_len] at this
      omega) hW).mono ?_
  rintro e W' ⟨b, ⟨h, _⟩ | ⟨_, v, rfl, ho⟩⟩
  · rw [gLines_len] at h; omega
  · rw [layV_bytes _ _ _ _ _ _ n hnum n (Nat.le_refl _)] at ho
    exact ⟨b, v, rfl, ho⟩
set_option maxHeartbeats 4000000 in
theorem lays_walk (a : Option Addr) (n cap : Nat) (ba : Option Addr) (bn bcap : Nat) (fC fA fB fD : Nat → Nat) (fN : Nat → Int) (bf : Nat → Nat) (w : World) (hO : Ops w a n fC fA fB fD fN) (hB : BytesAt w ba bn bf) (hbf : ∀ i, bf i < 256) (hn : 0 < n) (hn2 : n ≤ 20) (hT : TW w) :
    Calls Tryd.prog 3 #[.slice a n cap, .slice ba bn bcap] w fun e w' => e = .returned (.bool true) ∧ Below w.heap.size w w' := by
  have HA := Lib.hid (fun W hW => awake3_in W hW)
  have HT := Lib.hid hT
  have HO := Lib.hid hO
  have HBB := Lib.hid hB
  have HBF := Lib.hid hbf
  have HG := Lib.hid (fun i hi => nearL_len fC fA fB fD fN i (hO.num i hi))
  have hne' : ¬ (n : Int) = 0 := by omega
  have t1 : ¬ (20 : Int) < n := by omega
  have t0 : ((n : Int) == 0) = false := by rw [beq_eq_false_iff_ne]; omega
  have HL := Lib.hid (fun W hW => lays_lay fC fA fB fD fN bn n bf W hO.num hn hn2 hW)
  have HFL := Lib.hid (fun i (hi : i ≤ n) => gText_len (pdN bn bf) (nearL fC fA fB fD fN) n (pdN_lt bn bf) (HG.out) i hi)
  clear hT hO hB hbf
  go_enter Tryd.func3, Tryd.ntmps3
  go_wp2_with fail
  refine (HA.out _ HT.out).mono ?_
  rintro e W0 ⟨rfl, b0⟩
  have G0 : Hid (GI w W0 (nearX fC fA fB fD fN) 0 (.slice none 0 0)) := Lib.hid ⟨World.ownsRow_nil _ _ _ _, b0⟩
  clear b0
  go_wp2_with fail
  go_loopw [5, 6, 7] (fun s v i wr => ∃ j : Nat, j ≤ n ∧ s = .string (str (joinL (gLines (pdN bn bf) (nearL fC fA fB fD fN) j))) ∧ i = .int .i64 j ∧ GI w wr (nearX fC fA fB fD fN) j v) (fun _ _ i _ => (200 - intOf i).toNat)
  case atStart => exact ⟨0, by omega, rfl, rfl, G0.out⟩
  case round =>
    obtain ⟨j, hj, rfl, rfl, hg⟩ := hrel
    have HY := Lib.hid hg
    have hfl := (HFL.out) j hj
    rw [← str_size] at hfl
    obtain ⟨x, hx⟩ : ∃ x, str (joinL (gLines (pdN bn bf) (nearL fC fA fB fD fN) j)) = x := ⟨_, rfl⟩
    clear hg G0
    by_cases hlt : j < n
    · rw [hx] at hfl ⊢
      have HX := Lib.hid hx
      obtain ⟨b, off, rfl, hbl, c0, c1, c2, c3, c4⟩ := ((HO.out).later (HY.out).bel).at' j hlt
      have HN := Lib.hid (fun W => near_in (fC j) (fA j) (fB j) (fD j) (fN j) W)
      have HTX := Lib.hid (fun W => reftext_in _ _ _ _ _ W (near_n (c := fC j) ((HO.out).num j hlt)) (near_right (fC j) (fA j) (fB j) (fD j) (fN j)))
      have HWD := Lib.hid (fun W => refword_in (nC (fC j)) (nA (fC j) (fA j)) (nB (fC j) (fB j)) (nD (fC j) (fD j)) (nN (fC j) (fN j)) W
        (right_lt (near_right (fC j) (fA j) (fB j) (fD j) (fN j))).1 (right_lt (near_right (fC j) (fA j) (fB j) (fD j) (fN j))).2.1 (right_lt (near_right (fC j) (fA j) (fB j) (fD j) (fN j))).2.2.1 (right_lt (near_right (fC j) (fA j) (fB j) (fD j) (fN j))).2.2.2)
      have HNX := Lib.hid (gText_next (pdN bn bf) (nearL fC fA fB fD fN) j)
      have HVN := Lib.hid (bytesV_next (nearX fC fA fB fD fN) j (nearX_lt fC fA fB fD fN j))
      have hXl := nearX_lt fC fA fB fD fN j
      unfold opV at HN
      simp only [Nat.add_zero] at c0
      obtain ⟨g0, g1, g2, g3, g4⟩ := And.intro c0 (And.intro c1 (And.intro c2 (And.intro c3 c4)))
      clear c0 c1 c2 c3 c4 hx
      have HNL : Hid (nearL fC fA fB fD fN j = showL (nC (fC j)) (nA (fC j) (fA j)) (nB (fC j) (fB j)) (nD (fC j) (fD j)) (nN (fC j) (fN j))) := Lib.hid rfl
      have HNW : wordN (nC (fC j)) (nA (fC j) (fA j)) (nB (fC j) (fB j)) (nD (fC j) (fD j)) (nN (fC j) (fN j)) = nearX fC fA fB fD fN j := rfl
      rw [HNW] at HWD
      clear HNW
      have hyl : (str (nearL fC fA fB fD fN j)).size ≤ 50 := by rw [str_size]; exact (HG.out) j hlt
      rw [HNL.out] at hyl
      generalize nearX fC fA fB fD fN j = X at *
      generalize fC j = oc at *
      generalize fA j = oa at *
      generalize fB j = ob at *
      generalize fD j = od at *
      generalize fN j = on at *
      generalize nC oc = c' at *
      generalize nA oc oa = a' at *
      generalize nB oc ob = b' at *
      generalize nD oc od = d' at *
      generalize nN oc on = n' at *
      obtain ⟨y, hy⟩ : ∃ y, str (showL c' a' b' d' n') = y := ⟨_, rfl⟩
      rw [hy] at HTX hyl
      have HYY := Lib.hid hy
      clear hy
      go_wp2_with fail
      refine (HN.out _).mono ?_
      rintro e W1 ⟨rfl, b1⟩
      obtain ⟨k0, k1, k2, k3, k4, kl, kf⟩ := lies_new W1 c' a' b' d' n' 27
      have B1 := Lib.hid (below_more (below_up (HY.out).bel b1) (.cells #[.int .u8 c', .int .u8 a', .int .u8 b', .int .u8 d', .int .i16 n'] 27))
      have O1 := Lib.hid (World.ownsRow.alloc (own_below (HY.out).own b1) (.cells #[.int .u8 c', .int .u8 a', .int .u8 b', .int .u8 d', .int .i16 n'] 27))
      clear b1 g0 g1 g2 g3 g4 HY
      obtain ⟨x1, hx1⟩ : ∃ x1, (if j = 0 then x else x ++ ⟨#[59]⟩) = x1 := ⟨_, rfl⟩
      have HX1 := Lib.hid hx1
      have hx1l : x1.size ≤ 60 * j + 1 := by
        rw [← hx1]
        split
        · omega
        · rw [ByteArray.size_append]; show x.size + 1 ≤ _; omega
      clear hx1
      go_upto_if 43 with fail
      go_cut [5] from 31 to 105 (fun s wx => wx = W1.alloc (.cells #[.int .u8 c', .int .u8 a', .int .u8 b', .int .u8 d', .int .i16 n'] 27) ∧ s = .string x1)
      case first =>
        by_cases h0 : j = 0
        · have z1 : ¬ (0 : Int) < j := by omega
          have z2 : ¬ 0 < j := by omega
          have E1 := Lib.hid (show x = x1 by rw [← HX1.out, if_pos h0])
          clear h0
          go_wp2
          go_meet
          exact ⟨rfl, by rw [E1.out]⟩
        · have z1 : (0 : Int) < j := by omega
          have z2 : 0 < j := by omega
          have E1 := Lib.hid (show x ++ ⟨#[59]⟩ = x1 by rw [← HX1.out, if_neg h0])
          clear h0
          go_wp2
          go_meet
          exact ⟨rfl, by rw [E1.out]⟩
      case rest =>
        obtain ⟨rfl, rfl⟩ := hcut
        obtain ⟨P, hP⟩ : ∃ P, pdN bn bf j = P := ⟨_, rfl⟩
        have hP4 : P < 4 := by rw [← hP]; exact pdN_lt bn bf j
        have HP := Lib.hid hP
        clear hP
        have HBJ := Lib.hid (fun (h : j < bn) => (HBB.out).kept (B1.out) j h)
        have hbj := HBF.out j
        obtain ⟨V, hV⟩ : ∃ V, W1.alloc (.cells #[.int .u8 c', .int .u8 a', .int .u8 b', .int .u8 d', .int .i16 n'] 27) = V := ⟨_, rfl⟩
        generalize W1.heap.size = Bl at *
        rw [hV] at B1 O1 HBJ k0 k1 k2 k3 k4 kl kf ⊢
        clear hV
        go_upto_block 2 with fail
        go_cut [9, 10] from 31 to 105 (fun p _ wx => wx = V ∧ p = .string (str (List.replicate P 32)))
        case first =>
          clear k0 k1 k2 k3 k4 kl kf
          go_wp2_with fail
          go_loopw [9, 10] (fun p k wx => ∃ q : Nat, q ≤ P ∧ p = .string (str (List.replicate q 32)) ∧ k = .int .i64 q ∧ wx = V) (fun _ k _ => (100 - intOf k).toNat)
          case atStart => exact ⟨0, by omega, rfl, rfl, rfl⟩
          case round =>
            obtain ⟨q, hq, rfl, rfl, rfl⟩ := hrel
            by_cases hjb : j < bn
            · obtain ⟨bb, bo, rfl, hbc⟩ := (HBJ.out) hjb
              have hP := HP.out
              unfold pdN at hP
              rw [if_pos hjb] at hP
              have HRS := Lib.hid (rep_str q)
              have hrs : (str (List.replicate q 32)).size ≤ 4 := by rw [str_size]; simp; omega
              obtain ⟨z, hz⟩ : ∃ z, str (List.replicate q 32) = z := ⟨_, rfl⟩
              rw [hz] at HRS hrs ⊢
              have HZ := Lib.hid hz
              obtain ⟨bv, hbv⟩ : ∃ bv, bf j = bv := ⟨_, rfl⟩
              rw [hbv] at hbc hP hbj
              have hjb' : (j : Int) < bn := by omega
              have hmd : (bv : Int) % 4 = (P : Int) := by omega
              have hmt : Int.tmod (bv : Int) 4 = (P : Int) := by rw [Int.tmod_eq_emod_of_nonneg (by omega)]; exact hmd
              clear hz hbv
              by_cases hqP : q < P
              · have hqP' : (q : Int) < P := by omega
                clear hP
                go_wp2
                go_roundw
                case rel => exact ⟨q + 1, by omega, congrArg Value.string (HRS.out), by go_num, by trivial⟩
                case measure => simp [intOf]; omega
              · have hqP' : ¬ (q : Int) < P := by omega
                obtain rfl : q = P := by omega
                clear hP
                go_wp2
                go_meet
                exact ⟨rfl, by rw [HZ.out]⟩
            · have hP := HP.out
              unfold pdN at hP
              rw [if_neg hjb] at hP
              have hjb' : ¬ (j : Int) < bn := by omega
              obtain rfl : q = P := by omega
              obtain ⟨z, hz⟩ : ∃ z, str (List.replicate q 32) = z := ⟨_, rfl⟩
              rw [hz]
              have HZ := Lib.hid hz
              clear hP hz
              go_wp2
              go_meet
              exact ⟨rfl, by rw [HZ.out]⟩
        case rest =>
          obtain ⟨rfl, rfl⟩ := hcut
          have HQ : Hid (x1 ++ (str (List.replicate P 32) ++ y ++ str (List.replicate P 32)) = str (joinL (gLines (pdN bn bf) (nearL fC fA fB fD fN) (j + 1)))) := Lib.hid (by
            rw [HNX.out, HP.out, HNL.out, ← HYY.out, pad_str, ← HX1.out, ← HX.out]
            by_cases h0 : j = 0
            · rw [if_pos h0, if_pos h0]
              have : str (joinL (gLines (pdN bn bf) (nearL fC fA fB fD fN) j)) = str [] := by rw [h0]; rfl
              rw [this, str_app]
            · rw [if_neg h0, if_neg h0, ← str_app, ← str_app]
              rfl)
          have hzl : (str (List.replicate P 32)).size ≤ 4 := by rw [str_size]; simp; omega
          obtain ⟨z, hz⟩ : ∃ z, str (List.replicate P 32) = z := ⟨_, rfl⟩
          rw [hz] at HQ hzl ⊢
          have LO := Lib.hid (show Lies wc Bl c' a' b' d' n' from ⟨k0, k1, k2, k3, k4, kl, kf⟩)
          clear hz
          go_wp2_with fail
          refine (HTX.out _).mono ?_
          rintro e W2 ⟨rfl, b2⟩
          have B2 := Lib.hid (below_up (B1.out) b2)
          have O2 := Lib.hid (own_below (O1.out) b2)
          clear k0 k1 k2 k3 k4 kl kf
          obtain ⟨k0, k1, k2, k3, k4, kl, kf⟩ := (LO.out).later b2
          clear b2 B1 O1 LO HTX
          go_wp2_with fail
          refine (HWD.out _).mono ?_
          rintro e W3 ⟨rfl, b3⟩
          have B3 := Lib.hid (below_up (B2.out) b3)
          have O3 := Lib.hid (own_below (O2.out) b3)
          clear b3 B2 O2 HWD k0 k1 k2 k3 k4 kl kf
          obtain ⟨i0, hi0, hz0, hz1, hz2⟩ := info_parts infoB
          go_wp2_with (at_builtin
                       refine wpList_append_own _ rfl (.tmp 92) (.tmp 104) _ rfl w.heap.size 5 i0 (.int .u8 0) 1 1 undB hi0 hz0 hz1 hz2 rfl (by omega) u6 (4 * j) (bytesV (nearX fC fA fB fD fN) j) rfl
                         (World.ownsRow.alloc (O3.out) _) ⟨W3.heap.size, 0, none⟩ 4 4 (w4V X) rfl rfl (four_u8 W3 _ _ _ _) (by simp [w4V, Value.oneCell']) (by unfold maxLen; omega) (by omega) (by have := (B3.out).size; simp; omega) ?_
                       intro v7 w7 ho7 hg7 hat7
                       rw [HVN.out] at ho7
                       have b7 := (below_more (B3.out) _).grown hg7 (below_more (B3.out) _).size (fun j hj => by have := (World.ownsRow.lt (O3.out) j hj).1; omega)
                       have O7 := Lib.hid ho7
                       have B7 := Lib.hid b7
                       clear ho7 hg7 hat7 b7 hi0 hz0 hz1 hz2)
          go_roundw
          case rel => exact ⟨j + 1, by omega, congrArg Value.string (HQ.out), by go_num, ⟨O7.out, B7.out⟩⟩
          case measure => simp [intOf]; omega
    · obtain rfl : j = n := by omega
      rw [hx]
      rw [hx] at HL
      clear hx hfl hlt
      have hnum := (HO.out).num
      go_wp2_with fail
      refine (HL.out _ ((HT.out).later (HY.out).bel)).mono ?_
      rintro e W1 ⟨b1, v, rfl, ho⟩
      have B1 := Lib.hid (below_up (HY.out).bel b1)
      have O1 := own_below (HY.out).own b1
      obtain ⟨gp, cp, rfl, hgp, hgp0, hcp, hpc⟩ := own_bytes ho hn
      obtain ⟨gw, cw, rfl, hgw, hgw0, hcw, hwc⟩ := own_bytes O1 hn
      have HLS := Lib.hid (list_in (some ⟨gp, 0, none⟩) (4 * j) cp (byteW (nearX fC fA fB fD fN)) W1 (fun i hi => ⟨gp, 0, rfl, by rw [Nat.zero_add]; exact hpc i hi⟩) (byteW_lt _) hcp (by omega) ((HT.out).later (B1.out)))
      have HPC := Lib.hid hpc
      have HWC := Lib.hid hwc
      clear b1 O1 ho hpc hwc HY
      go_wp2_with fail
      refine (HLS.out).mono ?_
      rintro e W2 ⟨v, rfl, ho, b2⟩
      rw [show 4 * j / 4 = j by omega] at ho
      obtain ⟨A, cl, rfl, hA⟩ := str_own ho
      have HAA := Lib.hid hA
      have B2 := Lib.hid (below_up (B1.out) b2)
      have cv1 := conv_back W2 gp (4 * j) cp (byteW (nearX fC fA fB fD fN)) (fun i hi => (b2.cell (p := ⟨gp, i, none⟩) hgp).trans (HPC.out i hi))
      have cv2 := conv_back W2 gw (4 * j) cw (byteW (nearX fC fA fB fD fN)) (fun i hi => (b2.cell (p := ⟨gw, i, none⟩) hgw).trans (HWC.out i hi))
      generalize strOfNums ((List.range (4 * j)).map fun i => (byteW (nearX fC fA fB fD fN) i : Int)) = zz at *
      have tt : (zz.toList != zz.toList) = false := by simp
      clear ho hA b2 HPC HWC HLS HL
      go_wp2_with fail
      clear cv1 cv2 tt
      go_loopw [16] (fun i wr => ∃ k : Nat, k ≤ j ∧ i = .int .i64 k ∧ Below W2.heap.size W2 wr) (fun i _ => (200 - intOf i).toNat)
      case atStart => exact ⟨0, by omega, rfl, Below.refl _ _⟩
      case round =>
        obtain ⟨k, hk, rfl, hb⟩ := hrel
        have HB := Lib.hid hb
        clear hb
        by_cases hlt : k < j
        · have BW := Lib.hid (below_up (B2.out) (HB.out))
          obtain ⟨b, off, rfl, hbl, c0, c1, c2, c3, c4⟩ := ((HO.out).later (BW.out)).at' k hlt
          have hln := lines_at (nearX fC fA fB fD fN) j k hlt (nearX_lt _ _ _ _ _ _)
          rw [nearX_line _ _ _ _ _ _ (hnum k hlt)] at hln
          obtain ⟨g, rfl, hcg⟩ := (HAA.out) k _ hlt hln
          have lg := ((HB.out).cell (p := ⟨g, k, none⟩) (World.block_lt_of_cell? W2 ⟨g, k, none⟩ hcg)).trans hcg
          have hgl : g < wr.heap.size := World.block_lt_of_cell? wr ⟨g, k, none⟩ lg
          have HN := Lib.hid (fun W => near_in (fC k) (fA k) (fB k) (fD k) (fN k) W)
          have HTX := Lib.hid (fun W => reftext_in _ _ _ _ _ W (near_n (c := fC k) (hnum k hlt)) (near_right (fC k) (fA k) (fB k) (fD k) (fN k)))
          unfold opV at HN
          unfold nearL at lg
          simp only [Nat.add_zero] at c0
          clear hcg hln
          generalize fC k = oc at *
          generalize fA k = oa at *
          generalize fB k = ob at *
          generalize fD k = od at *
          generalize fN k = on at *
          generalize nC oc = c' at *
          generalize nA oc oa = a' at *
          generalize nB oc ob = b' at *
          generalize nD oc od = d' at *
          generalize nN oc on = n' at *
          generalize str (showL c' a' b' d' n') = y at *
          go_wp2_with fail
          refine (HN.out _).mono ?_
          rintro e W3 ⟨rfl, h3⟩
          have hk3 := fun s => (lies_new W3 c' a' b' d' n' 27).later (below_later _ s)
          have q0 := fun s => (hk3 s).k0
          have q1 := fun s => (hk3 s).k1
          have q2 := fun s => (hk3 s).k2
          have q3 := fun s => (hk3 s).k3
          have q4 := fun s => (hk3 s).k4
          have kc3 : W3.cell? ⟨g, k, none⟩ = some (.string y) := (h3.cell hgl).trans lg
          have hl3 : g < W3.heap.size := Nat.lt_of_lt_of_le hgl h3.size
          have kc4 := fun s => (later_cell (w := W3.alloc (.cells #[.int .u8 c', .int .u8 a', .int .u8 b', .int .u8 d', .int .i16 n'] 27)) (s := s) (a := ⟨g, k, none⟩) (by simp; omega)).trans ((World.cell?_alloc_past _ g k hl3).trans kc3)
          have GW := Lib.hid (fun s => below_up (below_more (below_up (HB.out) h3) (.cells #[.int .u8 c', .int .u8 a', .int .u8 b', .int .u8 d', .int .i16 n'] 27)) (below_later _ s))
          have tt : (y.toList != y.toList) = false := by simp
          clear hk3 lg hgl kc3 hl3 c0 c1 c2 c3 c4 hbl
          go_wp2_with fail
          refine wp_region_later (by kernel_rfl) (by kernel_rfl) ?_
          repeat (go_big_quiet_step (first | (go_at_call 6; exact later_left (HTX.out _))))
          refine wpQuiet_nil ?_
          rintro _ ⟨s, rfl⟩
          go_wp2
          go_roundw
          case rel => exact ⟨k + 1, by omega, by go_num, GW.out s⟩
          case measure => simp [intOf]; omega
        · obtain rfl : k = j := by omega
          have BW := Lib.hid (below_up (B2.out) (HB.out))
          go_wp2
          go_ret
          exact ⟨rfl, BW.out⟩
end Go.Proofs.YtclieoeaknlfbaaDoor
