/-
  LineTakes' walk.
-/
import Derived.Test.YtfiahkjaeeoepaaDoorLD
namespace Go.Proofs.YtfiahkjaeeoepaaDoor
open Go.ChangeShapes Go.WideShapes Go.ChangeAt Go.RowKit
set_option maxRecDepth 100000
set_option linter.unusedVariables false

/-- What the law has found behind k rounds, from line 7 down. -/
def wl (o : Bool) (x : Nat) : Nat → Int
  | 0 => -1
  | k + 1 => if (o && x.testBit (7 - k)) = true then ((7 - k : Nat) : Int) else wl o x k
theorem wl_shut (x : Nat) : ∀ k, wl false x k = -1
  | 0 => rfl
  | k + 1 => by simp only [wl]; rw [if_neg (by simp)]; exact wl_shut x k
theorem wl_end (x : Nat) (hx : x < 256) : wl true x 8 = if x = 0 then -1 else ((Lib.ctz 64 x : Nat) : Int) := by
  have h : ∀ x < 256, wl true x 8 = if x = 0 then -1 else ((Lib.ctz 64 x : Nat) : Int) := by decide +kernel
  exact h x hx
theorem shr_bit (x i : Nat) : (((x : Int) / 2 ^ i).tmod 2 == 1) = x.testBit i := by
  have e : (x : Int) / 2 ^ i = ((x / 2 ^ i : Nat) : Int) := by simp
  rw [e, Int.tmod_eq_emod_of_nonneg (Int.natCast_nonneg _)]
  have h : (((x / 2 ^ i : Nat) : Int) % 2) = ((WM.bitN x i : Nat) : Int) := by
    unfold WM.bitN
    generalize x / 2 ^ i = y
    omega
  rw [h, WM.bitN_eq]
  cases x.testBit i <;> rfl
theorem wl_yes (o : Bool) (x k : Nat) (hk : k < 8) (h : (o && x.testBit (7 - k)) = true) : (7 - (k : Int)) = wl o x (k + 1) := by simp only [wl]; rw [if_pos h]; omega
theorem wl_no (o : Bool) (x k : Nat) (h : (o && x.testBit (7 - k)) = false) : wl o x k = wl o x (k + 1) := by simp only [wl]; rw [if_neg (by rw [h]; simp)]
theorem sub_wrap (p k : Nat) (hp : p < 256) (hk : k < 8) (h : p.testBit k = true) : IntKind.u32.wrap ((p : Int) - IntKind.u32.wrap (2 ^ k)) = ((p - 2 ^ k : Nat) : Int) := by
  have h2 := Nat.ge_two_pow_of_testBit h
  have hk2 : 2 ^ k < 2 ^ 8 := Nat.pow_lt_pow_right (by decide) hk
  have e : ((2 : Int) ^ k) = ((2 ^ k : Nat) : Int) := by simp
  rw [e]
  generalize 2 ^ k = t at *
  rw [IntKind.wrap_u32, IntKind.wrap_u32]
  omega
theorem next_not {w : World} {B : Nat} {s : SV} (h : LS w B s) (hp : s.pd < 4294967296) (hm : s.ma < 4294967296) (h0 : s.op = false ∨ coN s = 0) :
    Calls Tryd.prog 12 #[.pointer (some ⟨B, 0, none⟩)] w fun e w' => e = .returned (.tuple #[.int .i64 0, .bool false]) ∧ ∃ n, w' = w.drewN n := by
  rcases h0 with h0 | h0
  · exact next_shut h h0
  · exact next_none h hp hm h0
set_option maxHeartbeats 2000000 in
theorem takes_loop (S T : SV) (hT0 : nearV S = T) (w : World) (hT : TW w) : Calls Tryd.prog 4 #[S.agg] w fun e w' => e = .returned (.bool true) ∧ Below w.heap.size w w' := by
  have HZ := zeroS_run
  have HT := Lib.hid hT
  have HN := Lib.hid (near_in S)
  have HL := Lib.hid (ls_new w S)
  obtain ⟨n1, n2, n3⟩ := near_bounds S
  rw [hT0] at HN n1 n2 n3
  clear hT hT0
  have HSS := Lib.hid (fun w1 b1 => @ow2_start w w1 S T b1)
  have HAW := Lib.hid (fun U (h : TabAt U) => awake9_in U h)
  unfold SV.agg at *
  go_enter Tryd.func4, Tryd.ntmps4
  go_wp2_with (refine wpList_ldS rfl (.tmp 1) rfl w.heap.size rfl S HL.out ?_; unfold SV.agg)
  refine (HN.out _).mono ?_
  rintro e w1 ⟨rfl, b1⟩
  have O1 := Lib.hid (HSS.out w1 b1)
  have L1 := Lib.hid ((HL.out).below b1)
  have o1 := O1.out
  have c0 := o1.a.ls.op'
  have c2 := o1.a.ls.pd'
  have c3 := o1.a.ls.ma'
  clear b1 HSS HN HL o1
  go_wp2_with (first
    | (refine wpList_stS rfl (.tmp 1) (.tmp 11) rfl w.heap.size rfl S T rfl L1.out ?_)
    | (refine wpList_ldS rfl (.tmp 1) rfl w.heap.size rfl T (LS.put L1.out T) ?_; unfold SV.agg)
    | (refine wpList_stS rfl (.tmp 3) (.tmp 12) rfl w1.heap.size rfl SV.zero T rfl (ls_zero1 w1 _ _) ?_
       generalize (((w1.setRow w.heap.size T.cells).alloc (.cells SV.zero.cells 26)).setRow w1.heap.size T.cells) = W at *))
  go_loop [4, 5] (fun v i => ∃ k : Nat, k ≤ 8 ∧ i = .int .i64 (7 - (k : Int)) ∧ v = .int .i64 (wl T.op (coN T) k)) (fun _ i => (intOf i + 1).toNat)
  case atStart => exact ⟨0, by omega, by simp, rfl⟩
  case round =>
    obtain ⟨k, hk, rfl, rfl⟩ := hrel
    by_cases hlt : k < 8
    · cases ho : T.op
      · rw [ho] at c0
        go_wp2
        go_round
        case rel => exact ⟨k + 1, by omega, by go_num, by rw [wl_shut, wl_shut]⟩
        case measure => simp [intOf]; omega
      · rw [ho] at c0
        cases hb1 : T.pd.testBit (7 - k)
        · have z1 := shr_bit T.pd (7 - k)
          rw [hb1] at z1
          have HH := Lib.hid (wl_no true (coN T) k (by rw [coN_bit, hb1]; rfl))
          clear hb1
          go_wp2
          go_round
          case rel => exact ⟨k + 1, by omega, by go_num, by rw [HH.out]⟩
          case measure => simp [intOf]; omega
        · have z1 := shr_bit T.pd (7 - k)
          rw [hb1] at z1
          cases hb2 : T.ma.testBit (7 - k)
          · have z2 := shr_bit T.ma (7 - k)
            rw [hb2] at z2
            have HH := Lib.hid (wl_no true (coN T) k (by rw [coN_bit, hb1, hb2]; rfl))
            clear hb1 hb2
            go_wp2
            go_round
            case rel => exact ⟨k + 1, by omega, by go_num, by rw [HH.out]⟩
            case measure => simp [intOf]; omega
          · have z2 := shr_bit T.ma (7 - k)
            rw [hb2] at z2
            have HH := Lib.hid (wl_yes true (coN T) k hlt (by rw [coN_bit, hb1, hb2]; rfl))
            clear hb1 hb2
            go_wp2
            go_round
            case rel => exact ⟨k + 1, by omega, by go_num, by rw [HH.out]⟩
            case measure => simp [intOf]; omega
    · obtain rfl : k = 8 := by omega
      clear hlt hk c2 c3 L1
      by_cases hy : T.op = true ∧ coN T ≠ 0
      · obtain ⟨ho, h0⟩ := hy
        rw [ho, wl_end _ (coN_lt8 T n2), if_neg h0]
        obtain ⟨k8, hkb⟩ := ctz_bit (coN T) (coN_lt8 T n2) h0
        have hb2 : T.pd.testBit (Lib.ctz 64 (coN T)) = true := by rw [coN_bit] at hkb; exact (Bool.and_eq_true_iff.1 hkb).1
        have HX := Lib.hid (next_yes (O1.out).a.ls ((O1.out).a.tab HT.out) (by omega) (by omega) h0 ho)
        have HK := Lib.hid (fun U (h : LS U w.heap.size T) hU => take_yes h hU n2 n3 h0 ho)
        have HV := Lib.hid (sub_wrap T.pd _ n2 k8 hb2)
        have HS := Lib.hid (fun U B (h : LS U B T) => show Sn U ((U.setCell ⟨B, 24, none⟩ (.int .u32 ((T.pd - 2 ^ Lib.ctz 64 (coN T) : Nat) : Int))).drew) B (takeV T) from ⟨h.setPd _, ⟨rfl, rfl, rfl, (grown_setCellS U ⟨B, 24, none⟩ _).size, (grown_setCellS U ⟨B, 24, none⟩ _).block⟩⟩)
        clear hkb hb2 ho h0 n1 n2 n3
        generalize w1.heap.size = C at *
        generalize takeV T = R at *
        generalize Lib.ctz 64 (coN T) = c at *
        generalize T.pd - 2 ^ c = q at *
        have zc : ¬ (c : Int) < 0 := by omega
        go_wp2_with fail
        refine (HX.out).mono ?_
        rintro e w2 ⟨rfl, n, rfl⟩
        have O2 := Lib.hid ((O1.out).drawn n)
        clear O1 HX c0
        generalize W.drewN n = W2 at *
        go_wp2_with (first
          | (refine wpList_ldS rfl (.tmp 1) rfl w.heap.size rfl T (O2.out).a.ls ?_)
          | (refine wpList_ldS rfl (.tmp 3) rfl C rfl T (O2.out).b.ls ?_)
          | (refine wpList_neS rfl (.tmp 40) (.tmp 41) rfl T rfl rfl ?_))
        refine (HK.out _ (O2.out).a.ls ((O2.out).a.tab HT.out)).mono ?_
        rintro e w3 ⟨rfl, h3⟩
        have O3 := Lib.hid ((O2.out).turnA h3)
        clear O2 h3 HK
        have c2 := (O3.out).b.ls.pd'
        have cf := (O3.out).b.ls.fz 24
        go_wp2_with fail
        go_region_with (fail)
        all_goals rw [HV.out]
        have O4 := Lib.hid ((O3.out).turnB (HS.out _ _ (O3.out).b.ls))
        clear O3 HS HV c2 cf
        generalize (w3.setCell ⟨C, 24, none⟩ (.int .u32 (q : Int))).drew = W4 at *
        go_wp2_with fail
        refine (HAW.out _ ((O4.out).a.tab HT.out)).mono ?_
        rintro e w5 ⟨rfl, b5⟩
        have O5 := Lib.hid ((O4.out).below b5)
        clear b5 O4
        go_wp2_with (first
          | (refine wpList_ldS rfl (.tmp 1) rfl w.heap.size rfl R (O5.out).a.ls ?_)
          | (refine wpList_ldS rfl (.tmp 3) rfl C rfl R (O5.out).b.ls ?_)
          | (refine wpList_eqS rfl (.tmp 95) (.tmp 96) rfl R rfl rfl ?_))
        go_ret
        exact ⟨rfl, (O5.out).a.bel⟩
      · have hv : wl T.op (coN T) 8 = -1 := by
          cases ho : T.op
          · exact wl_shut _ 8
          · rw [ho] at hy
            rw [wl_end _ (coN_lt8 T n2), if_pos (by simpa using hy)]
        have hno : T.op = false ∨ coN T = 0 := by
          cases ho : T.op
          · exact .inl rfl
          · rw [ho] at hy
            exact .inr (by simpa using hy)
        rw [hv]
        have HX := Lib.hid (next_not (O1.out).a.ls (by omega) (by omega) hno)
        have HK := Lib.hid (fun U (h : LS U w.heap.size T) => take_none h (by omega) (by omega) hno)
        clear hy hv hno c0 n1 n2 n3
        generalize w1.heap.size = C at *
        go_wp2_with fail
        refine (HX.out).mono ?_
        rintro e w2 ⟨rfl, n, rfl⟩
        have O2 := Lib.hid ((O1.out).drawn n)
        go_wp2_with (first
          | (refine wpList_ldS rfl (.tmp 1) rfl w.heap.size rfl T (O2.out).a.ls ?_)
          | (refine wpList_ldS rfl (.tmp 3) rfl C rfl T (O2.out).b.ls ?_)
          | (refine wpList_neS rfl (.tmp 40) (.tmp 41) rfl T rfl rfl ?_))
        refine (HK.out _ (O2.out).a.ls).mono ?_
        rintro e w3 ⟨rfl, m, rfl⟩
        have O3 := Lib.hid ((O1.out).drawn (n + m))
        clear O2 O1
        go_wp2_with fail
        refine (HAW.out _ ((O3.out).a.tab HT.out)).mono ?_
        rintro e w4 ⟨rfl, b4⟩
        have O4 := Lib.hid ((O3.out).below b4)
        clear b4 O3
        go_wp2_with (first
          | (refine wpList_ldS rfl (.tmp 1) rfl w.heap.size rfl T (O4.out).a.ls ?_)
          | (refine wpList_ldS rfl (.tmp 3) rfl C rfl T (O4.out).b.ls ?_)
          | (refine wpList_eqS rfl (.tmp 67) (.tmp 68) rfl T rfl rfl ?_))
        go_ret
        exact ⟨rfl, (O4.out).a.bel⟩
theorem lineTakes_core (S : SV) (w : World) (hT : TW w) : Calls Tryd.prog 4 #[S.agg] w fun e w' => e = .returned (.bool true) ∧ Below w.heap.size w w' := takes_loop S _ rfl w hT
end Go.Proofs.YtfiahkjaeeoepaaDoor
