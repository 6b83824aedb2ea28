/-
  The walk of LeasePlays.
-/
import Derived.Test.YthafcgppopfdkaaHK
namespace Go.Proofs.Ythafcgppopfdkaa
open Go.ChangeShapes Go.WideShapes Go.ChangeAt Go.RowKit
set_option maxRecDepth 100000
set_option linter.unusedVariables false

set_option maxHeartbeats 80000000 in
theorem leasePlays_core (a : Option Addr) (len cap : Nat) (hlen : len ≤ 60) (w : World) (ha : ActL w a len) :
    Calls Try.prog 7 #[.slice a len cap] w fun e w' => e = .returned (.bool true) ∧ Below w.heap.size w w' := by
  have HZ := zeroB_run
  have HZ2 := zeroB2_run
  have HY := zeroL_run
  have HA := Lib.hid awake14_in
  have HACT := Lib.hid ha
  rw [zB_is] at HZ HZ2
  have hl2 : ¬ (60 : Int) < (len : Int) := by omega
  clear ha
  go_enter Try.func7, Try.ntmps7
  go_wp2_with fail
  refine (HA.out _).mono ?_
  rintro e w1 ⟨rfl, b1⟩
  have o1 := ob_new b1 44 (BKA zB)
  have o2 := ob_new o1.bel 43 (BKA zB)
  rw [World.size_alloc] at o2
  have HI : Hid (LpI w ((w1.alloc (.cells (BKA zB) 44)).alloc (.cells (BKA zB) 43)) w1.heap.size (w1.heap.size + 1) zB zB) := Lib.hid ⟨o1.below (below_new _ _), o2, by omega⟩
  clear b1 o1 o2
  go_upto_region 5 with fail
  generalize (w1.alloc (.cells (BKA zB) 44)).alloc (.cells (BKA zB) 43) = V at *
  obtain ⟨B, hB⟩ : ∃ B, w1.heap.size = B := ⟨_, rfl⟩
  obtain ⟨M, hM⟩ : ∃ M, B + 1 = M := ⟨_, rfl⟩
  rw [hB, hM] at HI
  rw [hB, hM]
  clear hB hM
  go_wp2_with fail
  go_loopw [5, 6, 7, 8, 9, 10, 11, 12, 13, 14, 15, 16, 17, 18, 19, 20] (fun i _ _ _ _ _ _ _ _ _ _ _ _ _ _ _ wr => ∃ (k : Nat) (b : Nat → LsV), k ≤ len ∧ i = .int .i64 k ∧ LpI w wr B M b b) (fun i _ _ _ _ _ _ _ _ _ _ _ _ _ _ _ _ => len - (intOf i).toNat)
  case atStart => exact ⟨0, _, by omega, rfl, HI.out⟩
  case round =>
    as_aux_lemma =>
    clear HI
    obtain ⟨k, b, hk, rfl, h0⟩ := hrel
    have H0 := Lib.hid h0
    clear h0
    by_cases hlt : k < len
    · have k1 : (k : Int) < (len : Int) := by omega
      obtain ⟨bb, off, rfl, hbl, K, N, VM, P, To, W, x0, x1, x2, x3, x4, x5, qK, qN, qV, qP, qT⟩ := (HACT.out) k hlt
      have hbw := (H0.out).b.bel
      have y0 := (hbw.cell (p := ⟨bb, off + k * 6 + 0, none⟩) hbl).trans x0
      have y1 := (hbw.cell (p := ⟨bb, off + k * 6 + 1, none⟩) hbl).trans x1
      have y2 := (hbw.cell (p := ⟨bb, off + k * 6 + 2, none⟩) hbl).trans x2
      have y3 := (hbw.cell (p := ⟨bb, off + k * 6 + 3, none⟩) hbl).trans x3
      have y4 := (hbw.cell (p := ⟨bb, off + k * 6 + 4, none⟩) hbl).trans x4
      have y5 := (hbw.cell (p := ⟨bb, off + k * 6 + 5, none⟩) hbl).trans x5
      rw [Nat.add_zero] at y0
      have H1 := Lib.hid ((H0.out).below (below_new wr (.cells (acF K N VM P To W) 46)))
      have A1 : Hid (AcI w (wr.alloc (.cells (acF K N VM P To W) 46)) wr.heap.size K N VM P To W) := Lib.hid ⟨ob_new (H0.out).b.bel 46 (acF K N VM P To W)⟩
      have hMX := (H0.out).l.bl.lt
      clear hbw x0 x1 x2 x3 x4 x5 hbl qN qV qP qT
      unfold acF at H1 A1
      go_upto_region 9 with fail
      clear y0 y1 y2 y3 y4 y5
      generalize wr.alloc (.cells #[.int .u8 K, .int .i64 N, .int .i64 VM, .int .i64 P, .int .i64 To, .bool W] 46) = V1 at *
      generalize wr.heap.size = X at *
      clear H0
      obtain ⟨vb, hvb⟩ : ∃ v, decide (0 ≤ VM ∧ VM < 6) = v := ⟨_, rfl⟩
      obtain ⟨pb, hpb⟩ : ∃ v, decide (0 ≤ P ∧ P < 32) = v := ⟨_, rfl⟩
      go_cut [7] from 39 to 46 (fun g wx => LpI w wx B M b b ∧ AcI w wx X K N VM P To W ∧ g = .bool vb)
      case first =>
        as_aux_lemma =>
        obtain ⟨a0, a1, a2, a3, a4, a5⟩ := (A1.out).cells
        clear a0 a1 a3 a4 a5
        by_cases c1 : 0 ≤ VM
        · by_cases c2 : VM < 6
          · obtain rfl : vb = true := by rw [← hvb]; exact decide_eq_true ⟨c1, c2⟩
            go_wp2
            go_meet
            exact ⟨H1.out, A1.out, rfl⟩
          · obtain rfl : vb = false := by rw [← hvb]; exact decide_eq_false (fun h => c2 h.2)
            go_wp2
            go_meet
            exact ⟨H1.out, A1.out, rfl⟩
        · obtain rfl : vb = false := by rw [← hvb]; exact decide_eq_false (fun h => c1 h.1)
          go_wp2
          go_meet
          exact ⟨H1.out, A1.out, rfl⟩
      case rest =>
      as_aux_lemma =>
      obtain ⟨hl1, ha1, rfl⟩ := hcut
      replace H1 := Lib.hid hl1
      replace A1 := Lib.hid ha1
      clear hl1 ha1
      go_upto_region 10 with fail
      go_cut [8] from 47 to 54 (fun g wx => LpI w wx B M b b ∧ AcI w wx X K N VM P To W ∧ g = .bool pb)
      case first =>
        as_aux_lemma =>
        obtain ⟨a0, a1, a2, a3, a4, a5⟩ := (A1.out).cells
        clear a0 a1 a2 a4 a5
        by_cases c1 : 0 ≤ P
        · by_cases c2 : P < 32
          · obtain rfl : pb = true := by rw [← hpb]; exact decide_eq_true ⟨c1, c2⟩
            go_wp2
            go_meet
            exact ⟨H1.out, A1.out, rfl⟩
          · obtain rfl : pb = false := by rw [← hpb]; exact decide_eq_false (fun h => c2 h.2)
            go_wp2
            go_meet
            exact ⟨H1.out, A1.out, rfl⟩
        · obtain rfl : pb = false := by rw [← hpb]; exact decide_eq_false (fun h => c1 h.1)
          go_wp2
          go_meet
          exact ⟨H1.out, A1.out, rfl⟩
      case rest =>
      as_aux_lemma =>
      obtain ⟨hl1, ha1, rfl⟩ := hcut
      replace H1 := Lib.hid hl1
      replace A1 := Lib.hid ha1
      clear hl1 ha1
      obtain ⟨kk, hkk⟩ : ∃ q : Nat, K % 8 = q := ⟨_, rfl⟩
      have hki : (K : Int) % 8 = (kk : Nat) := by omega
      have k8 : kk < 8 := by omega
      obtain ⟨lb, hlb⟩ : ∃ v, decide ((kk : Int) < 3) = v := ⟨_, rfl⟩
      have HVB := Lib.hid hvb
      have HPB := Lib.hid hpb
      have HKI := Lib.hid hki
      have hl3 : lb = true ↔ kk < 3 := by rw [← hlb, decide_eq_true_iff]; omega
      clear hvb hpb hkk hki
      obtain ⟨a0, a1, a2, a3, a4, a5⟩ := (A1.out).cells
      clear a1 a2 a3 a4 a5
      go_upto_region 12 with fail
      rw [HKI.out]
      clear a0 qK
      go_upto_if 59 with fail
      go_cut [10, 11, 12, 13, 14, 15, 16, 17, 18, 19, 20] from 60 to 275 (fun _ _ _ _ _ _ _ _ _ _ _ wx => ∃ b', LpI w wx B M b' b')
      case first =>
        as_aux_lemma =>
        cases hlb2 : lb
        · rw [hlb2] at hl3
          have k3 : 3 ≤ kk := by
            have h : ¬ kk < 3 := fun h => by cases hl3.2 h
            omega
          clear hl3
          subst hlb2
          by_cases k7 : kk = 7
          · as_aux_lemma =>
            subst k7
            clear k3 k8
            go_upto_region 31 with fail
            obtain ⟨a0, a1, a2, a3, a4, a5⟩ := (A1.out).cells
            clear a0 a2 a3 a4 a5
            have HD := Lib.hid (drop_in b N)
            go_wp2_with (refine wpList_ldB rfl (.tmp 3) rfl B rfl 44 b (H1.out).b.bl ?_)
            refine (HD.out _).mono ?_
            rintro e w5 ⟨rfl, b5⟩
            have H5 := Lib.hid ((H1.out).below b5)
            have A5 := Lib.hid ((A1.out).below b5)
            have H6 := Lib.hid ((H5.out).putB (dropB b N))
            have A6 := Lib.hid ((A5.out).kept (grown_setRow w5 B (BKA (dropB b N))) (by have := (H1.out).ne; omega) (H5.out).b.lb)
            clear b5 a1 A5 HD H1 A1
            go_upto_region 32 with (refine wpList_stB rfl (.tmp 3) (.tmp 153) rfl B rfl 44 b (dropB b N) rfl (H5.out).b.bl ?_)
            clear H5
            generalize w5.setRow B (BKA (dropB b N)) = W5 at *
            obtain ⟨a0, a1, a2, a3, a4, a5⟩ := (A6.out).cells
            clear a0 a2 a3 a4 a5
            by_cases n0 : 0 ≤ N
            · by_cases n1 : N < 16
              · obtain ⟨m, rfl⟩ := Int.eq_ofNat_of_zero_le n0
                have hm : m < 16 := by omega
                have ed : dropB b (m : Int) = updA b m LsV.zero := by unfold dropB; rw [if_pos ⟨n0, n1⟩]; rfl
                rw [ed] at H6
                have H7 := Lib.hid ((H6.out).putL m hm LsV.zero)
                obtain ⟨c0, c1, c2, c3, c4, c5⟩ := (H6.out).l.bl.row6 m hm
                have f := (H6.out).l.bl.fz
                clear ed
                go_wp2_with (refine wpList_bdz rfl rfl ?_)
                go_meet
                exact ⟨_, H7.out⟩
              · have ed : dropB b N = b := by unfold dropB; rw [if_neg (fun h => n1 h.2)]
                rw [ed] at H6
                clear ed
                go_wp2
                go_meet
                exact ⟨_, H6.out⟩
            · have ed : dropB b N = b := by unfold dropB; rw [if_neg (fun h => n0 h.1)]
              rw [ed] at H6
              clear ed
              go_wp2
              go_meet
              exact ⟨_, H6.out⟩

          · as_aux_lemma =>
            have z7 : ((kk : Int) == 7) = false := by simp; omega
            have k67 : kk = 3 ∨ kk = 4 ∨ kk = 5 ∨ kk = 6 := by omega
            clear k3 k8
            go_upto_region 34 with fail
            clear z7
            have S0 := Lib.hid (sxI_new (H1.out) (A1.out) hMX)
            have Z0 := Lib.hid (newL wc LsV.zero)
            go_upto_region 35 with (first
              | (refine wpList_bd0 rfl rfl ?_)
              | (refine wpList_stL rfl (.tmp 16) (.tmp 166) rfl wc.heap.size rfl LsV.zero LsV.zero rfl Z0.out ?_))
            clear Z0 H1 A1 hMX
            generalize (wc.alloc (.cells LsV.zero.cells 42)).setRow wc.heap.size LsV.zero.cells = W0 at *
            generalize wc.heap.size = Y at *
            obtain ⟨nb, hnb⟩ : ∃ v, decide (0 ≤ N ∧ N < 16) = v := ⟨_, rfl⟩
            go_simp
            go_cut [174] from 167 to 173 (fun g wx => SxI w wx B M X Y b K N VM P To W LsV.zero ∧ g = .bool nb)
            case first =>
              as_aux_lemma =>
              obtain ⟨a0, a1, a2, a3, a4, a5⟩ := (S0.out).a.cells
              clear a0 a2 a3 a4 a5
              by_cases c1 : 0 ≤ N
              · by_cases c2 : N < 16
                · obtain rfl : nb = true := by rw [← hnb]; exact decide_eq_true ⟨c1, c2⟩
                  go_wp2
                  go_meet
                  exact ⟨S0.out, rfl⟩
                · obtain rfl : nb = false := by rw [← hnb]; exact decide_eq_false (fun h => c2 h.2)
                  go_wp2
                  go_meet
                  exact ⟨S0.out, rfl⟩
              · obtain rfl : nb = false := by rw [← hnb]; exact decide_eq_false (fun h => c1 h.1)
                go_wp2
                go_meet
                exact ⟨S0.out, rfl⟩
            case rest =>
            as_aux_lemma =>
            obtain ⟨hs1, rfl⟩ := hcut
            replace S0 := Lib.hid hs1
            clear hs1
            go_upto_if 174 with fail
            go_cut [17] from 175 to 178 (fun _ wx => SxI w wx B M X Y b K N VM P To W (xOf b N))
            case first =>
              as_aux_lemma =>
              cases hnb2 : nb
              · have ex : Hid (xOf b N = LsV.zero) := Lib.hid (by unfold xOf; rw [if_neg (of_decide_eq_false (hnb.trans hnb2))])
                subst hnb2
                clear hnb
                go_wp2
                go_meet
                rw [ex.out]
                exact S0.out
              · have hn := of_decide_eq_true (hnb.trans hnb2)
                subst hnb2
                clear hnb
                obtain ⟨m, rfl⟩ := Int.eq_ofNat_of_zero_le hn.1
                have hm : m < 16 := by omega
                have ex : Hid (xOf b (m : Int) = b m) := Lib.hid (by unfold xOf; rw [if_pos hn]; rfl)
                have m0 : (0 : Int) ≤ (m : Int) := by omega
                have m1 : (m : Int) < 16 := by omega
                obtain ⟨a0, a1, a2, a3, a4, a5⟩ := (S0.out).a.cells
                have R := Lib.hid ((S0.out).l.l.bl.row6 m hm)
                have S1 := Lib.hid ((S0.out).putY (b m))
                clear a0 a2 a3 a4 a5 hn
                go_wp2_with (first
                  | (refine wpList_ldE rfl (.tmp 177) rfl M m rfl (b m) R.out ?_)
                  | (refine wpList_stL rfl (.tmp 16) (.tmp 178) rfl Y rfl LsV.zero (b m) rfl (S0.out).y.bl ?_))
                go_meet
                rw [ex.out]
                exact S1.out
            case rest =>
            as_aux_lemma =>
            replace S0 := Lib.hid hcut
            clear hcut hnb
            obtain ⟨x, hx⟩ : ∃ x, xOf b N = x := ⟨_, rfl⟩
            rw [hx] at S0
            have HXE := Lib.hid hx
            clear hx
            obtain ⟨b6, hb6⟩ : ∃ v, ((kk : Int) == 6) = v := ⟨_, rfl⟩
            have HB6 : Hid (b6 = true ↔ kk = 6) := Lib.hid (by rw [← hb6]; simp; omega)
            obtain ⟨y0, y1, y3, y5⟩ := (S0.out).ycells
            clear y0 y1 y5
            go_upto_if 182 with fail
            clear hb6 y3
            go_cut [17] from 183 to 184 (fun g wx => SxI w wx B M X Y b K N VM P To W x ∧ g = .int .i64 (own kk x))
            case first =>
              as_aux_lemma =>
              obtain ⟨y0, y1, y3, y5⟩ := (S0.out).ycells
              clear y0 y3 y5
              cases b6
              · have e : Hid (own kk x = x.to) := Lib.hid (by unfold own; rw [if_neg (fun h => by have := (HB6.out).2 h; cases this)])
                clear y1
                go_wp2
                go_meet
                exact ⟨S0.out, by rw [e.out]⟩
              · have e : Hid (own kk x = x.fr) := Lib.hid (by unfold own; rw [if_pos ((HB6.out).1 rfl)])
                go_wp2
                go_meet
                exact ⟨S0.out, by rw [e.out]⟩
            case rest =>
            as_aux_lemma =>
            obtain ⟨hs1, rfl⟩ := hcut
            replace S0 := Lib.hid hs1
            clear hs1
            go_upto_block 4 with fail
            obtain ⟨ow, how⟩ : ∃ v, own kk x = v := ⟨_, rfl⟩
            rw [how]
            have HOW := Lib.hid how
            clear how
            go_cut [18] from 185 to 216 (fun g wx => SxI w wx B M X Y b K N VM P To W x ∧ g = .int .i64 (wE kk x VM pb))
            case first =>
              as_aux_lemma =>
              obtain ⟨y0, y1, y3, y5⟩ := (S0.out).ycells
              obtain ⟨a0, a1, a2, a3, a4, a5⟩ := (S0.out).a.cells
              clear y1 y3 a0 a1 a3 a4 a5
              cases hon : x.on
              · have e : Hid (wE kk x VM pb = 2) := Lib.hid (wE_2 hon)
                rw [hon] at y0
                clear hon y5 a2 k67
                go_wp2
                go_meet
                exact ⟨S0.out, by rw [e.out]⟩
              rw [hon] at y0
              by_cases h1 : ow = VM
              · have z1 : (ow != VM) = false := by simp [h1]
                have h1' := (HOW.out).trans h1
                by_cases k5 : kk = 5
                · have z5 : ((kk : Int) == 5) = true := by simp; omega
                  by_cases h2 : x.at_ < 0
                  · have e : Hid (wE kk x VM pb = 10) := Lib.hid (wE_10 hon h1' k5 h2)
                    clear hon h1 h1' k5 k67
                    go_wp2
                    go_meet
                    exact ⟨S0.out, by rw [e.out]⟩
                  · have e : Hid (wE kk x VM pb = 0) := Lib.hid (by rw [wE_rest hon h1' (.inl ⟨k5, by omega⟩), if_neg (by omega)])
                    have n5 : ((kk : Int) != 5) = false := by simp; omega
                    have l5 : ¬ ((kk : Int) < 5) := by omega
                    clear hon h1 h1' k5 k67
                    go_wp2
                    go_meet
                    exact ⟨S0.out, by rw [e.out]⟩
                · have z5 : ((kk : Int) == 5) = false := by simp; omega
                  have n5 : ((kk : Int) != 5) = true := by simp; omega
                  by_cases h2 : 0 ≤ x.at_
                  · have e : Hid (wE kk x VM pb = 8) := Lib.hid (wE_8 hon h1' k5 h2)
                    clear hon h1 h1' k5 k67
                    go_wp2
                    go_meet
                    exact ⟨S0.out, by rw [e.out]⟩
                  · have er := wE_rest (pb := pb) hon h1' (.inr ⟨k5, by omega⟩)
                    by_cases l5 : (kk : Int) < 5
                    · cases pb
                      · have e : Hid (wE kk x VM false = 1) := Lib.hid (by rw [er, if_pos ⟨by omega, rfl⟩])
                        clear hon h1 h1' k5 k67 er
                        go_wp2
                        go_meet
                        exact ⟨S0.out, by rw [e.out]⟩
                      · have e : Hid (wE kk x VM true = 0) := Lib.hid (by rw [er, if_neg (by simp)])
                        clear hon h1 h1' k5 k67 er
                        go_wp2
                        go_meet
                        exact ⟨S0.out, by rw [e.out]⟩
                    · have e : Hid (wE kk x VM pb = 0) := Lib.hid (by rw [er, if_neg (by omega)])
                      clear hon h1 h1' k5 k67 er
                      go_wp2
                      go_meet
                      exact ⟨S0.out, by rw [e.out]⟩
              · have z1 : (ow != VM) = true := by simp [h1]
                have e : Hid (wE kk x VM pb = 7) := Lib.hid (wE_7 hon (by rw [HOW.out]; exact h1))
                clear hon h1 y5 k67
                go_wp2
                go_meet
                exact ⟨S0.out, by rw [e.out]⟩
            case rest =>
            as_aux_lemma =>
            obtain ⟨hs1, rfl⟩ := hcut
            replace S0 := Lib.hid hs1
            obtain ⟨we, hwe⟩ : ∃ v, wE kk x VM pb = v := ⟨_, rfl⟩
            rw [hwe]
            have HWE := Lib.hid hwe
            clear hs1 HOW hwe
            have S1 := Lib.hid ((S0.out).below (lay_below wc 44 (BKA zB) (BKA b)))
            have O1 := Lib.hid (ob_lay (S0.out).y.bel 44 (BKA zB) (BKA b))
            have Z1 := Lib.hid (bl_new wc 44 (BKA zB))
            have hYZ := (S0.out).y.bl.lt
            go_upto_block 5 with (first
              | (refine wpList_ldB rfl (.tmp 3) rfl B rfl 44 b (S0.out).l.b.bl ?_)
              | (refine wpList_stB rfl (.tmp 19) (.tmp 217) rfl wc.heap.size rfl 44 zB b rfl Z1.out ?_))
            clear Z1 S0
            generalize (wc.alloc (.cells (BKA zB) 44)).setRow wc.heap.size (BKA b) = W1 at *
            generalize wc.heap.size = Z at *
            go_cut [20] from 219 to 256 (fun g wx => ∃ c x', SxI w wx B M X Y b K N VM P To W x' ∧ OB w wx Z 44 (BKA c) ∧ g = .int .i64 we ∧ (we ≠ 0 → c = b) ∧ (we = 0 → ∃ m : Nat, N = (m : Nat) ∧ m < 16 ∧ c = updA b m x'))
            case first =>
              as_aux_lemma =>
              obtain ⟨a0, a1, a2, a3, a4, a5⟩ := (S1.out).a.cells
              by_cases k5 : kk = 5
              · have z5 : ((kk : Int) == 5) = true := by simp; omega
                have hw : leaE b N VM = we := by rw [← HWE.out, k5, ← HXE.out]; exact (wE_lea b N VM pb).symm
                have HK := Lib.hid (leave_in b N VM)
                have hno := @lea_no b N VM
                have hyes := @lea_put b N VM
                rw [hw] at HK hno hyes
                rw [HXE.out] at hyes
                have HNO := Lib.hid hno
                have HYES := Lib.hid hyes
                generalize leaB b N VM = c at *
                clear hw hno hyes k5 k67 a0 a3 a4 a5
                go_wp2_with (refine wpList_ldB rfl (.tmp 3) rfl B rfl 44 b (S1.out).l.b.bl ?_)
                refine (HK.out _).mono ?_
                rintro e w5 ⟨rfl, b5⟩
                have S5 := Lib.hid ((S1.out).below b5)
                have O5 := Lib.hid ((O1.out).below b5)
                have S6 := Lib.hid ((S5.out).turn (grown_setRow w5 Z (BKA c)) hYZ)
                have O6 := Lib.hid ((O5.out).put (BKA c))
                have S7 := Lib.hid ((S6.out).putAt (-1))
                have O7 := Lib.hid ((O6.out).kept (grown_setCell (w5.setRow Z (BKA c)) ⟨Y, 5, none⟩ (.int .i64 (-1))) (by dsimp only; omega) (S6.out).y.lb)
                obtain ⟨y0, y1, y3, y5⟩ := (S6.out).ycells
                have fy := (S6.out).y.bl.fz 5
                clear b5 S1 O1 a1 a2 z5 y0 y1 y3 HK
                go_wp2_with (refine wpList_stB rfl (.tmp 19) (.tmp 242) rfl Z rfl 44 b c rfl (O5.out).bl ?_)
                go_meet
                exact ⟨c, _, S7.out, O7.out, rfl, HNO.out, HYES.out⟩
              have z5 : ((kk : Int) == 5) = false := by simp; omega
              by_cases k6 : kk = 6
              · have z6 : ((kk : Int) == 6) = true := by simp; omega
                have hw : witE b N VM = we := by rw [← HWE.out, k6, ← HXE.out]; exact (wE_wit b N VM pb).symm
                have HK := Lib.hid (withdraw_in b N VM)
                have hno := @wit_no b N VM
                have hyes := @wit_put b N VM
                rw [hw] at HK hno hyes
                have HNO := Lib.hid hno
                have HYES := Lib.hid hyes
                generalize witB b N VM = c at *
                clear hw hno hyes k5 k6 k67 a0 a3 a4 a5
                go_wp2_with (refine wpList_ldB rfl (.tmp 3) rfl B rfl 44 b (S1.out).l.b.bl ?_)
                refine (HK.out _).mono ?_
                rintro e w5 ⟨rfl, b5⟩
                have S5 := Lib.hid ((S1.out).below b5)
                have O5 := Lib.hid ((O1.out).below b5)
                have S6 := Lib.hid ((S5.out).turn (grown_setRow w5 Z (BKA c)) hYZ)
                have O6 := Lib.hid ((O5.out).put (BKA c))
                have S7 := Lib.hid ((S6.out).putY LsV.zero)
                have O7 := Lib.hid ((O6.out).kept (grown_setRow (w5.setRow Z (BKA c)) Y LsV.zero.cells) (by omega) (S6.out).y.lb)
                clear b5 S1 O1 a1 a2 z5 z6 HK
                go_wp2_with (first
                  | (refine wpList_stB rfl (.tmp 19) (.tmp 254) rfl Z rfl 44 b c rfl (O5.out).bl ?_)
                  | (refine wpList_bd0 rfl rfl ?_)
                  | (refine wpList_stL rfl (.tmp 16) (.tmp 256) rfl Y rfl x LsV.zero rfl (S6.out).y.bl ?_))
                go_meet
                exact ⟨c, _, S7.out, O7.out, rfl, HNO.out, HYES.out⟩
              have z6 : ((kk : Int) == 6) = false := by simp; omega
              have k34 : kk = 3 ∨ kk = 4 := by omega
              have hw : accE b N VM P = we := by rw [← HWE.out, ← HXE.out, ← HPB.out]; exact (wE_acc b N VM P kk k34).symm
              have HK := Lib.hid (accept_in b N VM P)
              have hno := @acc_no b N VM P
              have hyes := @acc_put b N VM P
              rw [hw] at HK hno hyes
              rw [HXE.out] at hyes
              have HNO := Lib.hid hno
              have HYES := Lib.hid hyes
              generalize accB b N VM P = c at *
              clear hw hno hyes k5 k6 k67 k34 a0 a4 a5
              go_wp2_with (refine wpList_ldB rfl (.tmp 3) rfl B rfl 44 b (S1.out).l.b.bl ?_)
              refine (HK.out _).mono ?_
              rintro e w5 ⟨rfl, b5⟩
              have S5 := Lib.hid ((S1.out).below b5)
              have O5 := Lib.hid ((O1.out).below b5)
              have S6 := Lib.hid ((S5.out).turn (grown_setRow w5 Z (BKA c)) hYZ)
              have O6 := Lib.hid ((O5.out).put (BKA c))
              have S7 := Lib.hid ((S6.out).putAt P)
              have O7 := Lib.hid ((O6.out).kept (grown_setCell (w5.setRow Z (BKA c)) ⟨Y, 5, none⟩ (.int .i64 P)) (by dsimp only; omega) (S6.out).y.lb)
              obtain ⟨y0, y1, y3, y5⟩ := (S6.out).ycells
              have fy := (S6.out).y.bl.fz 5
              have a3' := (S6.out).a.cells.2.2.2.1
              clear b5 S1 O1 a1 a2 a3 z5 z6 y0 y1 y3 HK
              go_wp2_with (refine wpList_stB rfl (.tmp 19) (.tmp 228) rfl Z rfl 44 b c rfl (O5.out).bl ?_)
              go_meet
              exact ⟨c, _, S7.out, O7.out, rfl, HNO.out, HYES.out⟩
            case rest =>
            as_aux_lemma =>
            obtain ⟨c, x', hs1, hz1, rfl, hno, hyes⟩ := hcut
            have S2 := Lib.hid hs1
            have O2 := Lib.hid hz1
            have HNO := Lib.hid hno
            have HYES := Lib.hid hyes
            have e1 : (we != we) = false := by simp
            clear S1 O1 hs1 hz1 hno hyes HWE HXE HB6 k67
            by_cases he : we = 0
            · as_aux_lemma =>
              obtain ⟨m, rfl, hm, hcm⟩ := (HYES.out) he
              have HCM := Lib.hid hcm
              have e2 : (we == 0) = true := by simp [he]
              have e3 : (we != 0) = false := by simp [he]
              have E2 := Lib.hid e2
              have S3 := Lib.hid ((S2.out).l.putB c)
              have A3 := Lib.hid ((S2.out).a.kept (grown_setRow wc B (BKA c)) (by have := (S2.out).lt; have := (S2.out).l.ne; omega) (S2.out).l.b.lb)
              have Y3 := Lib.hid ((S2.out).y.kept (grown_setRow wc B (BKA c)) (by have := (S2.out).lt; have := (S2.out).l.ne; omega) (S2.out).l.b.lb)
              clear he hcm HNO HYES
              go_upto_if 268 with fail
              clear e1 e2 e3
              go_upto_region 65 with (first
                | (refine wpList_ldB rfl (.tmp 19) rfl Z rfl 44 c (O2.out).bl ?_)
                | (refine wpList_stB rfl (.tmp 3) (.tmp 269) rfl B rfl 44 b c rfl (S2.out).l.b.bl ?_))
              clear S2 O2
              generalize wc.setRow B (BKA c) = W3 at *
              have S4 := (S3.out).putL m hm x'
              rw [← HCM.out] at S4
              have H4 := Lib.hid S4
              obtain ⟨c0, c1, c2, c3, c4, c5⟩ := (S3.out).l.bl.row6 m hm
              have f := (S3.out).l.bl.fz
              obtain ⟨a0, a1, a2, a3, a4, a5⟩ := (A3.out).cells
              have m0 : (0 : Int) ≤ (m : Int) := by omega
              have m1 : (m : Int) < 16 := by omega
              have e2 := E2.out
              clear a0 a2 a3 a4 a5 S3 A3 S4 HCM
              go_upto_if 271 with fail
              clear e2
              go_wp2_with (refine wpList_ldL6 rfl (.tmp 16) rfl Y rfl x' (Y3.out).bl ?_)
              go_meet
              exact ⟨_, H4.out⟩
            · as_aux_lemma =>
              obtain rfl := (HNO.out) he
              have e2 : (we == 0) = false := by simp [he]
              have e3 : (we != 0) = true := by simp [he]
              have S3 := Lib.hid ((S2.out).l.putB c)
              clear he HNO HYES
              go_wp2_with (first
                | (refine wpList_ldB rfl (.tmp 19) rfl Z rfl 44 c (O2.out).bl ?_)
                | (refine wpList_ldB rfl (.tmp 3) rfl B rfl 44 c (S2.out).l.b.bl ?_)
                | (refine wpList_neB rfl (.tmp 264) (.tmp 265) rfl c rfl rfl ?_)
                | (refine wpList_stB rfl (.tmp 3) (.tmp 269) rfl B rfl 44 c c rfl (S2.out).l.b.bl ?_))
              go_meet
              exact ⟨_, S3.out⟩

        · as_aux_lemma =>
          subst hlb2
          clear hl3 k8
          go_wp2_with fail
          go_loopw [11, 12] (fun m j wx => ∃ q : Nat, q ≤ 16 ∧ j = .int .i64 (15 - (q : Int)) ∧ m = .int .i64 (lsfN b q) ∧ wx = wc) (fun _ j _ => (intOf j + 1).toNat)
          case atStart => exact ⟨0, by omega, rfl, rfl, rfl⟩
          case round =>
            as_aux_lemma =>
            obtain ⟨q, hq, rfl, rfl, rfl⟩ := hrel
            by_cases hlq : q < 16
            · obtain ⟨p, hp⟩ : ∃ p : Nat, 15 - q = p := ⟨_, rfl⟩
              have p1 : (15 : Int) - (q : Int) = (p : Nat) := by omega
              have p2 : p < 16 := by omega
              have p3 : (0 : Int) ≤ (p : Int) := by omega
              have p4 : (p : Int) < 16 := by omega
              have c0 := ((H1.out).l.bl.row6 p p2).c0
              have e := Lib.hid (lsfN_succ b q)
              rw [hp] at e
              rw [p1]
              have Q1 := Lib.hid p1
              clear p1
              cases hon : (b p).on
              · rw [hon] at c0 e
                rw [if_pos rfl] at e
                clear hon
                generalize lsfN b q = m at *
                go_wp2
                go_roundw
                case rel => exact ⟨q + 1, by omega, by go_num, by rw [e.out], trivial⟩
                case measure => simp [intOf]
              · rw [hon] at c0 e
                rw [if_neg (by simp)] at e
                clear hon
                generalize lsfN b q = m at *
                go_wp2
                go_roundw
                case rel => exact ⟨q + 1, by omega, by go_num, by rw [e.out], trivial⟩
                case measure => simp [intOf]
            · obtain rfl : q = 16 := by omega
              rw [lsfN_is b]
              obtain ⟨a0, a1, a2, a3, a4, a5⟩ := (A1.out).cells
              clear a0 a1
              go_upto_region 20 with fail
              obtain ⟨ob, hob⟩ : ∃ v, badO VM P To = v := ⟨_, rfl⟩
              have HOB := Lib.hid hob
              go_cut [92] from 70 to 91 (fun g wx => LpI w wx B M b b ∧ AcI w wx X K N VM P To W ∧ g = .bool ob)
              case first =>
                as_aux_lemma =>
                have hbo : badO VM P To = !(vb && decide (0 ≤ To ∧ To < 6) && pb && !decide (VM = To)) := by unfold badO; rw [HVB.out, HPB.out]
                rw [hob] at hbo
                cases vb
                · obtain rfl : ob = true := by rw [hbo]; rfl
                  clear a2 a3 a4 a5 hob hbo
                  go_wp2
                  go_meet
                  exact ⟨H1.out, A1.out, rfl⟩
                cases pb
                · obtain rfl : ob = true := by rw [hbo]; simp
                  clear a2 a3 a4 a5 hob hbo
                  go_wp2
                  go_meet
                  exact ⟨H1.out, A1.out, rfl⟩
                by_cases t0 : To < 0
                · obtain rfl : ob = true := by rw [hbo, decide_eq_false (by omega)]; rfl
                  clear a2 a3 a5 hob hbo
                  go_wp2
                  go_meet
                  exact ⟨H1.out, A1.out, rfl⟩
                by_cases t5 : 5 < To
                · obtain rfl : ob = true := by rw [hbo, decide_eq_false (by omega)]; rfl
                  clear a2 a3 a5 hob hbo
                  go_wp2
                  go_meet
                  exact ⟨H1.out, A1.out, rfl⟩
                have ez : (VM == To) = ob := by
                  rw [hbo, decide_eq_true ⟨by omega, by omega⟩]
                  by_cases e : VM = To <;> simp [e]
                clear hob hbo a3 a5
                go_wp2
                go_meet
                exact ⟨H1.out, A1.out, rfl⟩
              case rest =>
              as_aux_lemma =>
              obtain ⟨hl1, ha1, rfl⟩ := hcut
              replace H1 := Lib.hid hl1
              replace A1 := Lib.hid ha1
              clear hl1 ha1
              clear a2 a3 a4 a5
              obtain ⟨ft, hft⟩ : ∃ v, fstB (freeB b) 16 = v := ⟨_, rfl⟩
              have HFT := Lib.hid hft
              rw [hft]
              clear hft hob
              go_upto_if 92 with fail
              go_cut [10] from 93 to 94 (fun g wx => LpI w wx B M b b ∧ AcI w wx X K N VM P To W ∧ g = .int .i64 (offE b VM P To))
              case first =>
                as_aux_lemma =>
                have ho : offE b VM P To = if ob = true then 1 else if ft < 0 then 3 else 0 := by unfold offE; rw [HOB.out, HFT.out]
                have HOE := Lib.hid ho
                clear ho
                cases ob
                · by_cases f0 : ft < 0
                  · have e : Hid (offE b VM P To = 3) := Lib.hid (by rw [HOE.out, if_neg (by simp), if_pos f0])
                    clear HOE
                    go_wp2
                    go_meet
                    exact ⟨H1.out, A1.out, by rw [e.out]⟩
                  · have e : Hid (offE b VM P To = 0) := Lib.hid (by rw [HOE.out, if_neg (by simp), if_neg f0])
                    clear HOE
                    go_wp2
                    go_meet
                    exact ⟨H1.out, A1.out, by rw [e.out]⟩
                · have e : Hid (offE b VM P To = 1) := Lib.hid (by rw [HOE.out, if_pos rfl])
                  clear HOE
                  go_wp2
                  go_meet
                  exact ⟨H1.out, A1.out, by rw [e.out]⟩
              case rest =>
              as_aux_lemma =>
              obtain ⟨hl1, ha1, rfl⟩ := hcut
              replace H1 := Lib.hid hl1
              replace A1 := Lib.hid ha1
              clear hl1 ha1
              obtain ⟨a0, a1, a2, a3, a4, a5⟩ := (A1.out).cells
              clear a0 a1
              have HO := Lib.hid (offer_in b VM P To W)
              have HNO := Lib.hid (@offB_no b VM P To W)
              have HYES := Lib.hid (@offB_yes b VM P To W)
              obtain ⟨oe, hoe⟩ : ∃ v, offE b VM P To = v := ⟨_, rfl⟩
              obtain ⟨on_, hon⟩ : ∃ v, offN b VM P To = v := ⟨_, rfl⟩
              rw [hoe, hon] at HO HNO HYES
              rw [hoe]
              obtain ⟨c, hc⟩ : ∃ v, offB b VM P To W = v := ⟨_, rfl⟩
              rw [hc] at HO HNO HYES
              clear hoe hon hc HOB
              go_wp2_with (refine wpList_ldB rfl (.tmp 3) rfl B rfl 44 b (H1.out).b.bl ?_)
              refine (HO.out _).mono ?_
              rintro e w2 ⟨rfl, b2⟩
              have H2 := Lib.hid (((H1.out).below b2).below (lay_below w2 44 (BKA zB) (BKA c)))
              have A2 := Lib.hid (((A1.out).below b2).below (lay_below w2 44 (BKA zB) (BKA c)))
              have N2 := Lib.hid (ob_lay ((H1.out).below b2).b.bel 44 (BKA zB) (BKA c))
              have Z2 := Lib.hid (bl_new w2 44 (BKA zB))
              clear b2 a2 a3 a4 a5 H1 A1 HO
              go_upto_region 25 with (refine wpList_stB rfl (.tmp 13) (.tmp 106) rfl w2.heap.size rfl 44 zB c rfl Z2.out ?_)
              clear Z2
              generalize (w2.alloc (.cells (BKA zB) 44)).setRow w2.heap.size (BKA c) = W2 at *
              generalize w2.heap.size = Y at *
              have e1 : (oe != oe) = false := by simp
              by_cases he : oe = 0
              · as_aux_lemma =>
                obtain ⟨j, hj, hfj, hcj, hnj⟩ := (HYES.out) he
                obtain rfl : ft = (j : Nat) := (HFT.out).symm.trans hfj
                obtain rfl := hnj
                obtain rfl := hcj
                have e2 : (oe == 0) = true := by simp [he]
                have e3 : (oe != 0) = false := by simp [he]
                have e4 : ((j : Int) != (j : Int)) = false := by simp
                have H3 := Lib.hid ((H2.out).putB (updA b j (newLs VM P To W)))
                have A3 := Lib.hid ((A2.out).kept (grown_setRow W2 B (BKA (updA b j (newLs VM P To W)))) (by have := (H2.out).ne; omega) (H2.out).b.lb)
                have E2 := Lib.hid e2
                clear HYES HNO he hfj HFT
                go_upto_if 133 with fail
                clear e1 e2 e3 e4
                go_upto_region 28 with (first
                  | (refine wpList_ldB rfl (.tmp 13) rfl Y rfl 44 (updA b j (newLs VM P To W)) (N2.out).bl ?_)
                  | (refine wpList_stB rfl (.tmp 3) (.tmp 134) rfl B rfl 44 b (updA b j (newLs VM P To W)) rfl (H2.out).b.bl ?_))
                clear H2 A2 N2
                generalize W2.setRow B (BKA (updA b j (newLs VM P To W))) = W3 at *
                obtain ⟨c0, c1, c2, c3, c4, c5⟩ := (H3.out).l.bl.row6 j hj
                have f := (H3.out).l.bl.fz
                have H4 := Lib.hid ((H3.out).putL j hj (newLs VM P To W))
                obtain ⟨a0, a1, a2, a3, a4, a5⟩ := (A3.out).cells
                have j0 : (0 : Int) ≤ (j : Int) := by omega
                have j1 : (j : Int) < 16 := by omega
                have e2 := E2.out
                clear a0 a1 H3 A3
                go_upto_if 136 with fail
                clear e2
                go_wp2_with (refine wpList_bdn rfl (.tmp 139) (.tmp 141) (.tmp 143) (.tmp 145) rfl VM P To W rfl rfl rfl rfl ?_)
                go_meet
                exact ⟨_, H4.out⟩
              · as_aux_lemma =>
                obtain ⟨rfl, rfl⟩ := (HNO.out) he
                have e2 : (oe == 0) = false := by simp [he]
                have e3 : (oe != 0) = true := by simp [he]
                have H3 := Lib.hid ((H2.out).putB c)
                clear HYES HNO he HFT
                go_wp2_with (first
                  | (refine wpList_ldB rfl (.tmp 13) rfl Y rfl 44 c (N2.out).bl ?_)
                  | (refine wpList_ldB rfl (.tmp 3) rfl B rfl 44 c (H2.out).b.bl ?_)
                  | (refine wpList_neB rfl (.tmp 128) (.tmp 129) rfl c rfl rfl ?_)
                  | (refine wpList_stB rfl (.tmp 3) (.tmp 134) rfl B rfl 44 c c rfl (H2.out).b.bl ?_))
                go_meet
                exact ⟨_, H3.out⟩

      case rest =>
        as_aux_lemma =>
        obtain ⟨b', hb'⟩ := hcut
        have HF := Lib.hid hb'
        clear hb' H1 A1
        go_wp2_with (first
          | (refine wpList_ldB rfl (.tmp 3) rfl B rfl 44 b' (HF.out).b.bl ?_)
          | (refine wpList_ldB2 rfl (.tmp 4) rfl M rfl 43 b' (HF.out).l.bl ?_)
          | (refine wpList_neB rfl (.tmp 276) (.tmp 277) rfl b' rfl rfl ?_))
        go_roundw
        case rel => exact ⟨k + 1, b', by omega, by go_num, HF.out⟩
        case measure => simp [intOf]; omega
    · as_aux_lemma =>
      obtain rfl : k = len := by omega
      go_wp2
      go_ret
      exact ⟨rfl, (H0.out).b.bel⟩
end Go.Proofs.Ythafcgppopfdkaa
