/-
  The walk of SeatReads.
-/
import Derived.Test.YtjhiapailgbmkaaYK
namespace Go.Proofs.Ytjhiapailgbmkaa
open Go.ChangeShapes Go.WideShapes Go.ChangeAt Go.RowKit
set_option maxRecDepth 100000
set_option linter.unusedVariables false

theorem readV_ok (x : Nat → Nat) (hx : ∀ j, x j < 18446744073709551616) (hm : mayB x = true) : (readV x).ok := by
  unfold mayB at hm
  simp only [Bool.and_eq_true, decide_eq_true_eq] at hm
  obtain ⟨m1, m2, m3, m4⟩ := hm
  exact ⟨fun i _ => hx i, hx 16, hx 17, hx 18, hx 19, hx 20, hx 21, by show x 23 < 3; omega, m3, m4⟩
theorem readV_word (x : Nat → Nat) (hm : mayB x = true) (j : Nat) (hj : j < 26) : wordF (readV x) j = x j := by
  unfold mayB at hm
  simp only [Bool.and_eq_true, decide_eq_true_eq] at hm
  obtain ⟨m1, m2, m3, m4⟩ := hm
  by_cases h : j = 22
  · subst h
    show oneN (decide (x 22 = 1)) = x 22
    by_cases h1 : x 22 = 1
    · rw [decide_eq_true h1, h1]; rfl
    · have : x 22 = 0 := by omega
      rw [decide_eq_false h1, this]; rfl
  · by_cases h16 : j < 16
    · exact wordF_reg _ _ h16
    · have e : j = 16 ∨ j = 17 ∨ j = 18 ∨ j = 19 ∨ j = 20 ∨ j = 21 ∨ j = 23 ∨ j = 24 ∨ j = 25 := by omega
      rcases e with rfl | rfl | rfl | rfl | rfl | rfl | rfl | rfl | rfl <;> rfl
/-- What is told of one of the three lists. -/
structure XS (wr : World) (A : Option Addr) (n : Nat) (f : Nat → Nat) : Prop where
  le : n ≤ 9223372036854775807
  w : n = 26 → W26 wr A 26 f
  lt : ∀ j, f j < 18446744073709551616
theorem XS.below {w w' : World} {A : Option Addr} {n : Nat} {f : Nat → Nat} (h : XS w A n f) (hb : Below w.heap.size w w') : XS w' A n f := ⟨h.le, fun e => (h.w e).below hb, h.lt⟩
theorem xs_of {w : World} {a : Option Addr} {n : Nat} {f : Nat → Nat} (hn : n ≤ 9223372036854775807) (hf : ∀ j, f j < 18446744073709551616) (h : ∀ i, i < n → ∃ b off, a = some ⟨b, off, none⟩ ∧ b < w.heap.size ∧ w.cell? ⟨b, off + i, none⟩ = some (.int .u64 (f i : Nat))) : XS w a n f := by
  refine ⟨hn, fun e => ?_, hf⟩
  subst e
  obtain ⟨b, off, rfl, hb, _⟩ := h 0 (by omega)
  refine ⟨b, off, rfl, hb, fun j hj => ?_⟩
  obtain ⟨b', off', he, _, hc⟩ := h j hj
  injection he with he
  injection he with e1 e2
  subst e1 e2
  exact hc
theorem wpList_bd0g {ops : Array Oper} {rest : List Oper} {o : Oper} {a : Act} {w : World} {Q : Exit → Act → World → Prop} (hw : Region.wanted o (yielded ops a.tmps) = true) (ho : o.op = .build 26 #[])
    (h : wpList Try.prog ops Q rest (a.put o.dst SV.zero.agg) w) : wpList Try.prog ops Q (o :: rest) a w :=
  wpList_step fun _ hK => by
    rw [if_pos hw]
    have hb : Try.prog.built 26 [] = some SV.zero.cells := by kernel_rfl
    have he : ((#[] : Array (Nat × Operand)).map fun (i, x) => (i, a.eval x)).toList = [] := by simp
    refine wp_build 26 #[] ho ?_ ?_
    · rw [he, hb]; rfl
    · rw [he, hb]; exact hK _ _ h
def putF (f : Nat → Nat) (i v : Nat) : Nat → Nat := fun j => if j = i then v else f j
set_option maxHeartbeats 4000000 in
theorem seatReads_core (A : Option Addr) (n cap : Nat) (f : Nat → Nat) (S : SV) (hok : (nearV S).ok) (at' : Nat) (hat : at' < 256) (v : Nat) (hv : v < 18446744073709551616) (w : World) (hX : XS w A n f) : Calls Try.prog 4 #[.slice A n cap, S.agg, .int .u8 at', .int .u64 v] w fun e w' => e = .returned (.bool true) ∧ Below w.heap.size w w' := by
  have HZ := zeroS_run
  have HN := Lib.hid (near_in S)
  have HL := Lib.hid (ls_new w S)
  have HO := Lib.hid (ow_box w S)
  have HA := Lib.hid awake11_in
  have hn := hX.le
  have HX := Lib.hid hX
  clear hX
  generalize nearV S = T at *
  have HW := Lib.hid (words_in T hok)
  obtain ⟨i, hi⟩ : ∃ i, at' % 26 = i := ⟨_, rfl⟩
  have hi26 : i < 26 := by omega
  have HF := Lib.hid (wordF_lt T hok)
  clear hok
  by_cases h40 : (n : Int) > 40
  · unfold SV.agg at *
    go_enter Try.func4, Try.ntmps4
    go_wp2_with fail
    refine (HA.out _).mono ?_
    rintro e w1 ⟨rfl, b1⟩
    have O1 := Lib.hid ((HO.out).below b1)
    clear b1 HO HL
    go_wp2_with fail
    refine (HA.out _).mono ?_
    rintro e w2 ⟨rfl, b2⟩
    have O2 := Lib.hid ((O1.out).below b2)
    clear b2 O1
    go_wp2
    go_ret
    exact ⟨rfl, (O2.out).bel⟩
  · unfold SV.agg at *
    go_enter Try.func4, Try.ntmps4
    go_wp2_with fail
    refine (HA.out _).mono ?_
    rintro e w1 ⟨rfl, b1⟩
    have O1 := Lib.hid ((HO.out).below b1)
    have X1 := Lib.hid ((HX.out).below (below_up (below_new w _) b1))
    clear b1 HO HL HX
    go_wp2_with (refine wpList_ldS rfl (.tmp 5) rfl w.heap.size rfl S (O1.out).ls ?_; unfold SV.agg)
    refine (HN.out _).mono ?_
    rintro e w2 ⟨rfl, b2⟩
    have O2 := Lib.hid ((O1.out).below b2)
    have X2 := Lib.hid ((X1.out).below b2)
    clear b2 O1 X1 HN
    go_wp2_with fail
    refine (HW.out _).mono ?_
    rintro e w3 ⟨vv, rfl, ⟨g, cap3, rfl, h31, h32, hc3, hf3, h33, h34⟩, b3⟩
    have O3 := Lib.hid ((O2.out).below b3)
    have X3 := Lib.hid ((X2.out).below b3)
    have O2b := O2
    have X2b := X2
    have B2b := Lib.hid b3
    clear b3 O2 X2
    have c1 := hc3 i hi26
    have f1 := hf3 i
    have hV1 : ∀ j, j < 26 → ((w3.setCell ⟨g, i, none⟩ (.int .u64 v)).alloc (.cells #[.slice A n cap, .slice (some ⟨g, 0, none⟩) 26 cap3, .slice (some ⟨g, 0, none⟩) 25 cap3] 28)).cell? ⟨g, j, none⟩ = some (.int .u64 (putF (wordF T) i v j : Nat)) := by
      intro j hj
      rw [World.cell?_alloc_past _ g j (by rw [show (w3.setCell ⟨g, i, none⟩ (.int .u64 v)).heap.size = w3.heap.size from by simp [World.setCell]]; exact h32)]
      unfold putF
      by_cases e : j = i
      · subst e
        rw [if_pos rfl]
        exact set_same' w3 g j _ (by rw [c1]; rfl)
      · rw [if_neg e, set_other' w3 g i j _ (fun h => e h.symm)]
        exact hc3 j hj
    have hbs : Below w.heap.size w (w3.setCell ⟨g, i, none⟩ (.int .u64 v)) := (O3.out).bel.grown (grown_setCellS w3 ⟨g, i, none⟩ _) (O3.out).bel.size (fun j hj => by injection hj with hj; have : g = j := hj; have := (O2b.out).bel.size; omega)
    have hgz : (w3.setCell ⟨g, i, none⟩ (.int .u64 v)).heap.size = w3.heap.size := by simp [World.setCell]
    have hXf : XS ((w3.setCell ⟨g, i, none⟩ (.int .u64 v)).alloc (.cells #[.slice A n cap, .slice (some ⟨g, 0, none⟩) 26 cap3, .slice (some ⟨g, 0, none⟩) 25 cap3] 28)) A n f := by
      refine XS.below  X2b.out ?_
      exact below_more ((B2b.out).grown (grown_setCellS w3 ⟨g, i, none⟩ _) (B2b.out).size (fun j hj => by injection hj with hj; have : g = j := hj; omega)) _
    have hst : ∃ (xa : Nat → Option Addr) (xn xc : Nat → Nat) (xf : Nat → Nat → Nat), Hid (∀ k, k < 3 → ((w3.setCell ⟨g, i, none⟩ (.int .u64 v)).alloc (.cells #[.slice A n cap, .slice (some ⟨g, 0, none⟩) 26 cap3, .slice (some ⟨g, 0, none⟩) 25 cap3] 28)).cell? ⟨w3.heap.size, k, none⟩ = some (.slice (xa k) (xn k) (xc k))) ∧
        Hid (∀ k, k < 3 → XS ((w3.setCell ⟨g, i, none⟩ (.int .u64 v)).alloc (.cells #[.slice A n cap, .slice (some ⟨g, 0, none⟩) 26 cap3, .slice (some ⟨g, 0, none⟩) 25 cap3] 28)) (xa k) (xn k) (xf k)) := by
      refine ⟨fun k => if k = 0 then A else some ⟨g, 0, none⟩, fun k => if k = 0 then n else if k = 1 then 26 else 25, fun k => if k = 0 then cap else cap3, fun k => if k = 0 then f else putF (wordF T) i v, Lib.hid ?_, Lib.hid ?_⟩
      · intro k hk
        have e : k = 0 ∨ k = 1 ∨ k = 2 := by omega
        rw [← hgz]
        rcases e with rfl | rfl | rfl
        · exact cell_of_row _ _ 0 _ _ (0, 0) (heap_alloc_new _ _)
        · exact cell_of_row _ _ 1 _ _ (0, 0) (heap_alloc_new _ _)
        · exact cell_of_row _ _ 2 _ _ (0, 0) (heap_alloc_new _ _)
      · intro k hk
        have e : k = 0 ∨ k = 1 ∨ k = 2 := by omega
        have hlt : ∀ j, putF (wordF T) i v j < 18446744073709551616 := fun j => by
          unfold putF
          split
          · exact hv
          · by_cases hj : j < 26
            · exact (HF.out) j hj
            · have : wordF T j = 0 := by
                unfold wordF
                rw [if_neg (by omega), List.getD_eq_getElem?_getD, List.getElem?_eq_none (by simp; omega)]; rfl
              rw [this]; omega
        rcases e with rfl | rfl | rfl
        · exact hXf
        · exact ⟨by show 26 ≤ _; omega, fun _ => ⟨g, 0, rfl, by rw [World.size_alloc, hgz]; omega, fun j hj => by rw [Nat.zero_add]; exact hV1 j hj⟩, hlt⟩
        · exact ⟨by show 25 ≤ _; omega, fun e => absurd (show (25 : Nat) = 26 from e) (by omega), hlt⟩
    obtain ⟨xa, xn, xc, xf, HC, HXS⟩ := hst
    have HBW := Lib.hid (below_more hbs (.cells #[.slice A n cap, .slice (some ⟨g, 0, none⟩) 26 cap3, .slice (some ⟨g, 0, none⟩) 25 cap3] 28))
    have HDV : Hid (w3.heap.size < ((w3.setCell ⟨g, i, none⟩ (.int .u64 v)).alloc (.cells #[.slice A n cap, .slice (some ⟨g, 0, none⟩) 26 cap3, .slice (some ⟨g, 0, none⟩) 25 cap3] 28)).heap.size) := Lib.hid (by rw [World.size_alloc, hgz]; omega)
    clear hV1 hbs hgz hXf hc3 hf3
    go_wp2_with fail
    clear c1 f1 O3 X3 O2b X2b B2b HF HW hi
    generalize (w3.setCell ⟨g, i, none⟩ (.int .u64 v)).alloc (.cells #[.slice A n cap, .slice (some ⟨g, 0, none⟩) 26 cap3, .slice (some ⟨g, 0, none⟩) 25 cap3] 28) = V at *
    generalize w3.heap.size = D at *
    go_loopw [8, 11, 12, 13, 14, 15, 16, 40] (fun _ _ _ _ _ _ _ q wr => ∃ k : Nat, k ≤ 3 ∧ q = .int .i64 k ∧ Below V.heap.size V wr) (fun _ _ _ _ _ _ _ q _ => 3 - (intOf q).toNat)
    case atStart => exact ⟨0, by omega, rfl, Below.refl _ _⟩
    case round =>
      obtain ⟨k, hk, rfl, hbv⟩ := hrel
      have HBV := Lib.hid hbv
      by_cases hlt : k < 3
      · have kk : (k : Int) < 3 := by omega
        have c1 := (hbv.cell (p := ⟨D, k, none⟩) HDV.out).trans ((HC.out) k hlt)
        have X := ((HXS.out) k hlt).below hbv
        have hD : D < wr.heap.size := Nat.lt_of_lt_of_le HDV.out hbv.size
        clear hbv
        generalize xa k = B at *
        generalize xn k = m at *
        generalize xc k = cc at *
        generalize xf k = h at *
        by_cases hm : m = 26
        · subst hm
          have hw := X.w rfl
          have hl := X.lt
          clear X
          have HXW := Lib.hid hw
          by_cases hb : mayB h = true
          · have HY := Lib.hid (unpack_yes cc hw hb)
            have HWD := Lib.hid (words_in (readV h) (readV_ok h hl hb))
            have HRW := Lib.hid (readV_word h hb)
            obtain ⟨bb, off, rfl, hbl, hcs⟩ := hw
            have d22 := fun (U : World) (hU : Below wr.heap.size wr U) => (hU.cell (p := ⟨bb, off + 22, none⟩) hbl).trans (hcs 22 (by omega))
            have d23 := fun (U : World) (hU : Below wr.heap.size wr U) => (hU.cell (p := ⟨bb, off + 23, none⟩) hbl).trans (hcs 23 (by omega))
            have d24 := fun (U : World) (hU : Below wr.heap.size wr U) => (hU.cell (p := ⟨bb, off + 24, none⟩) hbl).trans (hcs 24 (by omega))
            have d25 := fun (U : World) (hU : Below wr.heap.size wr U) => (hU.cell (p := ⟨bb, off + 25, none⟩) hbl).trans (hcs 25 (by omega))
            have D22 := Lib.hid d22
            have D23 := Lib.hid d23
            have D24 := Lib.hid d24
            have D25 := Lib.hid d25
            have HCS := Lib.hid hcs
            have hbm := hb
            unfold mayB at hbm
            simp only [Bool.and_eq_true, decide_eq_true_eq] at hbm
            obtain ⟨m1, m2, m3, m4⟩ := hbm
            have g1 : (h 22 : Int) ≤ 1 := by omega
            have g2 : (h 23 : Int) ≤ 2 := by omega
            have g3 : (h 24 : Int) < 256 := by omega
            have g4 : (h 25 : Int) < 256 := by omega
            clear d22 d23 d24 d25 m1 m2 m3 m4 hb hcs HXW hl
            generalize readV h = Y at *
            go_wp2_with fail
            refine ((HY.out).mono ?_)
            rintro e w5 ⟨rfl, b5⟩
            have O6 := Lib.hid (ow_new b5 Y)
            have B6 : Hid (Below V.heap.size V ((w5.alloc (.cells SV.zero.cells 26)).setRow w5.heap.size Y.cells)) := Lib.hid (below_up HBV.out (O6.out).bel)
            have e22 := (D22.out) _ (O6.out).bel
            have e23 := (D23.out) _ (O6.out).bel
            have e24 := (D24.out) _ (O6.out).bel
            have e25 := (D25.out) _ (O6.out).bel
            clear D22 D23 D24 D25 b5 HY c1
            go_wp2_with (first
              | (refine wpList_stS rfl (.tmp 12) (.tmp 47) rfl w5.heap.size rfl SV.zero Y rfl (ls_new w5 _) ?_)
              | (refine wpList_ldS rfl (.tmp 12) rfl w5.heap.size rfl Y (O6.out).ls ?_; unfold SV.agg))
            refine ((HWD.out _).mono ?_)
            rintro e w6 ⟨zz, rfl, ⟨g6, cap6, rfl, h61, h62, hc6, hf6, h63, h64⟩, b6⟩
            have B7 := Lib.hid (below_up B6.out b6)
            have hbx := (O6.out).bel.trans (b6.mono (O6.out).bel.size)
            have HX7 : Hid (∀ j, j < 26 → w6.cell? ⟨bb, off + j, none⟩ = some (.int .u64 (h j : Nat))) := Lib.hid (fun j hj => (hbx.cell (p := ⟨bb, off + j, none⟩) hbl).trans ((HCS.out) j hj))
            have HZ7 : Hid (∀ j, j < 26 → w6.cell? ⟨g6, j, none⟩ = some (.int .u64 (h j : Nat))) := Lib.hid (fun j hj => by rw [← (HRW.out) j hj]; exact hc6 j hj)
            clear e22 e23 e24 e25 hbx b6 hc6 hf6 HCS HWD O6 B6 HRW g1 g2 g3 g4
            go_wp2_with fail
            go_loopw [8, 16] (fun _ q w'' => ∃ j : Nat, j ≤ 26 ∧ q = .int .i64 j ∧ ∃ nn, w'' = w6.drewN nn) (fun _ q _ => 26 - (intOf q).toNat)
            case atStart => exact ⟨0, by omega, rfl, 0, rfl⟩
            case round =>
              obtain ⟨j, hj, rfl, nn, rfl⟩ := hrel
              by_cases hj2 : j < 26
              · have jj : (j : Int) < 26 := by omega
                have c1 := (HX7.out) j hj2
                have c2 := (HZ7.out) j hj2
                go_wp2_with fail
                go_quiet (fail)
                go_wp2
                go_roundw
                case rel => exact ⟨j + 1, by omega, by go_num, _, rfl⟩
                case measure => simp [intOf]; omega
              · have jj : ¬ (j : Int) < 26 := by omega
                go_wp2
                go_roundw
                case rel => exact ⟨k + 1, by omega, by go_num, below_draws B7.out _⟩
                case measure => simp [intOf]; omega
          · have hb' : mayB h = false := by simpa using hb
            have HNO := Lib.hid (unpack_no B 26 cc wr (fun W hW => by have q := maybe_in cc (hw.below hW); rw [hb'] at q; exact q))
            obtain ⟨bb, off, rfl, hbl, hcs⟩ := hw
            have d22 := fun (U : World) (hU : Below wr.heap.size wr U) => (hU.cell (p := ⟨bb, off + 22, none⟩) hbl).trans (hcs 22 (by omega))
            have d23 := fun (U : World) (hU : Below wr.heap.size wr U) => (hU.cell (p := ⟨bb, off + 23, none⟩) hbl).trans (hcs 23 (by omega))
            have d24 := fun (U : World) (hU : Below wr.heap.size wr U) => (hU.cell (p := ⟨bb, off + 24, none⟩) hbl).trans (hcs 24 (by omega))
            have d25 := fun (U : World) (hU : Below wr.heap.size wr U) => (hU.cell (p := ⟨bb, off + 25, none⟩) hbl).trans (hcs 25 (by omega))
            have D22 := Lib.hid d22
            have D23 := Lib.hid d23
            have D24 := Lib.hid d24
            have D25 := Lib.hid d25
            unfold mayB at hb'
            clear d22 d23 d24 d25 hcs HXW hl hb
            by_cases m1 : h 22 ≤ 1
            · have g1 : (h 22 : Int) ≤ 1 := by omega
              by_cases m2 : h 23 ≤ 2
              · have g2 : (h 23 : Int) ≤ 2 := by omega
                by_cases m3 : h 24 < 256
                · have g3 : (h 24 : Int) < 256 := by omega
                  have g4 : ¬ (h 25 : Int) < 256 := by
                    simp only [m1, m2, m3, decide_true, Bool.true_and, decide_eq_false_iff_not] at hb'
                    omega
                  clear hb' m1 m2 m3
                  go_wp2_with fail
                  refine ((HNO.out).mono ?_)
                  rintro e w5 ⟨rfl, b5⟩
                  have O6 := Lib.hid (ow_new b5 SV.zero)
                  have B6 : Hid (Below V.heap.size V ((w5.alloc (.cells SV.zero.cells 26)).setRow w5.heap.size SV.zero.cells)) := Lib.hid (below_up HBV.out (O6.out).bel)
                  have e22 := (D22.out) _ (O6.out).bel
                  have e23 := (D23.out) _ (O6.out).bel
                  have e24 := (D24.out) _ (O6.out).bel
                  have e25 := (D25.out) _ (O6.out).bel
                  clear D22 D23 D24 D25 b5 HNO c1
                  go_wp2_with (first
                    | (refine wpList_stS rfl (.tmp 12) (.tmp 47) rfl w5.heap.size rfl SV.zero SV.zero rfl (ls_new w5 _) ?_)
                    | (refine wpList_ldS rfl (.tmp 12) rfl w5.heap.size rfl SV.zero (O6.out).ls ?_)
                    | (refine wpList_bd0g rfl rfl ?_)
                    | (refine wpList_neS rfl (.tmp 83) (.tmp 84) rfl SV.zero rfl rfl ?_))
                  go_roundw
                  case rel => exact ⟨k + 1, by omega, by go_num, B6.out⟩
                  case measure => simp [intOf]; omega
                · have g3 : ¬ (h 24 : Int) < 256 := by omega
                  clear hb' m1 m2 m3
                  go_wp2_with fail
                  refine ((HNO.out).mono ?_)
                  rintro e w5 ⟨rfl, b5⟩
                  have O6 := Lib.hid (ow_new b5 SV.zero)
                  have B6 : Hid (Below V.heap.size V ((w5.alloc (.cells SV.zero.cells 26)).setRow w5.heap.size SV.zero.cells)) := Lib.hid (below_up HBV.out (O6.out).bel)
                  have e22 := (D22.out) _ (O6.out).bel
                  have e23 := (D23.out) _ (O6.out).bel
                  have e24 := (D24.out) _ (O6.out).bel
                  have e25 := (D25.out) _ (O6.out).bel
                  clear D22 D23 D24 D25 b5 HNO c1
                  go_wp2_with (first
                    | (refine wpList_stS rfl (.tmp 12) (.tmp 47) rfl w5.heap.size rfl SV.zero SV.zero rfl (ls_new w5 _) ?_)
                    | (refine wpList_ldS rfl (.tmp 12) rfl w5.heap.size rfl SV.zero (O6.out).ls ?_)
                    | (refine wpList_bd0g rfl rfl ?_)
                    | (refine wpList_neS rfl (.tmp 83) (.tmp 84) rfl SV.zero rfl rfl ?_))
                  go_roundw
                  case rel => exact ⟨k + 1, by omega, by go_num, B6.out⟩
                  case measure => simp [intOf]; omega
              · have g2 : ¬ (h 23 : Int) ≤ 2 := by omega
                clear hb' m1 m2
                go_wp2_with fail
                refine ((HNO.out).mono ?_)
                rintro e w5 ⟨rfl, b5⟩
                have O6 := Lib.hid (ow_new b5 SV.zero)
                have B6 : Hid (Below V.heap.size V ((w5.alloc (.cells SV.zero.cells 26)).setRow w5.heap.size SV.zero.cells)) := Lib.hid (below_up HBV.out (O6.out).bel)
                have e22 := (D22.out) _ (O6.out).bel
                have e23 := (D23.out) _ (O6.out).bel
                have e24 := (D24.out) _ (O6.out).bel
                have e25 := (D25.out) _ (O6.out).bel
                clear D22 D23 D24 D25 b5 HNO c1
                go_wp2_with (first
                  | (refine wpList_stS rfl (.tmp 12) (.tmp 47) rfl w5.heap.size rfl SV.zero SV.zero rfl (ls_new w5 _) ?_)
                  | (refine wpList_ldS rfl (.tmp 12) rfl w5.heap.size rfl SV.zero (O6.out).ls ?_)
                  | (refine wpList_bd0g rfl rfl ?_)
                  | (refine wpList_neS rfl (.tmp 83) (.tmp 84) rfl SV.zero rfl rfl ?_))
                go_roundw
                case rel => exact ⟨k + 1, by omega, by go_num, B6.out⟩
                case measure => simp [intOf]; omega
            · have g1 : ¬ (h 22 : Int) ≤ 1 := by omega
              clear hb' m1
              go_wp2_with fail
              refine ((HNO.out).mono ?_)
              rintro e w5 ⟨rfl, b5⟩
              have O6 := Lib.hid (ow_new b5 SV.zero)
              have B6 : Hid (Below V.heap.size V ((w5.alloc (.cells SV.zero.cells 26)).setRow w5.heap.size SV.zero.cells)) := Lib.hid (below_up HBV.out (O6.out).bel)
              have e22 := (D22.out) _ (O6.out).bel
              have e23 := (D23.out) _ (O6.out).bel
              have e24 := (D24.out) _ (O6.out).bel
              have e25 := (D25.out) _ (O6.out).bel
              clear D22 D23 D24 D25 b5 HNO c1
              go_wp2_with (first
                | (refine wpList_stS rfl (.tmp 12) (.tmp 47) rfl w5.heap.size rfl SV.zero SV.zero rfl (ls_new w5 _) ?_)
                | (refine wpList_ldS rfl (.tmp 12) rfl w5.heap.size rfl SV.zero (O6.out).ls ?_)
                | (refine wpList_bd0g rfl rfl ?_)
                | (refine wpList_neS rfl (.tmp 83) (.tmp 84) rfl SV.zero rfl rfl ?_))
              go_roundw
              case rel => exact ⟨k + 1, by omega, by go_num, B6.out⟩
              case measure => simp [intOf]; omega
        · have HNO := Lib.hid (unpack_no B m cc wr (fun W hW => maybe_len B m cc hm W))
          have z26 : ((m : Int) == 26) = false := by simp; omega
          clear X
          go_wp2_with fail
          refine ((HNO.out).mono ?_)
          rintro e w5 ⟨rfl, b5⟩
          have O6 := Lib.hid (ow_new b5 SV.zero)
          have B6 : Hid (Below V.heap.size V ((w5.alloc (.cells SV.zero.cells 26)).setRow w5.heap.size SV.zero.cells)) := Lib.hid (below_up HBV.out (O6.out).bel)
          have c5 := fun (p : Addr) (hp : p.block < wr.heap.size) => (O6.out).bel.cell hp
          clear b5 HNO c1 c5
          go_wp2_with (first
            | (refine wpList_stS rfl (.tmp 12) (.tmp 47) rfl w5.heap.size rfl SV.zero SV.zero rfl (ls_new w5 _) ?_)
            | (refine wpList_ldS rfl (.tmp 12) rfl w5.heap.size rfl SV.zero (O6.out).ls ?_)
            | (refine wpList_bd0g rfl rfl ?_)
            | (refine wpList_neS rfl (.tmp 83) (.tmp 84) rfl SV.zero rfl rfl ?_))
          go_roundw
          case rel => exact ⟨k + 1, by omega, by go_num, B6.out⟩
          case measure => simp [intOf]; omega
      · have kk : ¬ (k : Int) < 3 := by omega
        go_wp2
        go_ret
        exact ⟨rfl, below_up HBW.out HBV.out⟩
end Go.Proofs.Ytjhiapailgbmkaa
