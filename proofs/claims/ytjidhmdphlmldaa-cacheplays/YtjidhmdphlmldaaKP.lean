/-
  CachePlays' walk.
-/
import Derived.Test.YtjidhmdphlmldaaKQ1
import Derived.Test.YtjidhmdphlmldaaKQ2
import Derived.Test.YtjidhmdphlmldaaKQ3
import Derived.Deep.CutBlock
import Derived.Deep.Fields
namespace Go.Proofs.Ytjidhmdphlmldaa
open Go.ChangeShapes Go.WideShapes Go.ChangeAt Go.RowKit
set_option maxRecDepth 1000000

set_option maxHeartbeats 40000000 in
theorem cachePlays_in (a : Option Addr) (len cap0 : Nat) (w : World) (hacts : ActsAt w a len) (h80 : len ≤ 80) :
    Calls Try.prog 3 #[.slice a len cap0] w fun e w' => e = .returned (.bool true) ∧ Below w.heap.size w w' := by
  have t80 : ¬ (80 : Int) < (len : Int) := by omega
  have HACT := Lib.hid hacts
  clear hacts
  go_enter Try.func3, Try.ntmps3
  go_wp2_with fail
  refine (awake7_in _).mono ?_
  rintro e w1 ⟨rfl, b1⟩
  have HPI : Hid (PI w (w1.alloc (.cells #[.slice none 0 0] 27)) w1.heap.size (.slice none 0 0) []) :=
    Lib.hid ⟨⟨_, ca_new w1 _ _ b1.size, fun g hg => by simp [Value.ownBlock] at hg⟩, below_up b1 (below_new _ _), .inl ⟨rfl, rfl⟩, fun g hg => by simp [Value.ownBlock] at hg, List.Pairwise.nil⟩
  clear b1
  go_wp2_with fail
  generalize w1.alloc (.cells #[.slice none 0 0] 27) = V at *
  generalize w1.heap.size = C at *
  go_loopw [2, 4, 5, 6, 7, 8, 9, 10, 11, 12, 13, 14, 15, 16, 17, 18, 19, 20] (fun _ l i _ _ _ _ _ _ _ _ _ _ _ _ _ _ _ wr => ∃ (t : Nat) (L : List R5), t ≤ len ∧ i = .int .i64 t ∧ PI w wr C l L) (fun _ _ i _ _ _ _ _ _ _ _ _ _ _ _ _ _ _ _ => len - (intOf i).toNat)
  case atStart => exact ⟨0, [], by omega, rfl, HPI.out⟩
  case round =>
    as_aux_lemma =>
      clear HPI
      obtain ⟨t, L, ht, rfl, hP⟩ := hrel
      obtain ⟨lp, lcap, rfl⟩ := hP.rows.form
      have HP := Lib.hid hP
      clear hP
      by_cases hlt : t < len
      · obtain ⟨b, off, rfl, hbl, K, VM, Page, Frame, Wt, x0, x1, x2, x3, x4, hK, hVM, hPage⟩ := (HACT.out) t hlt
        have hbw := (HP.out).be
        have y0 := (hbw.cell (p := ⟨b, off + t * 5 + 0, none⟩) hbl).trans x0
        have y1 := (hbw.cell (p := ⟨b, off + t * 5 + 1, none⟩) hbl).trans x1
        have y2 := (hbw.cell (p := ⟨b, off + t * 5 + 2, none⟩) hbl).trans x2
        have y3 := (hbw.cell (p := ⟨b, off + t * 5 + 3, none⟩) hbl).trans x3
        have y4 := (hbw.cell (p := ⟨b, off + t * 5 + 4, none⟩) hbl).trans x4
        rw [Nat.add_zero] at y0
        have t1 : (t : Int) < (len : Int) := by omega
        have l5 := l5_new wr (.int .u8 K) (.int .u8 VM) (.int .u8 Page) (.int .i64 Frame) (.bool Wt) 30
        have bn := below_new (wr.alloc (.cells #[.int .u8 K, .int .u8 VM, .int .u8 Page, .int .i64 Frame, .bool Wt] 30)) (.cells #[.bool true, .int .i64 Frame, .bool Wt] 32)
        obtain ⟨e0, e1, e2, e3, e4, el, ef⟩ := id l5
        obtain ⟨f0, f1, f2, f3, f4, fl, ff⟩ := l5.later bn
        have HP2 := Lib.hid (((HP.out).below (below_new wr (.cells #[.int .u8 K, .int .u8 VM, .int .u8 Page, .int .i64 Frame, .bool Wt] 30))).below bn)
        have HX := Lib.hid (l3_new (wr.alloc (.cells #[.int .u8 K, .int .u8 VM, .int .u8 Page, .int .i64 Frame, .bool Wt] 30)) (.bool true) (.int .i64 Frame) (.bool Wt) 32)
        have m7 : K % 7 < 7 := Nat.mod_lt _ (by omega)
        have m3 : VM % 3 < 3 := Nat.mod_lt _ (by omega)
        have m5 : Page % 5 < 5 := Nat.mod_lt _ (by omega)
        have ek : ((K : Int) % 7) = ((K % 7 : Nat) : Int) := by omega
        have ev : ((VM : Int) % 3) = ((VM % 3 : Nat) : Int) := by omega
        have eg : ((Page : Int) % 5) = ((Page % 5 : Nat) : Int) := by omega
        generalize K % 7 = k at *
        generalize VM % 3 = vm at *
        generalize Page % 5 = pg at *
        obtain ⟨v, hv, _⟩ := (HP.out).ca
        have HV := Lib.hid ((hv.below (below_new wr (.cells #[.int .u8 K, .int .u8 VM, .int .u8 Page, .int .i64 Frame, .bool Wt] 30))).below bn)
        have HXC : Hid (wr.heap.size + 1 ≠ C ∧ v.ownBlock ≠ some (wr.heap.size + 1)) := Lib.hid ⟨by have := hv.lt; omega, fun e => hv.far (wr.heap.size + 1) (by omega) e.symm⟩
        have hL8 := hv.len
        have hsz : (wr.alloc (.cells #[.int .u8 K, .int .u8 VM, .int .u8 Page, .int .i64 Frame, .bool Wt] 30)).heap.size = wr.heap.size + 1 := by simp
        rw [hsz] at HX
        clear x0 x1 x2 x3 x4 hbw l5 bn HP hv hsz
        go_wp2_with fail
        rw [ek]
        clear y0 y1 y2 y3 y4 e0 e1 e2 e3 e4 el ef f0 f1 f2 f3 f4 fl ff ek ev eg
        generalize (wr.alloc (.cells #[.int .u8 K, .int .u8 VM, .int .u8 Page, .int .i64 Frame, .bool Wt] 30)).alloc (.cells #[.bool true, .int .i64 Frame, .bool Wt] 32) = U at *
        generalize wr.heap.size + 1 = X at *
        go_loopw [10, 12, 13] (fun nx j _ wn => ∃ i : Nat, i ≤ L.length ∧ j = .int .i64 i ∧ NX U wn nx ((L.take i).filter (keepB k vm pg))) (fun _ j _ _ => L.length - (intOf j).toNat)
        case atStart => exact ⟨0, by omega, rfl, Below.refl _ _, World.ownsRow_nil _ _ _ _⟩
        case round =>
          as_aux_lemma =>
            obtain ⟨i, hi, rfl, hN⟩ := hrel
            obtain ⟨np, ncap, rfl⟩ := owns_slice hN.own
            have HN := Lib.hid hN
            clear hN
            by_cases hil : i < L.length
            · obtain ⟨r, hr⟩ : ∃ r, L[i]? = some r := ⟨L[i], List.getElem?_eq_getElem hil⟩
              obtain ⟨g, off2, rfl, hgl, c0, c1, c2, c3, c4⟩ := (((HP2.out).rows).below (HN.out).be).at hr
              have i1 : (i : Int) < (L.length : Int) := by omega
              have HR := Lib.hid hr
              clear hr
              have hm8 : ((L.take i).filter (keepB k vm pg)).length ≤ 8 := Nat.le_trans (List.length_filter_le _ _) (by rw [List.length_take]; omega)
              generalize hm : (L.take i).filter (keepB k vm pg) = m at *
              have HM := Lib.hid hm
              clear hm
              go_upto_block 3 with fail
              go_cut [10, 13] from 63 to 104 (fun nx _ wx => NX U wx nx ((L.take (i + 1)).filter (keepB k vm pg)))
              case first =>
                as_aux_lemma =>
                  have hk3 : k ≤ 4 ∨ k = 5 ∨ k = 6 := by omega
                  by_cases q1 : r.vm = (vm : Int)
                  · by_cases q2 : r.pg = (pg : Int)
                    · rcases hk3 with hk | hk | hk
                      · exact b3Ayy HN HM HR hil hm8 hgl c0 c1 c2 c3 c4 hk q1 q2 (by assumption) (by assumption)
                      · exact b3Byy HN HM HR hil hm8 hgl c0 c1 c2 c3 c4 hk q1 q2 (by assumption) (by assumption)
                      · exact b3Cyy HN HM HR hil hm8 hgl c0 c1 c2 c3 c4 hk q1 q2 (by assumption) (by assumption)
                    · rcases hk3 with hk | hk | hk
                      · exact b3Ayn HN HM HR hil hm8 hgl c0 c1 c2 c3 c4 hk q1 q2 (by assumption) (by assumption)
                      · exact b3Byn HN HM HR hil hm8 hgl c0 c1 c2 c3 c4 hk q1 q2 (by assumption) (by assumption)
                      · exact b3Cyn HN HM HR hil hm8 hgl c0 c1 c2 c3 c4 hk q1 q2 (by assumption) (by assumption)
                  · rcases hk3 with hk | hk | hk
                    · exact b3An HN HM HR hil hm8 hgl c0 c1 c2 c3 c4 hk q1 (by assumption) (by assumption)
                    · exact b3Bn HN HM HR hil hm8 hgl c0 c1 c2 c3 c4 hk q1 (by assumption) (by assumption)
                    · exact b3Cn HN HM HR hil hm8 hgl c0 c1 c2 c3 c4 hk q1 (by assumption) (by assumption)
              case rest =>
                as_aux_lemma =>
                  obtain ⟨np2, ncap2, rfl⟩ := owns_slice hcut.own
                  have HN2 := Lib.hid hcut
                  clear hcut c0 c1 c2 c3 c4
                  go_wp2
                  go_roundw
                  case rel => exact ⟨i + 1, by omega, by go_num, HN2.out⟩
                  case measure => simp [intOf]; omega
            · obtain rfl : i = L.length := by omega
              have i1 : ¬ (L.length : Int) < (L.length : Int) := by omega
              rw [List.take_length] at HN ⊢
              have hm8 : (L.filter (keepB k vm pg)).length ≤ 8 := Nat.le_trans (List.length_filter_le _ _) hL8
              generalize hm : L.filter (keepB k vm pg) = m at *
              have HM := Lib.hid hm
              clear hm
              go_upto_block 4 with fail
              go_cut [10] from 106 to 137 (fun nx wx => PI w wx C nx (stepL k vm pg Frame Wt L))
              case first =>
                as_aux_lemma =>
                  have hk3 : k ≤ 3 ∨ k = 4 ∨ k = 5 ∨ k = 6 := by omega
                  rcases hk3 with hk | hk | hk | hk
                  · by_cases h8 : m.length = 8
                    · obtain ⟨g, rfl⟩ : ∃ g, np = some ⟨g, 0, none⟩ := by
                        rcases owns_form (HN.out).own with ⟨_, h⟩ | ⟨g, cap, h, _⟩
                        · omega
                        · simp only [Value.slice.injEq] at h
                          exact ⟨g, h.1⟩
                      rw [h8]
                      rw [h8] at HN
                      exact b4e HP2 HN HV HX HXC HM hk h8 (by assumption) (by assumption)
                    · exact b4p HP2 HN HV HX HXC HM hm8 hk h8 (by assumption) (by assumption)
                  · exact b4d HP2 HN HV HX HXC HM hm8 hk (by assumption) (by assumption)
                  · exact b4v HP2 HN HV HX HXC HM hm8 hk (by assumption) (by assumption)
                  · exact b4c HP2 HN HV HX HXC HM hm8 hk (by assumption) (by assumption)
              case rest =>
                as_aux_lemma =>
                  clear HP2 HN HV HX HXC HM hm8
                  generalize stepL k vm pg Frame Wt L = M at *
                  obtain ⟨p, cap, rfl⟩ := hcut.rows.form
                  have HC := Lib.hid hcut
                  have HLn := Lib.hid hcut.cw.len
                  have hM8 : M.length ≤ 8 := by obtain ⟨v, hv, _⟩ := hcut.ca; exact hv.len
                  clear hcut
                  go_wp2_with fail
                  refine (HLn.out).mono ?_
                  rintro e w3 ⟨rfl, rfl⟩
                  dsimp only
                  clear HLn
                  go_wp2_with fail
                  go_loopw [2, 14, 15, 16, 17, 18, 19, 20] (fun _ a _ _ _ _ _ _ wq => ∃ vv : Nat, vv ≤ 3 ∧ a = .int .i64 vv ∧ PI w wq C (.slice p M.length cap) M) (fun _ a _ _ _ _ _ _ _ => 3 - (intOf a).toNat)
                  case atStart => exact ⟨0, by omega, rfl, HC.out⟩
                  case round =>
                    as_aux_lemma =>
                      clear HC
                      obtain ⟨vv, hvv, rfl, hP⟩ := hrel
                      have HP3 := Lib.hid hP
                      clear hP
                      by_cases hv3 : vv < 3
                      · have v1 : (vv : Int) < 3 := by omega
                        go_wp2_with fail
                        go_loopw [2, 15, 16, 17, 18, 19, 20] (fun _ b _ _ _ _ _ wq => ∃ pp : Nat, pp ≤ 5 ∧ b = .int .i64 pp ∧ PI w wq C (.slice p M.length cap) M) (fun _ b _ _ _ _ _ _ => 5 - (intOf b).toNat)
                        case atStart => exact ⟨0, by omega, rfl, HP3.out⟩
                        case round =>
                          as_aux_lemma =>
                            clear HP3
                            obtain ⟨pp, hpp, rfl, hP⟩ := hrel
                            have HP4 := Lib.hid hP
                            clear hP
                            by_cases hp5 : pp < 5
                            · have p1 : (pp : Int) < 5 := by omega
                              go_upto_block 8 with fail
                              go_cut [16, 17, 18, 19, 20] from 152 to 194 (fun _ _ _ _ _ wx => PI w wx C (.slice p M.length cap) M)
                              case first =>
                                as_aux_lemma =>
                                  exact b8 HP4 hv3 hp5 hM8 (by assumption) (by assumption)
                              case rest =>
                                as_aux_lemma =>
                                  have HP5 := Lib.hid hcut
                                  clear hcut HP4
                                  go_wp2
                                  go_roundw
                                  case rel => exact ⟨pp + 1, by omega, by go_num, HP5.out⟩
                                  case measure => simp [intOf]; omega
                            · obtain rfl : pp = 5 := by omega
                              go_wp2
                              go_roundw
                              case rel => exact ⟨vv + 1, by omega, by go_num, HP4.out⟩
                              case measure => simp [intOf]; omega
                      · obtain rfl : vv = 3 := by omega
                        go_wp2
                        go_roundw
                        case rel => exact ⟨t + 1, M, by omega, by go_num, HP3.out⟩
                        case measure => simp [intOf]; omega
      · obtain rfl : t = len := by omega
        have t1 : ¬ (t : Int) < (t : Int) := by omega
        have HB := Lib.hid (HP.out).be
        clear HP
        go_wp2
        go_ret
        exact ⟨rfl, HB.out⟩
end Go.Proofs.Ytjidhmdphlmldaa
