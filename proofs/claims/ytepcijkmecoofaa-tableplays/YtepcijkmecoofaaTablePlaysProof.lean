/-
  PROVED: for every number n and list of acts the law TablePlays returns true: pages that are mapped, and unmapped, in any order: where each is; and acts read as they did.
-/
import Derived.Test.YtepcijkmecoofaaRows
import Derived.Test.YtepcijkmecoofaaWM
import Derived.Test.YtepcijkmecoofaaWC
import Derived.Test.YtepcijkmecoofaaLT
import Derived.Test.YtepcijkmecoofaaEM
import Derived.Test.YtepcijkmecoofaaEC
import Derived.Test.YtepcijkmecoofaaEP
import Derived.Test.YtepcijkmecoofaaEU
import Derived.Test.YtepcijkmecoofaaWB
import Derived.Test.YtepcijkmecoofaaSM
import Derived.Test.YtepcijkmecoofaaSC
import Derived.Test.YtepcijkmecoofaaSD
import Derived.Test.YtepcijkmecoofaaED
import Derived.Test.YtepcijkmecoofaaEB
import Derived.Test.YtepcijkmecoofaaEW
import Derived.Test.YtepcijkmecoofaaVA
import Derived.Test.YtepcijkmecoofaaEK
import Derived.Test.YtepcijkmecoofaaEN
import Derived.Test.YtepcijkmecoofaaEO
import Derived.Test.YtepcijkmecoofaaEQ
import Derived.Test.YtepcijkmecoofaaER
import Derived.Test.YtepcijkmecoofaaEA
import Derived.Test.YtepcijkmecoofaaES
import Derived.Test.YtepcijkmecoofaaET
import Derived.Test.YtepcijkmecoofaaEV
import Derived.WalkKit
import Derived.ProofKit
import Derived.OpenShut
import Derived.ShutString
import Derived.ChangeOld
import Derived.Below
import Derived.Deep.CutBlock
import Derived.Deep.RegionHeld3
import Derived.Deep.Slices
import Derived.Deep.Fields
namespace Go.Proofs.Ytepcijkmecoofaa.tablePlays
open Go.Proofs.Ytepcijkmecoofaa Go.Proofs.Ytepcijkmecoofaa.WM
open Go.ChangeShapes Go.WideShapes Go.ChangeAt Go.RowKit
open Go.ChangeMaps (open_string shut_string)
set_option linter.unusedVariables false
set_option maxRecDepth 100000

theorem own : ownKnob Try.prog.godebug = none := by kernel_rfl
theorem laidOut : laidOutB Try.prog = true := by kernel_rfl
theorem wf_u8 {a : Int} (h : (Lit.int .u8 a).wf = true) : ∃ n : Nat, a = n ∧ n < 256 := by
  simp only [Lit.wf, IntKind.min, IntKind.max, IntKind.signed, IntKind.bits, Bool.and_eq_true] at h
  simp at h
  exact ⟨a.toNat, by omega, by omega⟩
theorem wf_i64 {a : Int} (h : (Lit.int .i64 a).wf = true) : -9223372036854775808 ≤ a ∧ a ≤ 9223372036854775807 := by
  simp only [Lit.wf, IntKind.min, IntKind.max, IntKind.signed, IntKind.bits, Bool.and_eq_true, decide_eq_true_eq] at h
  simp at h
  omega
/-- What the walk is told of a slice of structs that came in: for each of its elements the fields' cells. -/
def IsS22 (w : World) (a : Option Addr) (len : Nat) : Prop :=
  len ≤ maxLen ∧ ∀ i, i < len → ∃ b off, a = some ⟨b, off, none⟩ ∧ b < w.heap.size ∧ ∃ (K : Nat) (Page : Int) (Frame : Int) (W : Bool), w.cell? ⟨b, off + i * 4 + 0, none⟩ = some (.int .u8 K) ∧ w.cell? ⟨b, off + i * 4 + 1, none⟩ = some (.int .i64 Page) ∧ w.cell? ⟨b, off + i * 4 + 2, none⟩ = some (.int .i64 Frame) ∧ w.cell? ⟨b, off + i * 4 + 3, none⟩ = some (.bool W) ∧ K < 256 ∧ (-9223372036854775808 ≤ Page ∧ Page ≤ 9223372036854775807) ∧ (-9223372036854775808 ≤ Frame ∧ Frame ≤ 9223372036854775807)
theorem add_two (b off i j : Nat) : ((⟨b, off, none⟩ : Addr).add i).add j = ⟨b, off + i + j, none⟩ := by
  unfold Addr.add
  split <;> split <;> simp_all
theorem openS22 {H : Type} {enc : TypeId × Value → H} {w : World} {base : Nat} {a : Option Addr} {len cap : Nat} {d : DataW H} {p : List MemPlace}
    (h : DataW.Trod enc Try.prog w base (fun _ => true) true 22 (.slice a len cap) d p) : IsS22 w a len := by
  obtain ⟨fuel, hf⟩ := h
  rcases Go.Deep.open_slice Try.underlying22 hf with ⟨hcs, _⟩ | ⟨x, l, c, m, n, D, Pl, hcs, _, hl, hm, hmm, _, hi⟩
  · simp [Value.cells] at hcs
    obtain ⟨rfl, rfl, rfl⟩ := hcs
    exact ⟨by unfold maxLen; omega, fun i hi => by omega⟩
  · simp [Value.cells] at hcs
    obtain ⟨rfl, rfl, rfl⟩ := hcs
    refine ⟨by omega, fun i hil => ?_⟩
    have hC : Try.prog.cellsOf 34 = 4 := by kernel_rfl
    have hlm : len ≤ m := by rw [hmm]; split <;> omega
    obtain ⟨b, off, spot⟩ := x
    have hspot : spot = none := by
      obtain ⟨cs0, hc0, _⟩ := hi 0 (by omega)
      obtain ⟨_, hl0, hat0⟩ := World.cells?_some hc0
      rw [hC] at hl0 hat0
      have h0 := hat0 0 (by decide)
      rw [List.getElem?_eq_getElem (by omega)] at h0
      simpa [Addr.add] using World.cell?_spot h0
    subst hspot
    obtain ⟨cs', hc, ht'⟩ := hi i (by omega)
    obtain ⟨_, hcl, hat⟩ := World.cells?_some hc
    obtain ⟨xs, n', _, _, _, hxl, hfs⟩ := DataW.trod_struct Try.underlying34 ht'
    rw [hC] at hcl hat
    obtain ⟨y0, hy0⟩ : ∃ y, xs[0]? = some y := ⟨_, List.getElem?_eq_getElem (by rw [hxl]; decide)⟩
    have t0 := (hfs 0 _ rfl).trans hy0
    have e0 : (cs'.drop 0).take (Try.prog.cellsOf 5) = [cs'[0]'(by omega)] := by
      rw [show Try.prog.cellsOf 5 = 1 from by kernel_rfl, List.drop_eq_getElem_cons (by omega)]; rfl
    have q0 := hat 0 (by decide)
    rw [List.getElem?_eq_getElem (by omega), add_two] at q0
    replace t0 : DataW.trod enc Try.prog w base (fun _ => true) true n' 5 [cs'[0]'(by omega)] = some y0 := by rw [← e0]; exact t0
    obtain ⟨z0, k0, _, w0⟩ := DataW.trod_int Try.underlying5 t0
    rw [List.cons.injEq] at k0
    rw [k0.1] at q0
    obtain ⟨n0, rfl, b0⟩ := wf_u8 w0
    obtain ⟨y1, hy1⟩ : ∃ y, xs[1]? = some y := ⟨_, List.getElem?_eq_getElem (by rw [hxl]; decide)⟩
    have t1 := (hfs 1 _ rfl).trans hy1
    have e1 : (cs'.drop 1).take (Try.prog.cellsOf 3) = [cs'[1]'(by omega)] := by
      rw [show Try.prog.cellsOf 3 = 1 from by kernel_rfl, List.drop_eq_getElem_cons (by omega)]; rfl
    have q1 := hat 1 (by decide)
    rw [List.getElem?_eq_getElem (by omega), add_two] at q1
    replace t1 : DataW.trod enc Try.prog w base (fun _ => true) true n' 3 [cs'[1]'(by omega)] = some y1 := by rw [← e1]; exact t1
    obtain ⟨z1, k1, _, w1⟩ := DataW.trod_int Try.underlying3 t1
    rw [List.cons.injEq] at k1
    rw [k1.1] at q1
    have b1 := wf_i64 w1
    obtain ⟨y2, hy2⟩ : ∃ y, xs[2]? = some y := ⟨_, List.getElem?_eq_getElem (by rw [hxl]; decide)⟩
    have t2 := (hfs 2 _ rfl).trans hy2
    have e2 : (cs'.drop 2).take (Try.prog.cellsOf 3) = [cs'[2]'(by omega)] := by
      rw [show Try.prog.cellsOf 3 = 1 from by kernel_rfl, List.drop_eq_getElem_cons (by omega)]; rfl
    have q2 := hat 2 (by decide)
    rw [List.getElem?_eq_getElem (by omega), add_two] at q2
    replace t2 : DataW.trod enc Try.prog w base (fun _ => true) true n' 3 [cs'[2]'(by omega)] = some y2 := by rw [← e2]; exact t2
    obtain ⟨z2, k2, _, w2⟩ := DataW.trod_int Try.underlying3 t2
    rw [List.cons.injEq] at k2
    rw [k2.1] at q2
    have b2 := wf_i64 w2
    obtain ⟨y3, hy3⟩ : ∃ y, xs[3]? = some y := ⟨_, List.getElem?_eq_getElem (by rw [hxl]; decide)⟩
    have t3 := (hfs 3 _ rfl).trans hy3
    have e3 : (cs'.drop 3).take (Try.prog.cellsOf 4) = [cs'[3]'(by omega)] := by
      rw [show Try.prog.cellsOf 4 = 1 from by kernel_rfl, List.drop_eq_getElem_cons (by omega)]; rfl
    have q3 := hat 3 (by decide)
    rw [List.getElem?_eq_getElem (by omega), add_two] at q3
    replace t3 : DataW.trod enc Try.prog w base (fun _ => true) true n' 4 [cs'[3]'(by omega)] = some y3 := by rw [← e3]; exact t3
    obtain ⟨z3, k3, _⟩ := DataW.trod_bool Try.underlying4 t3
    rw [List.cons.injEq] at k3
    rw [k3.1] at q3
    exact ⟨b, off, rfl, World.block_lt_of_cell? _ _ q0, n0, z1, z2, z3, q0, q1, q2, q3, b0, b1, b2⟩

/-! ### the walk -/
set_option maxRecDepth 100000
open EM
set_option maxHeartbeats 4000000 in
theorem plays (n : Nat) (hn : n < 256) (a : Option Addr) (len cap : Nat) (w : World) (hacts : IsS22 w a len) (h50 : len ≤ 50) :
    Calls Try.prog 3 #[.int .u8 n, .slice a len cap] w fun e w' => e = .returned (.bool true) ∧ Below w.heap.size w w' := by
  have hform := formN_in n
  have HMD := Lib.hid (fun W => made_in n hn W)
  have hpg := pg_made (formN n)
  obtain ⟨F0, hF0⟩ : ∃ F, madeF (formN n) = F := ⟨_, rfl⟩
  rw [hF0] at HMD hpg
  obtain ⟨fm, hfm⟩ : ∃ x, formN n = x := ⟨_, rfl⟩
  rw [hfm] at hform HMD hpg
  clear hfm hF0
  have t50 : ¬ (50 : Int) < (len : Int) := by omega
  have HACT := Lib.hid hacts.2
  have HPG := Lib.hid hpg
  clear hacts hpg
  have hz96 := fun W => zero96_run W
  go_enter Try.func3, Try.ntmps3
  go_wp2_with fail
  refine (awake6_in _).mono ?_
  rintro e w1 ⟨rfl, b1⟩
  go_wp2_with fail
  refine (HMD.out _).mono ?_
  rintro e w2 ⟨s, h, g, cp, rfl, hm, b2⟩
  have b3 := below_more (below_up b1 b2) (.cells #[.int .i64 fm, .slice (some ⟨g, 0, none⟩) 5 cp] 27)
  have hm3 := hm.below (below_new w2 (.cells #[.int .i64 fm, .slice (some ⟨g, 0, none⟩) 5 cp] 27))
  have l3 := l2_mk w2 (.int .i64 fm) (.slice (some ⟨g, 0, none⟩) 5 cp) 27
  have hwh : Wh w s h g w2.heap.size (w2.heap.size + 1) w1.heap.size := by
    have z1 := hm.st.lt
    have z2 := hm.st.row.lt
    obtain ⟨b', off', e, z3, _⟩ := hm.ints 0 (by omega)
    injection e with e
    injection e with e1 e2
    have z4 := b2.size
    exact ⟨z1, z2, by omega, by omega, b1.size, z4⟩
  have ar4 := ar_new (w2.alloc (.cells #[.int .i64 fm, .slice (some ⟨g, 0, none⟩) 5 cp] 27)) 32
  rw [World.size_alloc] at ar4
  have b4 := below_new (w2.alloc (.cells #[.int .i64 fm, .slice (some ⟨g, 0, none⟩) 5 cp] 27)) (.cells zero96 32)
  have HPI : Hid (PI w ((w2.alloc (.cells #[.int .i64 fm, .slice (some ⟨g, 0, none⟩) 5 cp] 27)).alloc (.cells zero96 32)) s h g cp fm w2.heap.size (w2.heap.size + 1) w1.heap.size (fun _ => false) (fun _ => 0) (fun _ => false)) :=
    Lib.hid ⟨⟨F0, hm3.below b4, HPG.out⟩, l3.later b4, ar4, below_up b3 b4⟩
  clear b1 b2 b3 b4 hm hm3 l3 ar4 HMD HPG
  go_wp2_with fail
  obtain ⟨D, hD⟩ : ∃ D, w2.heap.size = D := ⟨_, rfl⟩
  obtain ⟨M, hM⟩ : ∃ M, D + 1 = M := ⟨_, rfl⟩
  obtain ⟨B, hB⟩ : ∃ B, w1.heap.size = B := ⟨_, rfl⟩
  rw [hD, hM, hB] at hwh HPI
  rw [hD, hM]
  generalize (w2.alloc (.cells #[.int .i64 fm, .slice (some ⟨g, 0, none⟩) 5 cp] 27)).alloc (.cells zero96 32) = V at *
  clear hD hM hB hz96
  have HWH := Lib.hid hwh
  clear hwh
  go_loopw [9, 10, 11, 12, 13, 14, 15, 16, 17] (fun i _ _ _ _ _ _ _ _ wr => ∃ (k : Nat) (T : Nat → Bool) (f : Nat → Nat) (R : Nat → Bool), k ≤ len ∧ i = .int .i64 k ∧ PI w wr s h g cp fm D M B T f R) (fun i _ _ _ _ _ _ _ _ _ => len - (intOf i).toNat)
  case atStart => exact ⟨0, _, _, _, by omega, rfl, HPI.out⟩
  case round =>
    clear HPI
    obtain ⟨k, T, f, R, hk, rfl, hP⟩ := hrel
    have HP := Lib.hid hP
    clear hP
    by_cases hlt : k < len
    · obtain ⟨b, off, rfl, hbl, K, Page, Frame, W, x0, x1, x2, x3, hK, hPage, hFrame⟩ := (HACT.out) k hlt
      have hbw := (HP.out).bel
      have y0 := (hbw.cell (p := ⟨b, off + k * 4 + 0, none⟩) hbl).trans x0
      have y1 := (hbw.cell (p := ⟨b, off + k * 4 + 1, none⟩) hbl).trans x1
      have y2 := (hbw.cell (p := ⟨b, off + k * 4 + 2, none⟩) hbl).trans x2
      have y3 := (hbw.cell (p := ⟨b, off + k * 4 + 3, none⟩) hbl).trans x3
      rw [Nat.add_zero] at y0
      clear hbw x0 x1 x2 x3
      have x4 := l4_new wr (.int .u8 K) (.int .i64 Page) (.int .i64 Frame) (.bool W) 34
      have HP4 := Lib.hid ((HP.out).below (below_new wr (.cells #[.int .u8 K, .int .i64 Page, .int .i64 Frame, .bool W] 34)))
      obtain ⟨pb, hpb⟩ : ∃ b, decide (0 ≤ Page ∧ Page < 32) = b := ⟨_, rfl⟩
      have hX : M < wr.heap.size := (HP.out).ar.lt
      go_upto_region 11 with fail
      clear y0 y1 y2 y3
      generalize wr.alloc (.cells #[.int .u8 K, .int .i64 Page, .int .i64 Frame, .bool W] 34) = U at *
      obtain ⟨X, hXe⟩ : ∃ X, wr.heap.size = X := ⟨_, rfl⟩
      rw [hXe] at x4 hX
      rw [hXe]
      obtain ⟨x0, x1, x2, x3, xl, xf⟩ := id x4
      clear HP hXe
      go_cut [11] from 38 to 169 (fun pg wx => wx = U ∧ pg = .bool pb)
      case first =>
        by_cases c1 : 0 ≤ Page
        · by_cases c2 : Page < 32
          · obtain rfl : pb = true := by rw [← hpb]; exact decide_eq_true ⟨c1, c2⟩
            go_wp2
            go_meet
            exact ⟨rfl, rfl⟩
          · obtain rfl : pb = false := by rw [← hpb]; exact decide_eq_false (fun h => c2 h.2)
            go_wp2
            go_meet
            exact ⟨rfl, rfl⟩
        · obtain rfl : pb = false := by rw [← hpb]; exact decide_eq_false (fun h => c1 h.1)
          go_wp2
          go_meet
          exact ⟨rfl, rfl⟩
      case rest =>
        obtain ⟨rfl, rfl⟩ := hcut
        have hsz0 := (HP4.out).bel.size
        obtain ⟨d0, d1, dl, df⟩ := (HP4.out).tb
        have n1 : ¬ (M = X) := by omega
        have n2 : ¬ (X = M) := by omega
        have hw6 := HWH.out
        obtain ⟨w1a, w1b, w1c, w1d, w1e, w1f⟩ := hw6
        go_upto_if 59 with fail
        go_cut [12, 13, 14] from 38 to 169 (fun _ _ _ wx => ∃ T' f' R', PI w wx s h g cp fm D M B T' f' R')
        case first =>
          --BEGIN ACTS
          by_cases hk3 : K % 4 = 3
          · have t3 : ((K : Int) % 4 == 3) = true := by simp; omega
            cases pb
            · have hn := of_decide_eq_false hpb
              clear hpb hk3
              obtain ⟨F, hmd, hpg⟩ := (HP4.out).md
              have HU := Lib.hid (unmap_err hmd Page hn)
              clear hmd hpg hn
              go_wp2_with fail
              refine (HU.out).mono ?_
              rintro e w5 ⟨rfl, b5⟩
              have HP5 := Lib.hid ((HP4.out).below b5)
              clear b5
              go_wp2
              go_meet
              exact ⟨_, _, _, HP5.out⟩
            · have hn := of_decide_eq_true hpb
              clear hpb hk3
              obtain ⟨hn0, hn1⟩ := hn
              obtain ⟨p, rfl⟩ := Int.eq_ofNat_of_zero_le hn0
              have hp32 : p < 32 := by omega
              obtain ⟨F, hmd, hpg⟩ := (HP4.out).md
              have HU := Lib.hid (unmap_pg hmd hform hpg p hp32)
              clear hmd hpg
              go_wp2_with fail
              refine (HU.out).mono ?_
              rintro e w5 ⟨rfl, F', hm5, hp5, g5⟩
              have HP5 := Lib.hid ((HP4.out).turn HWH.out p hp32 false 0 false rfl rfl rfl ⟨F', hm5, hp5⟩ g5)
              have har := (HP4.out).ar.kept g5 (fun e => by injection e with e; omega)
              have a0 := har.c0 p hp32
              have a1 := har.c1 p hp32
              have a2 := har.c2 p hp32
              have af := har.fz
              obtain ⟨y0, y1, y2, y3, yl, yf⟩ := (L4.mk x0 x1 x2 x3 xl xf).kept g5 (fun e => by injection e with e; omega)
              clear hm5 hp5 g5 har x0 x1 x2 x3 xl xf d0 d1 dl df
              go_wp2
              go_meet
              exact ⟨_, _, _, HP5.out⟩
          · have t3 : ((K : Int) % 4 == 3) = false := by simp; omega
            clear hk3
            cases pb
            · have hn := of_decide_eq_false hpb
              clear hpb
              obtain ⟨F, hmd, hpg⟩ := (HP4.out).md
              have HU := Lib.hid (map_err hmd Page Frame W (by omega))
              clear hmd hpg
              go_wp2_with fail
              refine (HU.out).mono ?_
              rintro e w5 ⟨rfl, b5⟩
              have HP5 := Lib.hid ((HP4.out).below b5)
              obtain ⟨y0, y1, y2, y3, yl, yf⟩ := (L4.mk x0 x1 x2 x3 xl xf).later b5
              clear b5 x0 x1 x2 x3 xl xf d0 d1 dl df
              go_wp2
              go_meet
              exact ⟨_, _, _, HP5.out⟩
            · have hn := of_decide_eq_true hpb
              clear hpb
              obtain ⟨hn0, hn1⟩ := hn
              by_cases f0 : 0 ≤ Frame
              · by_cases f1 : Frame < 40
                · obtain ⟨p, rfl⟩ := Int.eq_ofNat_of_zero_le hn0
                  obtain ⟨fv, rfl⟩ := Int.eq_ofNat_of_zero_le f0
                  have hp32 : p < 32 := by omega
                  have hf40 : fv < 40 := by omega
                  by_cases f3 : (3 : Int) ≤ (fv : Int)
                  · by_cases f8 : (fv : Int) < 8
                    · as_aux_lemma =>
                        obtain ⟨F, hmd, hpg⟩ := (HP4.out).md
                        have HU := Lib.hid (map_pg hmd hform hpg p hp32 fv hf40 W)
                        clear hmd hpg
                        go_wp2_with fail
                        refine (HU.out).mono ?_
                        rintro e w5 ⟨rfl, F', hm5, hp5, g5⟩
                        have HP5 := Lib.hid ((HP4.out).turn HWH.out p hp32 true fv W rfl rfl rfl ⟨F', hm5, hp5⟩ g5)
                        have har := (HP4.out).ar.kept g5 (fun e => by injection e with e; omega)
                        have a0 := har.c0 p hp32
                        have a1 := har.c1 p hp32
                        have a2 := har.c2 p hp32
                        have af := har.fz
                        obtain ⟨y0, y1, y2, y3, yl, yf⟩ := (L4.mk x0 x1 x2 x3 xl xf).kept g5 (fun e => by injection e with e; omega)
                        clear hm5 hp5 g5 har x0 x1 x2 x3 xl xf d0 d1 dl df
                        go_wp2
                        go_ret
                        exact ⟨rfl, (HP5.out).bel⟩
                    · as_aux_lemma =>
                        obtain ⟨F, hmd, hpg⟩ := (HP4.out).md
                        have HU := Lib.hid (map_pg hmd hform hpg p hp32 fv hf40 W)
                        clear hmd hpg
                        go_wp2_with fail
                        refine (HU.out).mono ?_
                        rintro e w5 ⟨rfl, F', hm5, hp5, g5⟩
                        have HP5 := Lib.hid ((HP4.out).turn HWH.out p hp32 true fv W rfl rfl rfl ⟨F', hm5, hp5⟩ g5)
                        have har := (HP4.out).ar.kept g5 (fun e => by injection e with e; omega)
                        have a0 := har.c0 p hp32
                        have a1 := har.c1 p hp32
                        have a2 := har.c2 p hp32
                        have af := har.fz
                        obtain ⟨y0, y1, y2, y3, yl, yf⟩ := (L4.mk x0 x1 x2 x3 xl xf).kept g5 (fun e => by injection e with e; omega)
                        clear hm5 hp5 g5 har x0 x1 x2 x3 xl xf d0 d1 dl df
                        go_wp2
                        go_meet
                        exact ⟨_, _, _, HP5.out⟩
                  · as_aux_lemma =>
                      obtain ⟨F, hmd, hpg⟩ := (HP4.out).md
                      have HU := Lib.hid (map_pg hmd hform hpg p hp32 fv hf40 W)
                      clear hmd hpg
                      go_wp2_with fail
                      refine (HU.out).mono ?_
                      rintro e w5 ⟨rfl, F', hm5, hp5, g5⟩
                      have HP5 := Lib.hid ((HP4.out).turn HWH.out p hp32 true fv W rfl rfl rfl ⟨F', hm5, hp5⟩ g5)
                      have har := (HP4.out).ar.kept g5 (fun e => by injection e with e; omega)
                      have a0 := har.c0 p hp32
                      have a1 := har.c1 p hp32
                      have a2 := har.c2 p hp32
                      have af := har.fz
                      obtain ⟨y0, y1, y2, y3, yl, yf⟩ := (L4.mk x0 x1 x2 x3 xl xf).kept g5 (fun e => by injection e with e; omega)
                      clear hm5 hp5 g5 har x0 x1 x2 x3 xl xf d0 d1 dl df
                      go_wp2
                      go_meet
                      exact ⟨_, _, _, HP5.out⟩
                · as_aux_lemma =>
                    obtain ⟨F, hmd, hpg⟩ := (HP4.out).md
                    have HU := Lib.hid (map_err hmd Page Frame W (by omega))
                    clear hmd hpg
                    go_wp2_with fail
                    refine (HU.out).mono ?_
                    rintro e w5 ⟨rfl, b5⟩
                    have HP5 := Lib.hid ((HP4.out).below b5)
                    obtain ⟨y0, y1, y2, y3, yl, yf⟩ := (L4.mk x0 x1 x2 x3 xl xf).later b5
                    clear b5 x0 x1 x2 x3 xl xf d0 d1 dl df
                    go_wp2
                    go_meet
                    exact ⟨_, _, _, HP5.out⟩
              · as_aux_lemma =>
                  obtain ⟨F, hmd, hpg⟩ := (HP4.out).md
                  have HU := Lib.hid (map_err hmd Page Frame W (by omega))
                  clear hmd hpg
                  go_wp2_with fail
                  refine (HU.out).mono ?_
                  rintro e w5 ⟨rfl, b5⟩
                  have HP5 := Lib.hid ((HP4.out).below b5)
                  obtain ⟨y0, y1, y2, y3, yl, yf⟩ := (L4.mk x0 x1 x2 x3 xl xf).later b5
                  clear b5 x0 x1 x2 x3 xl xf d0 d1 dl df
                  go_wp2
                  go_meet
                  exact ⟨_, _, _, HP5.out⟩
          --END ACTS
        case rest =>
          obtain ⟨T', f', R', hP5⟩ := hcut
          have HP5 := Lib.hid hP5
          clear hP5 x0 x1 x2 x3 xl xf d0 d1 dl df HP4 x4 hpb hX hsz0
          go_wp2_with fail
          go_loopw [15, 16, 17] (fun i _ _ wr => ∃ q : Nat, q ≤ 32 ∧ i = .int .i64 q ∧ PI w wr s h g cp fm D M B T' f' R') (fun i _ _ _ => (32 - intOf i).toNat)
          case atStart => exact ⟨0, by omega, rfl, HP5.out⟩
          case round =>
            clear HP5
            obtain ⟨q, hq, rfl, hP6⟩ := hrel
            have HP6 := Lib.hid hP6
            clear hP6
            by_cases hq32 : q < 32
            · have qq : (q : Int) < 32 := by omega
              have q0 : (0 : Int) ≤ (q : Int) := by omega
              obtain ⟨F, hmd, hpg⟩ := (HP6.out).md
              have hwk := walk_pg hmd hform hpg q hq32
              have a0 := (HP6.out).ar.c0 q hq32
              have a1 := (HP6.out).ar.c1 q hq32
              have a2 := (HP6.out).ar.c2 q hq32
              have al := (HP6.out).ar.lt
              obtain ⟨d0, d1, dl, df⟩ := (HP6.out).tb
              clear hmd hpg
              generalize T' q = t at *
              generalize f' q = fv at *
              generalize R' q = rr at *
              cases t
              --BEGIN INNER
              · rw [show werr false = 11 from rfl] at hwk
                have HWK := Lib.hid hwk
                clear hwk
                go_wp2_with fail
                refine (HWK.out).mono ?_
                rintro e w6 ⟨rfl, b6⟩
                have b7 := below_up b6 (below_new w6 (.cells #[.bool false, .int .i64 fv, .bool rr] 31))
                have HP7 := Lib.hid ((HP6.out).below b7)
                obtain ⟨r0, r1, r2, rl, rf⟩ := l3_new w6 (.bool false) (.int .i64 fv) (.bool rr) 31
                have c0 := (b7.cell (p := ⟨M, q * 3, none⟩) al).trans a0
                have c1 := (b7.cell (p := ⟨M, q * 3 + 1, none⟩) al).trans a1
                have c2 := (b7.cell (p := ⟨M, q * 3 + 2, none⟩) al).trans a2
                clear a0 a1 a2 d0 d1 dl df b6 b7
                go_wp2_with fail
                generalize w6.alloc (.cells #[.bool false, .int .i64 fv, .bool rr] 31) = U6 at *
                generalize w6.heap.size = E6 at *
                go_quiet (fail)
                go_wp2
                go_roundw
                case rel => exact ⟨q + 1, by omega, by go_num, (HP7.out).below (below_draws (Below.refl _ _) _)⟩
                case measure => simp [intOf]; omega
              · rw [show werr true = 0 from rfl] at hwk
                have HWK := Lib.hid hwk
                clear hwk
                go_wp2_with fail
                refine (HWK.out).mono ?_
                rintro e w6 ⟨rfl, b6⟩
                have b7 := below_up b6 (below_new w6 (.cells #[.bool true, .int .i64 fv, .bool rr] 31))
                have HP7 := Lib.hid ((HP6.out).below b7)
                obtain ⟨r0, r1, r2, rl, rf⟩ := l3_new w6 (.bool true) (.int .i64 fv) (.bool rr) 31
                have c0 := (b7.cell (p := ⟨M, q * 3, none⟩) al).trans a0
                have c1 := (b7.cell (p := ⟨M, q * 3 + 1, none⟩) al).trans a1
                have c2 := (b7.cell (p := ⟨M, q * 3 + 2, none⟩) al).trans a2
                clear a0 a1 a2 d0 d1 dl df b6 b7
                go_wp2_with fail
                generalize w6.alloc (.cells #[.bool true, .int .i64 fv, .bool rr] 31) = U6 at *
                generalize w6.heap.size = E6 at *
                go_quiet (fail)
                go_wp2
                go_roundw
                case rel => exact ⟨q + 1, by omega, by go_num, (HP7.out).below (below_draws (Below.refl _ _) _)⟩
                case measure => simp [intOf]; omega
              --END INNER
            · have qq : ¬ (q : Int) < 32 := by omega
              go_wp2
              go_roundw
              case rel => exact ⟨k + 1, T', f', R', by omega, by go_num, HP6.out⟩
              case measure => simp [intOf]; omega
    · have kk : ¬ (k : Int) < (len : Int) := by omega
      obtain ⟨F, hmd, hpg⟩ := (HP.out).md
      have HAL := Lib.hid (all_ok hmd hform hpg)
      obtain ⟨d0, d1, dl, df⟩ := (HP.out).tb
      clear hmd hpg
      go_wp2_with fail
      refine (HAL.out).mono ?_
      rintro e w9 ⟨v1, v2, rfl, o1, o2, b9⟩
      obtain ⟨A1, C1, rfl, hN, hr1⟩ := owns_form o1
      obtain ⟨A2, C2, rfl, _, hr2⟩ := owns_form o2
      have HR1 := Lib.hid hr1
      have HR2 := Lib.hid hr2
      have har := (HP.out).ar.below b9
      have HAR := Lib.hid har
      have HB9 := Lib.hid (below_up (HP.out).bel b9)
      obtain ⟨N, hNe⟩ : ∃ N, (pl T 32).length = N := ⟨_, rfl⟩
      rw [hNe] at hN HR1 HR2
      rw [hNe]
      have HNE := Lib.hid hNe
      clear hr1 hr2 har b9 o1 o2 hNe d0 d1 dl df HAL
      go_wp2_with fail
      go_loopw [20, 21] (fun c i wr => ∃ q : Nat, q ≤ 32 ∧ i = .int .i64 q ∧ c = .int .i64 ((pl T q).length : Nat) ∧ ∃ m, wr = w9.drewN m) (fun _ i _ => (32 - intOf i).toNat)
      case atStart => exact ⟨0, by omega, rfl, rfl, 0, rfl⟩
      case round =>
        obtain ⟨q, hq, rfl, rfl, m, rfl⟩ := hrel
        by_cases hq32 : q < 32
        · have qq : (q : Int) < 32 := by omega
          have q0 : (0 : Int) ≤ (q : Int) := by omega
          have a0 : w9.cell? ⟨M, q * 3, none⟩ = some (.bool (T q)) := (HAR.out).c0 q hq32
          have a1 : w9.cell? ⟨M, q * 3 + 1, none⟩ = some (.int .i64 (f q : Nat)) := (HAR.out).c1 q hq32
          have a2 : w9.cell? ⟨M, q * 3 + 2, none⟩ = some (.bool (R q)) := (HAR.out).c2 q hq32
          have hle := pl_len T q
          cases hT : T q
          · have HPL := Lib.hid (pl_no T q hT)
            rw [hT] at a0
            generalize hc : (pl T q).length = c at *
            have HC := Lib.hid hc
            clear hT hc
            go_wp2
            go_roundw
            case rel => exact ⟨q + 1, by omega, by go_num, by rw [HPL.out, HC.out], m, rfl⟩
            case measure => simp [intOf]; omega
          · have HPL := Lib.hid (pl_yes T q hT)
            have hcN := pl_lt T q hq32 hT
            rw [HNE.out] at hcN
            have e0 := xsV_at T q hq32 hT
            have e1 := ysV_at T f R q hq32 hT 0 (by omega)
            have e2 := ysV_at T f R q hq32 hT 1 (by omega)
            have e3 := ysV_at T f R q hq32 hT 2 (by omega)
            rw [hT] at a0
            obtain ⟨g1, rfl, hc1⟩ := (HR1.out) (by omega)
            obtain ⟨g2, rfl, hc2⟩ := (HR2.out) (by omega)
            have s0 : w9.cell? ⟨g1, (pl T q).length, none⟩ = some (.int .i64 (q : Nat)) := hc1 _ _ e0
            have s1 : w9.cell? ⟨g2, (pl T q).length * 3, none⟩ = some (.bool true) := hc2 _ _ e1
            have s2 : w9.cell? ⟨g2, (pl T q).length * 3 + 1, none⟩ = some (.int .i64 (f q : Nat)) := hc2 _ _ e2
            have s3 : w9.cell? ⟨g2, (pl T q).length * 3 + 2, none⟩ = some (.bool (R q)) := hc2 _ _ e3
            generalize hc : (pl T q).length = c at *
            generalize f q = fv at *
            generalize R q = rr at *
            have HC := Lib.hid hc
            have c0 : (0 : Int) ≤ (c : Int) := by omega
            have c1 : (c : Int) < (N : Int) := by omega
            have c2 : ¬ (N : Int) ≤ (c : Int) := by omega
            have c3 : decide ((N : Int) ≤ (c : Int)) = false := decide_eq_false c2
            clear hT hc e0 e1 e2 e3 hc1 hc2
            go_wp2_with fail
            go_quiet (fail)
            go_wp2
            go_roundw
            case rel => exact ⟨q + 1, by omega, by go_num, by rw [HPL.out, List.length_append, HC.out]; go_num, _, rfl⟩
            case measure => simp [intOf]; omega
        · have qq : ¬ (q : Int) < 32 := by omega
          obtain rfl : q = 32 := by omega
          rw [HNE.out]
          go_wp2
          go_ret
          exact ⟨rfl, below_draws HB9.out m⟩
theorem walk (p_n : Nat) (hp_n : p_n < 256) (p_acts : Option Addr) (p_acts_len p_acts_cap : Nat) (w : World) (hp_acts : IsS22 w p_acts p_acts_len) :
    Calls Try.prog 3 #[.int .u8 p_n, .slice p_acts p_acts_len p_acts_cap] w fun e w' => e = .returned (.bool true) ∧ Below w.heap.size w w' := by
  have hp := hp_acts
  unfold IsS22 at hp
  obtain ⟨hm, _⟩ := hp
  unfold maxLen at hm
  by_cases h50 : p_acts_len ≤ 50
  · exact plays p_n hp_n p_acts p_acts_len p_acts_cap w hp_acts h50
  · have t50 : (50 : Int) < (p_acts_len : Int) := by omega
    clear hp_acts
    go_enter Try.func3, Try.ntmps3
    go_wp2_with fail
    refine (awake6_in _).mono ?_
    rintro e w1 ⟨rfl, b1⟩
    go_wp2_with fail
    refine (awake6_in _).mono ?_
    rintro e w2 ⟨rfl, b2⟩
    go_wp2
    go_ret
    exact ⟨rfl, below_up b1 b2⟩

/-! ### the row's step -/
set_option maxRecDepth 100000 in
theorem lifted (os : Os) (started : os.Started) (H : Type) (enc : TypeId × Value → H) :
    ReturnsInHanded {} Try.checked os 3 .any (Rows.tablePlaysSpec.pre6 enc Try.prog Try.f3 Rows.tablePlaysRow.domain false) (Rows.tablePlaysSpec.post enc Try.prog Try.f3 false true false false) := by
  refine returnsInHanded_of_change (C := Try.checked) own started (by kernel_rfl) Try.func3
    (ChangeSpec.witness6 (enc := enc) (C := Try.checked) false ⟨#[], #[.int .u8 0, .slice none 0 0], []⟩ 8 (by kernel_rfl) (by kernel_rfl) (by kernel_rfl) (by kernel_rfl)) ?_
  intro W base args ds gs before hval0 hW hcnd _
  have hval : ∀ (j : Nat) t v, Try.f3.params[j]? = some t → args[j]? = some v → Value.okWide Try.prog W .any base t v := hval0
  have hW' := hW
  obtain ⟨p, q, hA0, hV, rfl, hfz, hnd⟩ := hW
  have hA : DataW.TrodAll enc Try.prog W 0 (fun _ => true) true Try.f3.params.toList args.toList ds p := hA0
  rw [Try.params3] at hA hval
  obtain ⟨v0, vs0, d0, ds0, p0, q0, hargs, rfl, rfl, h0, r0⟩ := trodAll_cons hA
  obtain ⟨v1, vs1, d1, ds1, p1, q1, rfl, rfl, rfl, h1, r1⟩ := trodAll_cons r0
  obtain ⟨rfl, rfl, rfl⟩ := trodAll_nil r1
  obtain rfl : args = #[v0, v1] := by cases args; simp_all
  obtain ⟨rfl, rfl⟩ := trodVars_none hV
  obtain ⟨a0, rfl, rfl, rfl, w0⟩ := open_int Try.underlying5 (hval 0 5 v0 rfl rfl) h0
  obtain ⟨n0, rfl, b0⟩ := wf_u8 w0
  obtain ⟨a1, len1, cap1, rfl⟩ := okWide_slice Try.underlying22 (hval 1 22 v1 rfl rfl)
  have k1 := h1
  have lt1 : ∀ x ∈ p1, x.block < W.heap.size := by obtain ⟨m, hm⟩ := k1; exact DataW.trod_lt m _ _ _ hm
  have w1 := openS22 h1
  clear hA0 hval0
  refine (walk n0 b0 a1 len1 cap1 W w1).mono fun e W' ⟨he, bel⟩ => ?_
  subst he
  exact ⟨_, rfl, _, _, _, [], _, [], hW', trodAll_mk1 (shut_bool Try.underlying4 _), (trodAll_cons_mk (shut_int Try.underlying5 w0) (trodAll_cons_mk (Below.trod laidOut (by kernel_rfl) (of_decide_eq_true (by kernel_rfl)) k1 bel lt1) trodAll_mk0)), rfl, bel.frame _, fun h => by cases h⟩

theorem over : Rows.tablePlaysRow.holds Try.pinned (OpenSpec.ofChange Rows.tablePlaysSpec) :=
  OpenClaim.holds_of_wide 3 Try.f3 rfl rfl rfl rfl rfl rfl rfl ⟨rfl, rfl, rfl, rfl, rfl⟩ rfl rfl rfl rfl rfl (by kernel_rfl) Try.func3 (by kernel_rfl)
    (of_decide_eq_true (by kernel_rfl)) (by unfold Func.isWrapper; first | (rw [if_pos (by decide +kernel)]; kernel_rfl) | (rw [if_neg (by decide +kernel)]; exact ⟨rfl, rfl⟩))
    (fun os started H enc _ => lifted os started H enc)

/-- THE STATEMENT -/
theorem proved : Rows.TablePlaysSaid := over
#print axioms proved
end Go.Proofs.Ytepcijkmecoofaa.tablePlays
