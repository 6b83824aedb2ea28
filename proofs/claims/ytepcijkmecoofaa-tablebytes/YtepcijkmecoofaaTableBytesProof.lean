/-
  PROVED: for every number n, page, frame and write the law TableBytes returns true: what stands in the store behind Make and Map, the root and the others, is as the document says; and the arguments read as they did.
-/
import Derived.Test.YtepcijkmecoofaaRows
import Derived.Test.YtepcijkmecoofaaWM
import Derived.Test.YtepcijkmecoofaaWC
import Derived.Test.YtepcijkmecoofaaLT
import Derived.Test.YtepcijkmecoofaaEM
import Derived.Test.YtepcijkmecoofaaEC
import Derived.Test.YtepcijkmecoofaaEP
import Derived.Test.YtepcijkmecoofaaEU
import Derived.Test.YtepcijkmecoofaaWB
import Derived.Test.YtepcijkmecoofaaSM
import Derived.Test.YtepcijkmecoofaaSC
import Derived.Test.YtepcijkmecoofaaSD
import Derived.Test.YtepcijkmecoofaaED
import Derived.Test.YtepcijkmecoofaaEB
import Derived.Test.YtepcijkmecoofaaEW
import Derived.Test.YtepcijkmecoofaaVA
import Derived.Test.YtepcijkmecoofaaEK
import Derived.Test.YtepcijkmecoofaaEN
import Derived.Test.YtepcijkmecoofaaEO
import Derived.Test.YtepcijkmecoofaaEQ
import Derived.Test.YtepcijkmecoofaaER
import Derived.WalkKit
import Derived.ProofKit
import Derived.OpenShut
import Derived.ShutString
import Derived.ChangeOld
import Derived.Below
import Derived.Deep.CutBlock
import Derived.Deep.RegionHeld3
import Derived.Deep.Slices
import Derived.Deep.Fields
namespace Go.Proofs.Ytepcijkmecoofaa.tableBytes
open Go.Proofs.Ytepcijkmecoofaa Go.Proofs.Ytepcijkmecoofaa.WM
open Go.ChangeShapes Go.WideShapes Go.ChangeAt Go.RowKit
open Go.ChangeMaps (open_string shut_string)
set_option linter.unusedVariables false
set_option maxRecDepth 100000

theorem own : ownKnob Try.prog.godebug = none := by kernel_rfl
theorem laidOut : laidOutB Try.prog = true := by kernel_rfl
theorem wf_u8 {a : Int} (h : (Lit.int .u8 a).wf = true) : ∃ n : Nat, a = n ∧ n < 256 := by
  simp only [Lit.wf, IntKind.min, IntKind.max, IntKind.signed, IntKind.bits, Bool.and_eq_true] at h
  simp at h
  exact ⟨a.toNat, by omega, by omega⟩

/-! ### the walk -/
set_option maxRecDepth 100000
open EM
theorem load_wd {w : World} {s h n : Nat} {f : Nat → Nat} (H : St w s h n f) (fr i v : Nat) (hf : fr < n) (hi : i < 32) (hv : wd f fr i = v) :
    Calls Try.prog 16 #[.pointer (some ⟨s, 0, none⟩), .int .i64 fr, .int .i64 i] w fun e w' => e = .returned (.tuple #[.int .u64 (v : Nat), .int .i64 0]) ∧ w = w' := by
  have h := load_ok H fr i hf hi
  rw [show ofN (fun j => f (fr * 256 + i * 8 + j)) 8 = v from hv] at h
  exact h
set_option maxHeartbeats 4000000 in
theorem bytes (n : Nat) (hn : n < 256) (page frame : Nat) (hpage : page < 256) (hframe : frame < 256) (write : Bool) (w : World) :
    Calls Try.prog 5 #[.int .u8 n, .int .u8 page, .int .u8 frame, .bool write] w fun e w' => e = .returned (.bool true) ∧ Below w.heap.size w w' := by
  have hform := formN_in n
  have HMD := Lib.hid (fun W => made_in n hn W)
  have HF := Lib.hid (fun W => form_in n hn W)
  have hroots := roots_made (formN n)
  have hmw := fun k i hi => made_wd (formN n) k i hi
  obtain ⟨F0, hF0⟩ : ∃ F, madeF (formN n) = F := ⟨_, rfl⟩
  rw [hF0] at HMD hroots hmw
  obtain ⟨fm, hfm⟩ : ∃ x, formN n = x := ⟨_, rfl⟩
  rw [hfm] at HF hform HMD hroots hmw
  clear hfm hF0
  obtain ⟨p, hp⟩ : ∃ p, page % 32 = p := ⟨_, rfl⟩
  obtain ⟨f, hf⟩ : ∃ f, 8 + frame % 32 = f := ⟨_, rfl⟩
  have p1 : (page : Int) % 32 = (p : Int) := by omega
  have p2 : 8 + (frame : Int) % 32 = (f : Int) := by omega
  have hp32 : p < 32 := by omega
  have hf40 : f < 40 := by omega
  clear hp hf
  have HMW := Lib.hid hmw
  clear hmw
  go_enter Try.func5, Try.ntmps5
  go_wp2_with fail
  refine (awake6_in _).mono ?_
  rintro e w1 ⟨rfl, b1⟩
  go_wp2_with fail
  refine (HMD.out _).mono ?_
  rintro e w2 ⟨s, h, g, cap, rfl, hm, b2⟩
  have b3 := below_more (below_up b1 b2) (.cells #[.int .i64 fm, .slice (some ⟨g, 0, none⟩) 5 cap] 27)
  have hm3 := hm.below (below_new w2 (.cells #[.int .i64 fm, .slice (some ⟨g, 0, none⟩) 5 cap] 27))
  have hmap := map_way hm3.st fm (some ⟨g, 0, none⟩) 5 cap p hp32 f write (4 + p / 8) (pk fm f write) (by omega) hf40 (hm3.leads hform hroots p hp32) (fun W => pack_in fm f write W hform (by omega))
  have HMAP := Lib.hid hmap
  have HMD3 := Lib.hid hm3
  have hls := hm.ls
  have hlh := hm.lh
  have b1s := b1.size
  clear hmap hm hm3 b1 b2
  go_wp2_with fail
  refine (HMAP.out).mono ?_
  rintro e w4 ⟨rfl, h4, g4⟩
  have b4 := b3.grown g4 b3.size (fun j hj => by injection hj with hj; omega)
  have HS4 := Lib.hid h4
  obtain ⟨q, hq⟩ : ∃ q, p / 8 = q := ⟨_, rfl⟩
  obtain ⟨m, hm⟩ : ∃ m, p % 8 = m := ⟨_, rfl⟩
  rw [hq, hm] at HS4
  have q1 : (p : Int) / 8 = (q : Int) := by omega
  have q2 : IntKind.i64.wrap ((p : Int) / 8) = (q : Int) := by rw [IntWalk.i64_in _ (by omega)]; omega
  have m1 : (p : Int) % 8 = (m : Int) := by omega
  have hq4 : q < 4 := by omega
  have hm8 : m < 8 := by omega
  have HWA := Lib.hid (fun i (hi : i < 4) => (wd_other F0 (4 + q) m 3 i (pk fm f write) (by omega) (by omega) (by omega)).trans (((HMW.out) 3 i (by omega)).trans (if_pos ⟨rfl, hi⟩)))
  have HWB := Lib.hid (wd_same F0 (4 + q) m (pk fm f write) (pk_lt _ _ _ (by omega)))
  have HWC := Lib.hid (fun k i (hi : i < 32) (h1 : ¬ (k = 4 + q ∧ i = m)) (h2 : ¬ (k = 3 ∧ i < 4)) => (wd_other F0 (4 + q) m k i (pk fm f write) (by omega) hi h1).trans (((HMW.out) k i hi).trans (if_neg h2)))
  have HPA := Lib.hid (fun i (hi : i < 4) W => pack_in fm (4 + i) true W hform (by omega))
  have HPB := Lib.hid (fun W => pack_in fm f write W hform (by omega))
  obtain ⟨F1, hF1⟩ : ∃ F, putF F0 ((4 + q) * 256 + m * 8) 8 (byteN (pk fm f write)) = F := ⟨_, rfl⟩
  rw [hF1] at HS4 HWA HWB HWC
  clear h4 g4 b3 hq hm hF1 HMAP HMD3 hroots HMW HMD hls hlh b1s
  have B4 := Lib.hid b4
  clear b4 hform
  go_wp2_with fail
  go_loopw [14, 15, 16, 17, 18] (fun k _ _ _ _ wr => ∃ j : Nat, 3 ≤ j ∧ j ≤ 8 ∧ k = .int .i64 j ∧ Below w4.heap.size w4 wr) (fun k _ _ _ _ _ => (8 - intOf k).toNat)
  case atStart => exact ⟨3, by omega, by omega, rfl, Below.refl _ _⟩
  case round =>
    obtain ⟨k, hk3, hk8, rfl, hb⟩ := hrel
    have HB := Lib.hid hb
    clear hb
    by_cases hk : k < 8
    · have kk : (k : Int) < 8 := by omega
      go_wp2_with fail
      go_loopw [15, 16, 17, 18] (fun i _ _ _ wr => ∃ j : Nat, j ≤ 32 ∧ i = .int .i64 j ∧ Below w4.heap.size w4 wr) (fun i _ _ _ _ => (32 - intOf i).toNat)
      case atStart => exact ⟨0, by omega, rfl, HB.out⟩
      case round =>
        obtain ⟨i, hi32, rfl, hb2⟩ := hrel
        have HB2 := Lib.hid hb2
        by_cases hi : i < 32
        · have ii : (i : Int) < 32 := by omega
          by_cases c3 : k = 3
          · have t3 : ((k : Int) == 3) = true := by simp; omega
            have t4 : ((k : Int) == 4 + (q : Int)) = false := by simp; omega
            by_cases c4 : i < 4
            · have t5 : (i : Int) < 4 := by omega
              obtain ⟨v, hv⟩ : ∃ v, pk fm (4 + i) true = v := ⟨_, rfl⟩
              have HLD := Lib.hid (load_wd ((HS4.out).below hb2) k i v (by omega) hi (by rw [c3, (HWA.out) i c4, hv]))
              have hpk := (HPA.out) i c4
              rw [hv, show ((4 + i : Nat) : Int) = 4 + (i : Int) by omega] at hpk
              have HPK := Lib.hid hpk
              clear hb2 hpk hv c3 c4
              go_wp2_with fail
              refine (HLD.out).mono ?_
              rintro e w' ⟨rfl, rfl⟩
              go_wp2_with fail
              refine (HF.out _).mono ?_
              rintro e w' ⟨rfl, rfl⟩
              go_wp2_with fail
              refine (HPK.out _).mono ?_
              rintro e w6 ⟨rfl, b6⟩
              have HB6 := Lib.hid (below_up HB2.out b6)
              clear b6
              go_wp2
              go_roundw
              case rel => exact ⟨i + 1, by omega, by go_num, HB6.out⟩
              case measure => simp [intOf]; omega
            · have t5 : ¬ (i : Int) < 4 := by omega
              have HLD := Lib.hid (load_wd ((HS4.out).below hb2) k i 0 (by omega) hi ((HWC.out) k i hi (by omega) (by omega)))
              clear hb2 c3 c4
              go_wp2_with fail
              refine (HLD.out).mono ?_
              rintro e w' ⟨rfl, rfl⟩
              go_wp2
              go_roundw
              case rel => exact ⟨i + 1, by omega, by go_num, HB2.out⟩
              case measure => simp [intOf]; omega
          · have t3 : ((k : Int) == 3) = false := by simp; omega
            by_cases c4 : k = 4 + q
            · have t4 : ((k : Int) == 4 + (q : Int)) = true := by simp; omega
              by_cases c5 : i = m
              · have t5 : ((i : Int) == (m : Int)) = true := by simp; omega
                obtain ⟨v, hv⟩ : ∃ v, pk fm f write = v := ⟨_, rfl⟩
                have HLD := Lib.hid (load_wd ((HS4.out).below hb2) k i v (by omega) hi (by rw [c4, c5, HWB.out, hv]))
                have hpk := HPB.out
                rw [hv] at hpk
                have HPK := Lib.hid hpk
                clear hb2 hpk hv c3 c4 c5
                go_wp2_with fail
                refine (HLD.out).mono ?_
                rintro e w' ⟨rfl, rfl⟩
                go_wp2_with fail
                refine (HF.out _).mono ?_
                rintro e w' ⟨rfl, rfl⟩
                go_wp2_with fail
                refine (HPK.out _).mono ?_
                rintro e w6 ⟨rfl, b6⟩
                have HB6 := Lib.hid (below_up HB2.out b6)
                clear b6
                go_wp2
                go_roundw
                case rel => exact ⟨i + 1, by omega, by go_num, HB6.out⟩
                case measure => simp [intOf]; omega
              · have t5 : ((i : Int) == (m : Int)) = false := by simp; omega
                have HLD := Lib.hid (load_wd ((HS4.out).below hb2) k i 0 (by omega) hi ((HWC.out) k i hi (by omega) (by omega)))
                clear hb2 c3 c4 c5
                go_wp2_with fail
                refine (HLD.out).mono ?_
                rintro e w' ⟨rfl, rfl⟩
                go_wp2
                go_roundw
                case rel => exact ⟨i + 1, by omega, by go_num, HB2.out⟩
                case measure => simp [intOf]; omega
            · have t4 : ((k : Int) == 4 + (q : Int)) = false := by simp; omega
              have HLD := Lib.hid (load_wd ((HS4.out).below hb2) k i 0 (by omega) hi ((HWC.out) k i hi (by omega) (by omega)))
              clear hb2 c3 c4
              go_wp2_with fail
              refine (HLD.out).mono ?_
              rintro e w' ⟨rfl, rfl⟩
              go_wp2
              go_roundw
              case rel => exact ⟨i + 1, by omega, by go_num, HB2.out⟩
              case measure => simp [intOf]; omega
        · have ii : ¬ (i : Int) < 32 := by omega
          clear hb2
          go_wp2
          go_roundw
          case rel => exact ⟨k + 1, by omega, by omega, by go_num, HB2.out⟩
          case measure => simp [intOf]; omega
    · have kk : ¬ (k : Int) < 8 := by omega
      go_wp2
      go_ret
      exact ⟨rfl, below_up B4.out HB.out⟩
theorem walk (p_n : Nat) (hp_n : p_n < 256) (p_page : Nat) (hp_page : p_page < 256) (p_frame : Nat) (hp_frame : p_frame < 256) (p_write : Bool) (w : World)  :
    Calls Try.prog 5 #[.int .u8 p_n, .int .u8 p_page, .int .u8 p_frame, .bool p_write] w fun e w' => e = .returned (.bool true) ∧ Below w.heap.size w w' := by
  exact bytes p_n hp_n p_page p_frame hp_page hp_frame p_write w

/-! ### the row's step -/
set_option maxRecDepth 100000 in
theorem lifted (os : Os) (started : os.Started) (H : Type) (enc : TypeId × Value → H) :
    ReturnsInHanded {} Try.checked os 5 .any (Rows.tableBytesSpec.pre6 enc Try.prog Try.f5 Rows.tableBytesRow.domain false) (Rows.tableBytesSpec.post enc Try.prog Try.f5 false true false false) := by
  refine returnsInHanded_of_change (C := Try.checked) own started (by kernel_rfl) Try.func5
    (ChangeSpec.witness6 (enc := enc) (C := Try.checked) false ⟨#[], #[.int .u8 0, .int .u8 0, .int .u8 0, .bool false], []⟩ 8 (by kernel_rfl) (by kernel_rfl) (by kernel_rfl) (by kernel_rfl)) ?_
  intro W base args ds gs before hval0 hW hcnd _
  have hval : ∀ (j : Nat) t v, Try.f5.params[j]? = some t → args[j]? = some v → Value.okWide Try.prog W .any base t v := hval0
  have hW' := hW
  obtain ⟨p, q, hA0, hV, rfl, hfz, hnd⟩ := hW
  have hA : DataW.TrodAll enc Try.prog W 0 (fun _ => true) true Try.f5.params.toList args.toList ds p := hA0
  rw [Try.params5] at hA hval
  obtain ⟨v0, vs0, d0, ds0, p0, q0, hargs, rfl, rfl, h0, r0⟩ := trodAll_cons hA
  obtain ⟨v1, vs1, d1, ds1, p1, q1, rfl, rfl, rfl, h1, r1⟩ := trodAll_cons r0
  obtain ⟨v2, vs2, d2, ds2, p2, q2, rfl, rfl, rfl, h2, r2⟩ := trodAll_cons r1
  obtain ⟨v3, vs3, d3, ds3, p3, q3, rfl, rfl, rfl, h3, r3⟩ := trodAll_cons r2
  obtain ⟨rfl, rfl, rfl⟩ := trodAll_nil r3
  obtain rfl : args = #[v0, v1, v2, v3] := by cases args; simp_all
  obtain ⟨rfl, rfl⟩ := trodVars_none hV
  obtain ⟨a0, rfl, rfl, rfl, w0⟩ := open_int Try.underlying5 (hval 0 5 v0 rfl rfl) h0
  obtain ⟨n0, rfl, b0⟩ := wf_u8 w0
  obtain ⟨a1, rfl, rfl, rfl, w1⟩ := open_int Try.underlying5 (hval 1 5 v1 rfl rfl) h1
  obtain ⟨n1, rfl, b1⟩ := wf_u8 w1
  obtain ⟨a2, rfl, rfl, rfl, w2⟩ := open_int Try.underlying5 (hval 2 5 v2 rfl rfl) h2
  obtain ⟨n2, rfl, b2⟩ := wf_u8 w2
  obtain ⟨a3, rfl, rfl, rfl⟩ := open_bool Try.underlying4 (hval 3 4 v3 rfl rfl) h3
  clear hA0 hval0
  refine (walk n0 b0 n1 b1 n2 b2 a3 W ).mono fun e W' ⟨he, bel⟩ => ?_
  subst he
  exact ⟨_, rfl, _, _, _, [], _, [], hW', trodAll_mk1 (shut_bool Try.underlying4 _), (trodAll_cons_mk (shut_int Try.underlying5 w0) (trodAll_cons_mk (shut_int Try.underlying5 w1) (trodAll_cons_mk (shut_int Try.underlying5 w2) (trodAll_cons_mk (shut_bool Try.underlying4 _) trodAll_mk0)))), rfl, bel.frame _, fun h => by cases h⟩

theorem over : Rows.tableBytesRow.holds Try.pinned (OpenSpec.ofChange Rows.tableBytesSpec) :=
  OpenClaim.holds_of_wide 5 Try.f5 rfl rfl rfl rfl rfl rfl rfl ⟨rfl, rfl, rfl, rfl, rfl⟩ rfl rfl rfl rfl rfl (by kernel_rfl) Try.func5 (by kernel_rfl)
    (of_decide_eq_true (by kernel_rfl)) (by unfold Func.isWrapper; first | (rw [if_pos (by decide +kernel)]; kernel_rfl) | (rw [if_neg (by decide +kernel)]; exact ⟨rfl, rfl⟩))
    (fun os started H enc _ => lifted os started H enc)

/-- THE STATEMENT -/
theorem proved : Rows.TableBytesSaid := over
#print axioms proved
end Go.Proofs.Ytepcijkmecoofaa.tableBytes
