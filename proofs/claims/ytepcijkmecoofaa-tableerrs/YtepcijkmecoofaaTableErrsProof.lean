/-
  PROVED: for every form, list of frames l and page the law TableErrs returns true: Make refuses frames that aren't Need, forms that are none and frames that aren't there, and tables without frames answer ErrArg; and l reads as it did.
-/
import Derived.Test.YtepcijkmecoofaaRows
import Derived.Test.YtepcijkmecoofaaWM
import Derived.Test.YtepcijkmecoofaaWC
import Derived.Test.YtepcijkmecoofaaLT
import Derived.Test.YtepcijkmecoofaaEM
import Derived.Test.YtepcijkmecoofaaEC
import Derived.Test.YtepcijkmecoofaaEP
import Derived.Test.YtepcijkmecoofaaEU
import Derived.Test.YtepcijkmecoofaaWB
import Derived.Test.YtepcijkmecoofaaSM
import Derived.Test.YtepcijkmecoofaaSC
import Derived.Test.YtepcijkmecoofaaSD
import Derived.Test.YtepcijkmecoofaaED
import Derived.Test.YtepcijkmecoofaaEB
import Derived.Test.YtepcijkmecoofaaEW
import Derived.Test.YtepcijkmecoofaaVA
import Derived.Test.YtepcijkmecoofaaEK
import Derived.Test.YtepcijkmecoofaaEN
import Derived.Test.YtepcijkmecoofaaEO
import Derived.Test.YtepcijkmecoofaaEQ
import Derived.Test.YtepcijkmecoofaaER
import Derived.Test.YtepcijkmecoofaaEA
import Derived.WalkKit
import Derived.ProofKit
import Derived.OpenShut
import Derived.ShutString
import Derived.ChangeOld
import Derived.Below
import Derived.Deep.CutBlock
import Derived.Deep.RegionHeld3
import Derived.Deep.Slices
import Derived.Deep.Fields
namespace Go.Proofs.Ytepcijkmecoofaa.tableErrs
open Go.Proofs.Ytepcijkmecoofaa Go.Proofs.Ytepcijkmecoofaa.WM
open Go.ChangeShapes Go.WideShapes Go.ChangeAt Go.RowKit
open Go.ChangeMaps (open_string shut_string)
set_option linter.unusedVariables false
set_option maxRecDepth 100000

theorem own : ownKnob Try.prog.godebug = none := by kernel_rfl
theorem laidOut : laidOutB Try.prog = true := by kernel_rfl
theorem wf_i64 {a : Int} (h : (Lit.int .i64 a).wf = true) : -9223372036854775808 ≤ a ∧ a ≤ 9223372036854775807 := by
  simp only [Lit.wf, IntKind.min, IntKind.max, IntKind.signed, IntKind.bits, Bool.and_eq_true, decide_eq_true_eq] at h
  simp at h
  omega
/-- What the walk is told of a slice of integers that came in: it is nil, or it leads to a row of as many cells as its capacity says. -/
def IsRow (k : IntKind) (w : World) (a : Option Addr) (len cap : Nat) (zs : List Int) : Prop :=
  (a = none ∧ len = 0 ∧ cap = 0 ∧ zs = []) ∨
  ∃ x, a = some x ∧ len ≤ cap ∧ cap ≤ maxLen ∧ zs.length = cap ∧ (∀ i, i < zs.length → w.cell? (x.add i) = some (.int k (zs.getD i 0))) ∧ ∀ n ∈ zs, (Lit.int k n).wf = true
theorem IsRow.ints {w : World} {a : Option Addr} {len cap : Nat} {zs : List Int} (h : IsRow .i64 w a len cap zs) : len ≤ maxLen ∧ len ≤ cap ∧ ∃ f : Nat → Int, IntsAt w a len f ∧ (∀ i, -9223372036854775808 ≤ f i ∧ f i ≤ 9223372036854775807) := by
  rcases h with ⟨rfl, rfl, rfl, rfl⟩ | ⟨y, rfl, hl, hm, hz, hcell, hwz⟩
  · exact ⟨by omega, by omega, fun _ => 0, fun i hi => by omega, fun _ => (by decide : (-9223372036854775808 : Int) ≤ 0 ∧ (0 : Int) ≤ 9223372036854775807)⟩
  · have key : ∀ i, i < len → -9223372036854775808 ≤ zs.getD i 0 ∧ zs.getD i 0 ≤ 9223372036854775807 := fun i hi =>
      of_i64 (hwz (zs.getD i 0) (by simp [List.getD_eq_getElem?_getD, List.getElem?_eq_getElem (show i < zs.length by omega)]))
    refine ⟨by omega, hl, fun i => if i < len then zs.getD i 0 else 0, fun i hi => ?_, fun i => ?_⟩
    · obtain ⟨b, off, spot⟩ := y
      have hc := hcell i (by omega)
      have hspot : spot = none := by simpa [Addr.add] using World.cell?_spot (hcell 0 (by omega))
      subst hspot
      have hc2 : w.cell? ⟨b, off + i, none⟩ = some (.int .i64 (if i < len then zs.getD i 0 else 0)) := by
        rw [if_pos hi, ← hc]
        unfold Addr.add
        split <;> simp_all
      exact ⟨b, off, rfl, World.block_lt_of_cell? _ _ hc2, hc2⟩
    · show -9223372036854775808 ≤ (if i < len then zs.getD i 0 else 0) ∧ (if i < len then zs.getD i 0 else 0) ≤ 9223372036854775807
      split
      · exact key i (by assumption)
      · omega

/-! ### the walk -/
set_option maxRecDepth 100000
open EM
theorem ok_step_t {c : Bool} {l : Nat → Int} {n k : Nat} (h : okL c l n k = true) (h1 : 0 ≤ l k) (h2 : l k < n) : okL c l n (k + 1) = true := by simp [okL, h, h1, h2]
theorem ok_step_f {c : Bool} {l : Nat → Int} {n k : Nat} (h : okL c l n k = false ∨ ¬ 0 ≤ l k ∨ ¬ l k < n) : okL c l n (k + 1) = false := by
  simp only [okL]
  rcases h with h | h | h
  · rw [h]; rfl
  · rw [decide_eq_false h]; simp
  · rw [decide_eq_false h]; simp
theorem ok_step_g {c : Bool} {l : Nat → Int} {n k : Nat} (_ : okL c l n k = true) (h : ¬ 0 ≤ l k ∨ ¬ l k < n) : okL c l n (k + 1) = false := ok_step_f (.inr h)
set_option maxHeartbeats 4000000 in
theorem errs (form : Int) (a : Option Addr) (len cap : Nat) (l : Nat → Int) (page : Int) (w : World) (hl : IntsAt w a len l) (hcap : len ≤ cap) (h10 : len ≤ 10) (c : Bool)
    (hc : (len ≠ 5 ∧ c = false) ∨ (len = 5 ∧ form = 1 ∧ c = true) ∨ (len = 5 ∧ form ≠ 1 ∧ form = 2 ∧ c = true) ∨ (len = 5 ∧ form ≠ 1 ∧ form ≠ 2 ∧ c = false)) :
    Calls Try.prog 6 #[.int .i64 form, .slice a len cap, .int .i64 page] w fun e w' => e = .returned (.bool true) ∧ Below w.heap.size w w' := by
  have HL := Lib.hid hl
  have t10 : ¬ (10 : Int) < (len : Int) := by omega
  have hcc : c = true ↔ len = 5 ∧ (form = 1 ∨ form = 2) := by
    rcases hc with ⟨h1, rfl⟩ | ⟨h1, h2, rfl⟩ | ⟨h1, h2, h3, rfl⟩ | ⟨h1, h2, h3, rfl⟩ <;> simp [*]
  have HCC := Lib.hid hcc
  have tests : (((len : Int) == 5) = false ∧ c = false) ∨ (((len : Int) == 5) = true ∧ (form == 1) = true ∧ c = true) ∨ (((len : Int) == 5) = true ∧ (form == 1) = false ∧ (form == 2) = true ∧ c = true) ∨ (((len : Int) == 5) = true ∧ (form == 1) = false ∧ (form == 2) = false ∧ c = false) := by
    rcases hc with ⟨h1, rfl⟩ | ⟨h1, h2, rfl⟩ | ⟨h1, h2, h3, rfl⟩ | ⟨h1, h2, h3, rfl⟩
    · left; exact ⟨by simp; omega, rfl⟩
    · right; left; exact ⟨by simp; omega, by simpa using h2, rfl⟩
    · right; right; left; exact ⟨by simp; omega, by simpa using h2, by simpa using h3, rfl⟩
    · right; right; right; exact ⟨by simp; omega, by simpa using h2, by simpa using h3, rfl⟩
  clear hl hc hcc
  go_enter Try.func6, Try.ntmps6
  go_wp2_with fail
  refine (awake6_in _).mono ?_
  rintro e w1 ⟨rfl, b1⟩
  go_wp2_with fail
  refine (new_in 10 (by omega) _).mono ?_
  rintro e w2 ⟨rfl, h2, g2⟩
  rw [show clampN 10 = 10 by unfold clampN; omega] at h2
  have b2 := below_up b1 (below_of_grown g2)
  have b1s := b1.size
  obtain ⟨s, hs⟩ : ∃ s, w1.heap.size + 1 = s := ⟨_, rfl⟩
  obtain ⟨h, hh⟩ : ∃ h, w1.heap.size = h := ⟨_, rfl⟩
  rw [hs, hh] at h2
  have hmk := make_any h2 form a len cap l ((HL.out).below b2) hcap (fun h0 b off e => by
    subst e
    obtain ⟨b', off', e, hbl, _⟩ := (HL.out) 0 h0
    injection e with e
    injection e with e1 e2
    omega) c (HCC.out)
  rw [hs]
  have HMK := Lib.hid hmk
  have hhl : h < w2.heap.size := h2.row.lt
  clear hmk h2 g2 hs b1 HCC
  have hres : ∃ r, okL c l 10 len = r := ⟨_, rfl⟩
  obtain ⟨r, hr⟩ := hres
  rw [hr] at HMK
  have HR := Lib.hid hr
  clear hr
  obtain ⟨er, her⟩ : ∃ er : Int, (if r = true then 0 else 1) = er := ⟨_, rfl⟩
  rw [her] at HMK
  have HER := Lib.hid her
  clear her
  go_wp2_with fail
  refine (HMK.out).mono ?_
  rintro e w3 ⟨fv, A, L, C, F', rfl, hL0, h3, g3⟩
  have b3 := b2.grown g3 b2.size (fun j hj => by injection hj with hj; omega)
  have b4 := below_more b3 (.cells #[.int .i64 fv, .slice A L C] 27)
  have l4 := l2_mk w3 (.int .i64 fv) (.slice A L C) 27
  have HS4 := Lib.hid (h3.below (below_new w3 (.cells #[.int .i64 fv, .slice A L C] 27)))
  have HL4 := Lib.hid ((HL.out).below b4)
  clear h3 g3 b3 b2 HMK hhl b1s hh
  have HB4 := Lib.hid b4
  have HL4' := Lib.hid l4
  have HL0 := Lib.hid hL0
  clear b4 l4 hL0 HL
  rcases tests with ⟨t1, rfl⟩ | ⟨t1, t2, rfl⟩ | ⟨t1, t2, t3, rfl⟩ | ⟨t1, t2, t3, rfl⟩
  all_goals as_aux_lemma =>
    go_wp2_with fail
    generalize w3.alloc (.cells #[.int .i64 fv, .slice A L C] 27) = V at *
    go_loop [10, 11] (fun b i => ∃ k : Nat, k ≤ len ∧ i = .int .i64 k ∧ b = .bool (okL _ l 10 k)) (fun _ i => len - (intOf i).toNat)
    case atStart => exact ⟨0, by omega, rfl, rfl⟩
    case round =>
      obtain ⟨k, hk, rfl, rfl⟩ := hrel
      by_cases hlt : k < len
      · obtain ⟨b, off, rfl, hbl, hcell⟩ := (HL4.out) k hlt
        cases hok : okL _ l 10 k
        · have HK := Lib.hid (ok_step_f (.inl hok))
          clear hok
          go_wp2
          go_round
          case rel => exact ⟨k + 1, by omega, by go_num, by rw [HK.out]⟩
          case measure => simp [intOf]; omega
        · by_cases x0 : 0 ≤ l k
          · by_cases x1 : l k < 10
            · have HK := Lib.hid (ok_step_t hok x0 x1)
              clear hok
              generalize l k = x at *
              go_wp2
              go_round
              case rel => exact ⟨k + 1, by omega, by go_num, by rw [HK.out]⟩
              case measure => simp [intOf]; omega
            · have HK := Lib.hid (ok_step_g hok (.inr x1))
              clear hok
              generalize l k = x at *
              go_wp2
              go_round
              case rel => exact ⟨k + 1, by omega, by go_num, by rw [HK.out]⟩
              case measure => simp [intOf]; omega
          · have HK := Lib.hid (ok_step_g hok (.inl x0))
            clear hok
            generalize l k = x at *
            go_wp2
            go_round
            case rel => exact ⟨k + 1, by omega, by go_num, by rw [HK.out]⟩
            case measure => simp [intOf]; omega
      · obtain rfl : k = len := by omega
        rw [HR.out]
        have hz := fun W (hb : Below V.heap.size V W) => (HS4.out).below hb
        have HZ := Lib.hid hz
        obtain ⟨m0, m1, ml, mf⟩ := HL4'.out
        have bz := below_new V (.cells #[.int .i64 0, .slice none 0 0] 27)
        have lz := l2_mk V (.int .i64 0) (.slice none 0 0) 27
        have HWK := Lib.hid (fun W => walk_err (w := W) 0 none 0 0 (.pointer (some ⟨s, 0, none⟩)) page (fun W' _ => below_none 0 none 0 (.pointer (some ⟨s, 0, none⟩)) page))
        have HAL := Lib.hid (fun W => all_none (w := W) 0 none 0 (.pointer (some ⟨s, 0, none⟩)))
        have HMP := Lib.hid (fun W (hb : Below V.heap.size V W) => map_page ((HZ.out) W hb) 0 none 0 0 page 1 true ⟨by omega, by omega⟩ (fun W' _ => below_none 0 none 0 (.pointer (some ⟨s, 0, none⟩)) page))
        have HUM := Lib.hid (fun W => unmap_page (w := W) 0 none 0 0 (.pointer (some ⟨s, 0, none⟩)) page (fun W' _ => below_none 0 none 0 (.pointer (some ⟨s, 0, none⟩)) page))
        have her := HER.out
        have hl0 := HL0.out
        clear hz HZ HER HL0 HS4 HL4 HL4'
        cases r
        · obtain rfl : (1 : Int) = er := her
          obtain rfl : L = 0 := hl0 rfl
          go_wp2_with fail
          refine ((HWK.out) _).mono ?_
          rintro e w5 ⟨rfl, b5⟩
          have bz5 := below_more (below_up bz b5) (.cells #[.bool false, .int .i64 0, .bool false] 31)
          have lz5 := (lz.later b5).later (below_new w5 (.cells #[.bool false, .int .i64 0, .bool false] 31))
          obtain ⟨n0, n1, nl, nf⟩ := lz5
          clear b5 bz lz m0 m1 ml mf
          go_wp2_with fail
          refine ((HAL.out) _).mono ?_
          rintro e w6 ⟨rfl, b6⟩
          have bz6 := below_up bz5 b6
          have lz6 := (L2.mk n0 n1 nl nf).later b6
          clear n0 n1 nl nf
          obtain ⟨n0, n1, nl, nf⟩ := lz6
          have HMP' := Lib.hid ((HMP.out) w6 bz6)
          clear b6 bz5
          go_wp2_with fail
          refine (HMP'.out).mono ?_
          rintro e w7 ⟨rfl, b7⟩
          have bz7 := below_up bz6 b7
          have lz7 := (L2.mk n0 n1 nl nf).later b7
          clear n0 n1 nl nf
          obtain ⟨n0, n1, nl, nf⟩ := lz7
          clear b7 bz6 HMP'
          go_wp2_with fail
          refine ((HUM.out) _).mono ?_
          rintro e w8 ⟨rfl, b8⟩
          have bz8 := below_up bz7 b8
          clear b8 bz7
          go_wp2
          go_ret
          exact ⟨rfl, below_up HB4.out bz8⟩
        · obtain rfl : (0 : Int) = er := her
          clear hl0
          go_wp2_with fail
          refine ((HWK.out) _).mono ?_
          rintro e w5 ⟨rfl, b5⟩
          have bz5 := below_more (below_up bz b5) (.cells #[.bool false, .int .i64 0, .bool false] 31)
          have lz5 := (lz.later b5).later (below_new w5 (.cells #[.bool false, .int .i64 0, .bool false] 31))
          obtain ⟨n0, n1, nl, nf⟩ := lz5
          clear b5 bz lz m0 m1 ml mf
          go_wp2_with fail
          refine ((HAL.out) _).mono ?_
          rintro e w6 ⟨rfl, b6⟩
          have bz6 := below_up bz5 b6
          have lz6 := (L2.mk n0 n1 nl nf).later b6
          clear n0 n1 nl nf
          obtain ⟨n0, n1, nl, nf⟩ := lz6
          have HMP' := Lib.hid ((HMP.out) w6 bz6)
          clear b6 bz5
          go_wp2_with fail
          refine (HMP'.out).mono ?_
          rintro e w7 ⟨rfl, b7⟩
          have bz7 := below_up bz6 b7
          have lz7 := (L2.mk n0 n1 nl nf).later b7
          clear n0 n1 nl nf
          obtain ⟨n0, n1, nl, nf⟩ := lz7
          clear b7 bz6 HMP'
          go_wp2_with fail
          refine ((HUM.out) _).mono ?_
          rintro e w8 ⟨rfl, b8⟩
          have bz8 := below_up bz7 b8
          clear b8 bz7
          go_wp2
          go_ret
          exact ⟨rfl, below_up HB4.out bz8⟩
theorem walk (p_form : Int) (hp_form : -9223372036854775808 ≤ p_form ∧ p_form ≤ 9223372036854775807) (p_l : Option Addr) (p_l_len p_l_cap : Nat) (p_l_z : List Int) (p_page : Int) (hp_page : -9223372036854775808 ≤ p_page ∧ p_page ≤ 9223372036854775807) (w : World) (hp_l : IsRow .i64 w p_l p_l_len p_l_cap p_l_z) :
    Calls Try.prog 6 #[.int .i64 p_form, .slice p_l p_l_len p_l_cap, .int .i64 p_page] w fun e w' => e = .returned (.bool true) ∧ Below w.heap.size w w' := by
  obtain ⟨hm, hcap, l, hl, hb⟩ := IsRow.ints hp_l
  clear hp_l
  unfold maxLen at hm
  by_cases h10 : p_l_len ≤ 10
  · by_cases h5 : p_l_len = 5
    · by_cases f1 : p_form = 1
      · exact errs p_form p_l p_l_len p_l_cap l p_page w hl hcap h10 true (.inr (.inl ⟨h5, f1, rfl⟩))
      · by_cases f2 : p_form = 2
        · exact errs p_form p_l p_l_len p_l_cap l p_page w hl hcap h10 true (.inr (.inr (.inl ⟨h5, f1, f2, rfl⟩)))
        · exact errs p_form p_l p_l_len p_l_cap l p_page w hl hcap h10 false (.inr (.inr (.inr ⟨h5, f1, f2, rfl⟩)))
    · exact errs p_form p_l p_l_len p_l_cap l p_page w hl hcap h10 false (.inl ⟨h5, rfl⟩)
  · have t10 : (10 : Int) < (p_l_len : Int) := by omega
    clear hl hb
    go_enter Try.func6, Try.ntmps6
    go_wp2_with fail
    refine (awake6_in _).mono ?_
    rintro e w1 ⟨rfl, b1⟩
    go_wp2_with fail
    refine (awake6_in _).mono ?_
    rintro e w2 ⟨rfl, b2⟩
    go_wp2
    go_ret
    exact ⟨rfl, below_up b1 b2⟩

/-! ### the row's step -/
set_option maxRecDepth 100000 in
theorem lifted (os : Os) (started : os.Started) (H : Type) (enc : TypeId × Value → H) :
    ReturnsInHanded {} Try.checked os 6 .any (Rows.tableErrsSpec.pre6 enc Try.prog Try.f6 Rows.tableErrsRow.domain false) (Rows.tableErrsSpec.post enc Try.prog Try.f6 false true false false) := by
  refine returnsInHanded_of_change (C := Try.checked) own started (by kernel_rfl) Try.func6
    (ChangeSpec.witness6 (enc := enc) (C := Try.checked) false ⟨#[], #[.int .i64 0, .slice none 0 0, .int .i64 0], []⟩ 8 (by kernel_rfl) (by kernel_rfl) (by kernel_rfl) (by kernel_rfl)) ?_
  intro W base args ds gs before hval0 hW hcnd _
  have hval : ∀ (j : Nat) t v, Try.f6.params[j]? = some t → args[j]? = some v → Value.okWide Try.prog W .any base t v := hval0
  have hW' := hW
  obtain ⟨p, q, hA0, hV, rfl, hfz, hnd⟩ := hW
  have hA : DataW.TrodAll enc Try.prog W 0 (fun _ => true) true Try.f6.params.toList args.toList ds p := hA0
  rw [Try.params6] at hA hval
  obtain ⟨v0, vs0, d0, ds0, p0, q0, hargs, rfl, rfl, h0, r0⟩ := trodAll_cons hA
  obtain ⟨v1, vs1, d1, ds1, p1, q1, rfl, rfl, rfl, h1, r1⟩ := trodAll_cons r0
  obtain ⟨v2, vs2, d2, ds2, p2, q2, rfl, rfl, rfl, h2, r2⟩ := trodAll_cons r1
  obtain ⟨rfl, rfl, rfl⟩ := trodAll_nil r2
  obtain rfl : args = #[v0, v1, v2] := by cases args; simp_all
  obtain ⟨rfl, rfl⟩ := trodVars_none hV
  obtain ⟨a0, rfl, rfl, rfl, w0⟩ := open_int Try.underlying3 (hval 0 3 v0 rfl rfl) h0
  have b0 := wf_i64 w0
  obtain ⟨a1, len1, cap1, rfl⟩ := okWide_slice Try.underlying25 (hval 1 25 v1 rfl rfl)
  have k1 := h1
  have lt1 : ∀ x ∈ p1, x.block < W.heap.size := by obtain ⟨m, hm⟩ := k1; exact DataW.trod_lt m _ _ _ hm
  obtain ⟨z1, w1⟩ : ∃ zs, IsRow .i64 W a1 len1 cap1 zs := by
    obtain ⟨fuel, hf⟩ := h1
    rcases open_ints Try.underlying25 Try.underlying3 (by kernel_rfl) hf with ⟨hcs, _⟩ | ⟨x, l, c, zs, hcs, _, hl, hm, hz, _, hcell, hwz⟩
    · simp [Value.cells] at hcs
      obtain ⟨rfl, rfl, rfl⟩ := hcs
      exact ⟨[], .inl ⟨rfl, rfl, rfl, rfl⟩⟩
    · simp [Value.cells] at hcs
      obtain ⟨rfl, rfl, rfl⟩ := hcs
      exact ⟨zs, .inr ⟨_, rfl, hl, hm, by simpa using hz, hcell, hwz⟩⟩
  obtain ⟨a2, rfl, rfl, rfl, w2⟩ := open_int Try.underlying3 (hval 2 3 v2 rfl rfl) h2
  have b2 := wf_i64 w2
  clear hA0 hval0
  refine (walk a0 b0 a1 len1 cap1 z1 a2 b2 W w1).mono fun e W' ⟨he, bel⟩ => ?_
  subst he
  exact ⟨_, rfl, _, _, _, [], _, [], hW', trodAll_mk1 (shut_bool Try.underlying4 _), (trodAll_cons_mk (shut_int Try.underlying3 w0) (trodAll_cons_mk (Below.trod laidOut (by kernel_rfl) (of_decide_eq_true (by kernel_rfl)) k1 bel lt1) (trodAll_cons_mk (shut_int Try.underlying3 w2) trodAll_mk0))), rfl, bel.frame _, fun h => by cases h⟩

theorem over : Rows.tableErrsRow.holds Try.pinned (OpenSpec.ofChange Rows.tableErrsSpec) :=
  OpenClaim.holds_of_wide 6 Try.f6 rfl rfl rfl rfl rfl rfl rfl ⟨rfl, rfl, rfl, rfl, rfl⟩ rfl rfl rfl rfl rfl (by kernel_rfl) Try.func6 (by kernel_rfl)
    (of_decide_eq_true (by kernel_rfl)) (by unfold Func.isWrapper; first | (rw [if_pos (by decide +kernel)]; kernel_rfl) | (rw [if_neg (by decide +kernel)]; exact ⟨rfl, rfl⟩))
    (fun os started H enc _ => lifted os started H enc)

/-- THE STATEMENT -/
theorem proved : Rows.TableErrsSaid := over
#print axioms proved
end Go.Proofs.Ytepcijkmecoofaa.tableErrs
