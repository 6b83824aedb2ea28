/-
  PROVED: for every n and frame the law OwnerTwins returns true: another book like it goes its own way; how many rows there are. No condition.
-/
import Derived.Test.YtjidhmdphlmldaaRows
import Derived.Test.YtjidhmdphlmldaaLT
import Derived.Test.YtjidhmdphlmldaaOA
import Derived.Test.YtjidhmdphlmldaaOB
import Derived.Test.YtjidhmdphlmldaaOC
import Derived.Test.YtjidhmdphlmldaaOD
import Derived.Test.YtjidhmdphlmldaaOE
import Derived.Test.YtjidhmdphlmldaaOF
import Derived.Test.YtjidhmdphlmldaaVA
import Derived.Test.YtjidhmdphlmldaaOG
import Derived.Test.YtjidhmdphlmldaaOH
import Derived.WalkKit
import Derived.ProofKit
import Derived.OpenShut
import Derived.ShutString
import Derived.ChangeOld
import Derived.Below
import Derived.Deep.CutBlock
import Derived.Deep.RegionHeld3
import Derived.Deep.Slices
import Derived.Deep.Fields
namespace Go.Proofs.Ytjidhmdphlmldaa.ownerTwins
open Go.Proofs.Ytjidhmdphlmldaa
open Go.ChangeShapes Go.WideShapes Go.ChangeAt Go.RowKit
open Go.ChangeMaps (open_string shut_string)
set_option linter.unusedVariables false
set_option maxRecDepth 100000

theorem own : ownKnob Try.prog.godebug = none := by kernel_rfl
theorem laidOut : laidOutB Try.prog = true := by kernel_rfl
theorem wf_i64 {a : Int} (h : (Lit.int .i64 a).wf = true) : -9223372036854775808 ≤ a ∧ a ≤ 9223372036854775807 := by
  simp only [Lit.wf, IntKind.min, IntKind.max, IntKind.signed, IntKind.bits, Bool.and_eq_true, decide_eq_true_eq] at h
  simp at h
  omega
theorem wf_u8 {a : Int} (h : (Lit.int .u8 a).wf = true) : ∃ n : Nat, a = n ∧ n < 256 := by
  simp only [Lit.wf, IntKind.min, IntKind.max, IntKind.signed, IntKind.bits, Bool.and_eq_true] at h
  simp at h
  exact ⟨a.toNat, by omega, by omega⟩

/-! ### the walk -/
set_option maxRecDepth 100000
theorem cntR_none (k : Nat) (n : Int) : cntR law0 3 n k = 0 := by
  induction k with
  | zero => rfl
  | succ k ih => rw [cntR_no law0 3 n k rfl, ih]
theorem cntR_one (k f : Nat) (hf : f < k) : cntR (upd4 law0 f ⟨3, 1, 2, 0⟩) 3 1 k = 1 := by
  induction k with
  | zero => omega
  | succ k ih =>
    by_cases e : f = k
    · subst e
      rw [cntR_yes _ _ _ _ (by rw [upd4_same]; rfl), cntR_congr (M := law0) 3 1 f (fun p hp => upd4_other _ _ _ _ (by omega)), cntR_none]
    · rw [cntR_no _ _ _ _ (by rw [upd4_other _ _ _ _ (by omega)]; rfl), ih (by omega)]
theorem walk (p_n : Int) (hp_n : -9223372036854775808 ≤ p_n ∧ p_n ≤ 9223372036854775807) (p_frame : Nat) (hp_frame : p_frame < 256) (w : World)  :
    Calls Try.prog 9 #[.int .i64 p_n, .int .u8 p_frame] w fun e w' => e = .returned (.bool true) ∧ Below w.heap.size w w' := by
  obtain ⟨k, hk, hmin, hnew⟩ : ∃ k : Nat, k ≤ 512 ∧ min (max p_n 0) 512 = (k : Int) ∧ ∀ W, Calls Try.prog 21 #[.int .i64 p_n] W (Nw W k law0) :=
    ⟨clampN p_n, clampN_le p_n, by unfold clampN; omega, new_in p_n⟩
  have HN := Lib.hid hnew
  clear hnew
  have HM := Lib.hid hmin
  clear hmin
  go_enter Try.func9, Try.ntmps9
  go_wp2_with fail
  refine (awake8_in _).mono ?_
  rintro e w1 ⟨rfl, b1⟩
  go_wp2_with fail
  refine (HN.out _).mono ?_
  intro e w2 h2
  obtain ⟨B, g, cap, rfl, q2⟩ := h2.own b1
  have O2 := Lib.hid q2
  clear h2 q2 b1
  go_upto_region 4 with fail
  go_cut [6] from 15 to 83 (fun v wx => wx = w2 ∧ v = .int .i64 k)
  case first =>
    by_cases c1 : p_n < 0
    · obtain rfl : k = 0 := by have := HM.out; omega
      go_wp2
      go_meet
      exact ⟨rfl, rfl⟩
    · by_cases c2 : 512 < p_n
      · obtain rfl : k = 512 := by have := HM.out; omega
        go_wp2
        go_meet
        exact ⟨rfl, rfl⟩
      · obtain rfl : p_n = k := by have := HM.out; omega
        clear HM
        go_wp2
        go_meet
        exact ⟨rfl, rfl⟩
  case rest =>
    obtain ⟨rfl, rfl⟩ := hcut
    have HT := Lib.hid (twin_in (O2.out).bk)
    go_wp2_with fail
    refine (HT.out).mono ?_
    rintro e w3 ⟨C, h, cap3, rfl, kc, lc, lh, b3⟩
    have O3 := Lib.hid ((O2.out).below b3)
    have P3 : Hid (Own w w3 C h cap3 k law0) := Lib.hid ⟨kc, by have := (O2.out).bel.size; omega, by have := (O2.out).bel.size; omega, below_up (O2.out).bel b3⟩
    have n1 : B ≠ h := by have := (O2.out).bk.lt; omega
    have n2 : g ≠ h := by have := (O2.out).bk.row.lt; omega
    have c2 := (O3.out).bk.c
    have c3 := (P3.out).bk.c
    clear O2 HT kc b3 HM HN
    by_cases hf : p_frame < k
    · have HD := Lib.hid (donate_yes (P3.out).bk p_frame hf rfl 1 2 (by omega) (by omega) (by omega) (by omega))
      have f1 : ¬ (k : Int) ≤ (p_frame : Int) := by omega
      go_wp2_with fail
      refine (HD.out).mono ?_
      rintro e w4 ⟨rfl, h4⟩
      have O4 := Lib.hid ((O3.out).kept h4.gr n1 n2 (P3.out).lg)
      have P4 := Lib.hid ((P3.out).turn h4)
      have HG := Lib.hid (get_yes (O4.out).bk p_frame hf)
      unfold law0 R4.zero R4.agg at HG
      simp only at HG
      clear h4 O3 P3 HD c2 c3
      go_wp2_with fail
      refine (HG.out).mono ?_
      rintro e w5 ⟨rfl, b5⟩
      have b6 := below_up b5 (below_new w5 (.cells #[.int .u8 0, .int .i64 0, .int .i64 0, .int .i64 0] 53))
      have O6 := Lib.hid ((O4.out).below b6)
      have P6 := Lib.hid ((P4.out).below b6)
      obtain ⟨e0, e1, e2, e3, el, ef⟩ := l4_new w5 (.int .u8 0) (.int .i64 0) (.int .i64 0) (.int .i64 0) 53
      have hc1 := count_in (P6.out).bk 3 1
      rw [cntR_one k p_frame hf] at hc1
      have HC1 := Lib.hid hc1
      clear b5 b6 O4 P4 HG hc1
      go_wp2_with fail
      generalize w5.alloc (.cells #[.int .u8 0, .int .i64 0, .int .i64 0, .int .i64 0] 53) = w6 at *
      refine (HC1.out).mono ?_
      rintro e w7 ⟨rfl, b7⟩
      have O7 := Lib.hid ((O6.out).below b7)
      have hc2 := count_in (O7.out).bk 0 0
      rw [cntR_zero] at hc2
      have HC2 := Lib.hid hc2
      clear hc2 b7 HC1 O6
      go_wp2_with fail
      refine (HC2.out).mono ?_
      rintro e w8 ⟨rfl, b8⟩
      have O8 := Lib.hid ((O7.out).below b8)
      clear b8 O7 HC2
      go_wp2
      go_ret
      exact ⟨rfl, (O8.out).bel⟩
    · have f1 : (k : Int) ≤ (p_frame : Int) := by omega
      have HD := Lib.hid (donate_no (gf_out (P3.out).bk (p_frame : Int) (by omega)) 1 2)
      go_wp2_with fail
      refine (HD.out).mono ?_
      rintro e w4 ⟨rfl, h4⟩
      have O4 := Lib.hid ((O3.out).below h4)
      have HG := Lib.hid (get_no (O4.out).bk (p_frame : Int) (by omega))
      unfold R4.zero R4.agg at HG
      simp only at HG
      clear h4 O3 P3 HD c2 c3
      go_wp2_with fail
      refine (HG.out).mono ?_
      rintro e w5 ⟨rfl, b5⟩
      have b6 := below_up b5 (below_new w5 (.cells #[.int .u8 0, .int .i64 0, .int .i64 0, .int .i64 0] 53))
      have O6 := Lib.hid ((O4.out).below b6)
      obtain ⟨e0, e1, e2, e3, el, ef⟩ := l4_new w5 (.int .u8 0) (.int .i64 0) (.int .i64 0) (.int .i64 0) 53
      clear b5 b6 O4 HG
      go_wp2
      go_ret
      exact ⟨rfl, (O6.out).bel⟩

/-! ### the row's step -/
set_option maxRecDepth 100000 in
theorem lifted (os : Os) (started : os.Started) (H : Type) (enc : TypeId × Value → H) :
    ReturnsInHanded {} Try.checked os 9 .any (Rows.ownerTwinsSpec.pre6 enc Try.prog Try.f9 Rows.ownerTwinsRow.domain false) (Rows.ownerTwinsSpec.post enc Try.prog Try.f9 false true false false) := by
  refine returnsInHanded_of_change (C := Try.checked) own started (by kernel_rfl) Try.func9
    (ChangeSpec.witness6 (enc := enc) (C := Try.checked) false ⟨#[], #[.int .i64 0, .int .u8 0], []⟩ 8 (by kernel_rfl) (by kernel_rfl) (by kernel_rfl) (by kernel_rfl)) ?_
  intro W base args ds gs before hval0 hW hcnd _
  have hval : ∀ (j : Nat) t v, Try.f9.params[j]? = some t → args[j]? = some v → Value.okWide Try.prog W .any base t v := hval0
  have hW' := hW
  obtain ⟨p, q, hA0, hV, rfl, hfz, hnd⟩ := hW
  have hA : DataW.TrodAll enc Try.prog W 0 (fun _ => true) true Try.f9.params.toList args.toList ds p := hA0
  rw [Try.params9] at hA hval
  obtain ⟨v0, vs0, d0, ds0, p0, q0, hargs, rfl, rfl, h0, r0⟩ := trodAll_cons hA
  obtain ⟨v1, vs1, d1, ds1, p1, q1, rfl, rfl, rfl, h1, r1⟩ := trodAll_cons r0
  obtain ⟨rfl, rfl, rfl⟩ := trodAll_nil r1
  obtain rfl : args = #[v0, v1] := by cases args; simp_all
  obtain ⟨rfl, rfl⟩ := trodVars_none hV
  obtain ⟨a0, rfl, rfl, rfl, w0⟩ := open_int Try.underlying3 (hval 0 3 v0 rfl rfl) h0
  have b0 := wf_i64 w0
  obtain ⟨a1, rfl, rfl, rfl, w1⟩ := open_int Try.underlying5 (hval 1 5 v1 rfl rfl) h1
  obtain ⟨n1, rfl, b1⟩ := wf_u8 w1
  clear hA0 hval0
  refine (walk a0 b0 n1 b1 W ).mono fun e W' ⟨he, bel⟩ => ?_
  subst he
  exact ⟨_, rfl, _, _, _, [], _, [], hW', trodAll_mk1 (shut_bool Try.underlying4 _), (trodAll_cons_mk (shut_int Try.underlying3 w0) (trodAll_cons_mk (shut_int Try.underlying5 w1) trodAll_mk0)), rfl, bel.frame _, fun h => by cases h⟩

theorem over : Rows.ownerTwinsRow.holds Try.pinned (OpenSpec.ofChange Rows.ownerTwinsSpec) :=
  OpenClaim.holds_of_wide 9 Try.f9 rfl rfl rfl rfl rfl rfl rfl ⟨rfl, rfl, rfl, rfl, rfl⟩ rfl rfl rfl rfl rfl (by kernel_rfl) Try.func9 (by kernel_rfl)
    (of_decide_eq_true (by kernel_rfl)) (by unfold Func.isWrapper; first | (rw [if_pos (by decide +kernel)]; kernel_rfl) | (rw [if_neg (by decide +kernel)]; exact ⟨rfl, rfl⟩))
    (fun os started H enc _ => lifted os started H enc)

/-- THE STATEMENT -/
theorem proved : Rows.OwnerTwinsSaid := over
#print axioms proved
end Go.Proofs.Ytjidhmdphlmldaa.ownerTwins
