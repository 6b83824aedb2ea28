/-
  PROVED: for every frame, n and page the law OwnerNil returns true: a nil book has nothing. No condition.
-/
import Derived.Test.YtjidhmdphlmldaaRows
import Derived.Test.YtjidhmdphlmldaaLT
import Derived.Test.YtjidhmdphlmldaaOA
import Derived.Test.YtjidhmdphlmldaaOB
import Derived.Test.YtjidhmdphlmldaaOC
import Derived.Test.YtjidhmdphlmldaaOD
import Derived.Test.YtjidhmdphlmldaaOE
import Derived.Test.YtjidhmdphlmldaaOF
import Derived.Test.YtjidhmdphlmldaaVA
import Derived.Test.YtjidhmdphlmldaaOG
import Derived.Test.YtjidhmdphlmldaaOH
import Derived.WalkKit
import Derived.ProofKit
import Derived.OpenShut
import Derived.ShutString
import Derived.ChangeOld
import Derived.Below
import Derived.Deep.CutBlock
import Derived.Deep.RegionHeld3
import Derived.Deep.Slices
import Derived.Deep.Fields
namespace Go.Proofs.Ytjidhmdphlmldaa.ownerNil
open Go.Proofs.Ytjidhmdphlmldaa
open Go.ChangeShapes Go.WideShapes Go.ChangeAt Go.RowKit
open Go.ChangeMaps (open_string shut_string)
set_option linter.unusedVariables false
set_option maxRecDepth 100000

theorem own : ownKnob Try.prog.godebug = none := by kernel_rfl
theorem laidOut : laidOutB Try.prog = true := by kernel_rfl
theorem wf_i64 {a : Int} (h : (Lit.int .i64 a).wf = true) : -9223372036854775808 ≤ a ∧ a ≤ 9223372036854775807 := by
  simp only [Lit.wf, IntKind.min, IntKind.max, IntKind.signed, IntKind.bits, Bool.and_eq_true, decide_eq_true_eq] at h
  simp at h
  omega

/-! ### the walk -/
set_option maxRecDepth 100000
theorem walk (p_frame : Int) (hp_frame : -9223372036854775808 ≤ p_frame ∧ p_frame ≤ 9223372036854775807) (p_n : Int) (hp_n : -9223372036854775808 ≤ p_n ∧ p_n ≤ 9223372036854775807) (p_page : Int) (hp_page : -9223372036854775808 ≤ p_page ∧ p_page ≤ 9223372036854775807) (w : World)  :
    Calls Try.prog 10 #[.int .i64 p_frame, .int .i64 p_n, .int .i64 p_page] w fun e w' => e = .returned (.bool true) ∧ Below w.heap.size w w' := by
  have HG := Lib.hid (fun W => get_nil W p_frame)
  have G := fun W => gf_nil W p_frame
  have HD := Lib.hid (fun W => donate_no (G W) p_n p_page)
  have HK := Lib.hid (fun W => keep_no (G W) p_n)
  have HS := Lib.hid (fun W => share_err (pf_of (G W) p_n) (by omega))
  have HU := Lib.hid (fun W => unshare_err (pf_of (G W) p_n) (by omega))
  have HR := Lib.hid (fun W => reclaim_err (pf_of (G W) p_n) (by omega))
  have HL := Lib.hid (fun W => release_no (G W))
  have HC := Lib.hid (fun W => (show Calls Try.prog 29 #[.pointer none, .int .u8 0, .int .i64 p_n] W fun e w' => e = .returned (.int .i64 0) ∧ W = w' from count_nil 0 p_n W))
  clear G
  unfold R4.zero R4.agg at HG
  simp only at HG
  go_enter Try.func10, Try.ntmps10
  go_wp2_with fail
  refine (HG.out _).mono ?_
  rintro e w1 ⟨rfl, b1⟩
  have b2 := below_more b1 (.cells #[.int .u8 0, .int .i64 0, .int .i64 0, .int .i64 0] 53)
  clear b1
  go_wp2_with fail
  generalize w1.alloc (.cells #[.int .u8 0, .int .i64 0, .int .i64 0, .int .i64 0] 53) = w2 at *
  refine (awake8_in _).mono ?_
  rintro e w3 ⟨rfl, b3⟩
  have b3' := below_up b2 b3
  clear b2 b3
  go_wp2_with fail
  refine (HD.out _).mono ?_
  rintro e w4 ⟨rfl, b4⟩
  have b4' := below_up b3' b4
  clear b3' b4
  go_wp2_with fail
  refine (HK.out _).mono ?_
  rintro e w5 ⟨rfl, b5⟩
  have b5' := below_up b4' b5
  clear b4' b5
  go_wp2_with fail
  refine (HS.out _).mono ?_
  rintro e w6 ⟨rfl, b6⟩
  have b6' := below_up b5' b6
  clear b5' b6
  go_wp2_with fail
  refine (HU.out _).mono ?_
  rintro e w7 ⟨rfl, b7⟩
  have b7' := below_up b6' b7
  clear b6' b7
  go_wp2_with fail
  refine (HR.out _).mono ?_
  rintro e w8 ⟨rfl, b8⟩
  have b8' := below_up b7' b8
  clear b7' b8
  go_wp2_with fail
  refine (HL.out _).mono ?_
  rintro e w9 ⟨rfl, b9⟩
  have b9' := below_up b8' b9
  clear b8' b9
  go_wp2_with fail
  refine (HC.out _).mono ?_
  rintro e wa ⟨rfl, rfl⟩
  go_wp2_with fail
  refine (twin_nil _).mono ?_
  rintro e wb ⟨rfl, rfl⟩
  go_wp2
  go_ret
  exact ⟨rfl, b9'⟩

/-! ### the row's step -/
set_option maxRecDepth 100000 in
theorem lifted (os : Os) (started : os.Started) (H : Type) (enc : TypeId × Value → H) :
    ReturnsInHanded {} Try.checked os 10 .any (Rows.ownerNilSpec.pre6 enc Try.prog Try.f10 Rows.ownerNilRow.domain false) (Rows.ownerNilSpec.post enc Try.prog Try.f10 false true false false) := by
  refine returnsInHanded_of_change (C := Try.checked) own started (by kernel_rfl) Try.func10
    (ChangeSpec.witness6 (enc := enc) (C := Try.checked) false ⟨#[], #[.int .i64 0, .int .i64 0, .int .i64 0], []⟩ 8 (by kernel_rfl) (by kernel_rfl) (by kernel_rfl) (by kernel_rfl)) ?_
  intro W base args ds gs before hval0 hW hcnd _
  have hval : ∀ (j : Nat) t v, Try.f10.params[j]? = some t → args[j]? = some v → Value.okWide Try.prog W .any base t v := hval0
  have hW' := hW
  obtain ⟨p, q, hA0, hV, rfl, hfz, hnd⟩ := hW
  have hA : DataW.TrodAll enc Try.prog W 0 (fun _ => true) true Try.f10.params.toList args.toList ds p := hA0
  rw [Try.params10] at hA hval
  obtain ⟨v0, vs0, d0, ds0, p0, q0, hargs, rfl, rfl, h0, r0⟩ := trodAll_cons hA
  obtain ⟨v1, vs1, d1, ds1, p1, q1, rfl, rfl, rfl, h1, r1⟩ := trodAll_cons r0
  obtain ⟨v2, vs2, d2, ds2, p2, q2, rfl, rfl, rfl, h2, r2⟩ := trodAll_cons r1
  obtain ⟨rfl, rfl, rfl⟩ := trodAll_nil r2
  obtain rfl : args = #[v0, v1, v2] := by cases args; simp_all
  obtain ⟨rfl, rfl⟩ := trodVars_none hV
  obtain ⟨a0, rfl, rfl, rfl, w0⟩ := open_int Try.underlying3 (hval 0 3 v0 rfl rfl) h0
  have b0 := wf_i64 w0
  obtain ⟨a1, rfl, rfl, rfl, w1⟩ := open_int Try.underlying3 (hval 1 3 v1 rfl rfl) h1
  have b1 := wf_i64 w1
  obtain ⟨a2, rfl, rfl, rfl, w2⟩ := open_int Try.underlying3 (hval 2 3 v2 rfl rfl) h2
  have b2 := wf_i64 w2
  clear hA0 hval0
  refine (walk a0 b0 a1 b1 a2 b2 W ).mono fun e W' ⟨he, bel⟩ => ?_
  subst he
  exact ⟨_, rfl, _, _, _, [], _, [], hW', trodAll_mk1 (shut_bool Try.underlying4 _), (trodAll_cons_mk (shut_int Try.underlying3 w0) (trodAll_cons_mk (shut_int Try.underlying3 w1) (trodAll_cons_mk (shut_int Try.underlying3 w2) trodAll_mk0))), rfl, bel.frame _, fun h => by cases h⟩

theorem over : Rows.ownerNilRow.holds Try.pinned (OpenSpec.ofChange Rows.ownerNilSpec) :=
  OpenClaim.holds_of_wide 10 Try.f10 rfl rfl rfl rfl rfl rfl rfl ⟨rfl, rfl, rfl, rfl, rfl⟩ rfl rfl rfl rfl rfl (by kernel_rfl) Try.func10 (by kernel_rfl)
    (of_decide_eq_true (by kernel_rfl)) (by unfold Func.isWrapper; first | (rw [if_pos (by decide +kernel)]; kernel_rfl) | (rw [if_neg (by decide +kernel)]; exact ⟨rfl, rfl⟩))
    (fun os started H enc _ => lifted os started H enc)

/-- THE STATEMENT -/
theorem proved : Rows.OwnerNilSaid := over
#print axioms proved
end Go.Proofs.Ytjidhmdphlmldaa.ownerNil
