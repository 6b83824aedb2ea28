/-
  PROVED: for every pair of integers and every byte the law TurnNumbers returns true: seats by numbers, and back; and the arguments read as they did.
-/
import Derived.Test.YthafcgppopfdkaaRows
import Derived.Test.YthafcgppopfdkaaUA
import Derived.Test.YthafcgppopfdkaaUX
import Derived.Test.YthafcgppopfdkaaUB
import Derived.Test.YthafcgppopfdkaaUC
import Derived.WalkKit
import Derived.ProofKit
import Derived.OpenShut
import Derived.ShutString
import Derived.ChangeOld
import Derived.Below
import Derived.Deep.CutBlock
import Derived.Deep.RegionHeld3
import Derived.Deep.Slices
import Derived.Deep.Fields
namespace Go.Proofs.Ythafcgppopfdkaa.turnNumbers
open Go.Proofs.Ythafcgppopfdkaa
open Go.ChangeShapes Go.WideShapes Go.ChangeAt Go.RowKit
open Go.ChangeMaps (open_string shut_string)
set_option linter.unusedVariables false
set_option maxRecDepth 100000

theorem own : ownKnob Try.prog.godebug = none := by kernel_rfl
theorem laidOut : laidOutB Try.prog = true := by kernel_rfl
theorem wf_i64 {a : Int} (h : (Lit.int .i64 a).wf = true) : -9223372036854775808 ≤ a ∧ a ≤ 9223372036854775807 := by
  simp only [Lit.wf, IntKind.min, IntKind.max, IntKind.signed, IntKind.bits, Bool.and_eq_true, decide_eq_true_eq] at h
  simp at h
  omega
theorem wf_u8 {a : Int} (h : (Lit.int .u8 a).wf = true) : ∃ n : Nat, a = n ∧ n < 256 := by
  simp only [Lit.wf, IntKind.min, IntKind.max, IntKind.signed, IntKind.bits, Bool.and_eq_true] at h
  simp at h
  exact ⟨a.toNat, by omega, by omega⟩

/-! ### the walk -/
set_option maxRecDepth 100000
theorem num_yes (vm seat : Int) (h : 0 ≤ vm ∧ vm < 6 ∧ 0 ≤ seat ∧ seat < 3) : numN vm seat = vm * 3 + seat := if_pos h
theorem num_none (vm seat : Int) (h : ¬ (0 ≤ vm ∧ vm < 6 ∧ 0 ≤ seat ∧ seat < 3)) : numN vm seat = -1 := if_neg h
theorem num_back (k : Nat) (hk : k < 18) : numN ((k / 3 : Nat) : Int) ((k % 3 : Nat) : Int) = (k : Nat) := by
  rw [num_yes _ _ ⟨by omega, by omega, by omega, by omega⟩]; omega
set_option maxHeartbeats 4000000 in
theorem core (vm : Int) (hvm : -9223372036854775808 ≤ vm ∧ vm ≤ 9223372036854775807) (seat : Int) (hseat : -9223372036854775808 ≤ seat ∧ seat ≤ 9223372036854775807) (n : Nat) (hn : n < 256) (w : World) :
    Calls Try.prog 5 #[.int .i64 vm, .int .i64 seat, .int .u8 n] w fun e w' => e = .returned (.bool true) ∧ Below w.heap.size w w' := by
  have HN := Lib.hid (number_in vm seat)
  have HO := Lib.hid (of_in (n % 18) (by omega))
  have HA := Lib.hid awake13_in
  have HB := Lib.hid (number_in ((n % 18 / 3 : Nat) : Int) ((n % 18 % 3 : Nat) : Int))
  rw [num_back (n % 18) (by omega)] at HB
  have e1 : ((n % 18 : Nat) : Int) = (n : Int) % 18 := by omega
  have e2 : ((n % 18 / 3 : Nat) : Int) = (n : Int) % 18 / 3 := by omega
  have e3 : ((n % 18 % 3 : Nat) : Int) = (n : Int) % 3 := by omega
  rw [e1, e2, e3] at HO HB
  clear e1 e2 e3
  by_cases h : 0 ≤ vm ∧ vm < 6 ∧ 0 ≤ seat ∧ seat < 3
  · have en := num_yes vm seat h
    rw [en] at HN
    obtain ⟨h1, h2, h3, h4⟩ := h
    have z0 : (vm * 3 + seat == -1) = false := by simp; omega
    have z1 : (vm * 3 + seat == 3 * vm + seat) = true := by simp; omega
    clear en
    go_enter Try.func5, Try.ntmps5
    go_wp2_with fail
    refine (HN.out _).mono ?_
    rintro e w1 ⟨rfl, rfl⟩
    go_wp2_with fail
    refine (HO.out _).mono ?_
    rintro e w1 ⟨rfl, rfl⟩
    go_wp2_with fail
    refine (HA.out _).mono ?_
    rintro e w1 ⟨rfl, b1⟩
    go_wp2_with fail
    (with_reducible refine (HB.out _).mono ?_)
    rintro e w2 ⟨rfl, rfl⟩
    go_wp2
    go_ret
    exact ⟨by simp, b1⟩
  · have en := num_none vm seat h
    rw [en] at HN
    clear en
    by_cases h1 : 0 ≤ vm
    · by_cases h2 : vm < 6
      · by_cases h3 : 0 ≤ seat
        · have h4 : ¬ seat < 3 := fun h4 => h ⟨h1, h2, h3, h4⟩
          clear h
          go_enter Try.func5, Try.ntmps5
          go_wp2_with fail
          refine (HN.out _).mono ?_
          rintro e w1 ⟨rfl, rfl⟩
          go_wp2_with fail
          refine (HO.out _).mono ?_
          rintro e w1 ⟨rfl, rfl⟩
          go_wp2_with fail
          refine (HA.out _).mono ?_
          rintro e w1 ⟨rfl, b1⟩
          go_wp2_with fail
          (with_reducible refine (HB.out _).mono ?_)
          rintro e w2 ⟨rfl, rfl⟩
          go_wp2
          go_ret
          exact ⟨by simp, b1⟩
        · clear h
          go_enter Try.func5, Try.ntmps5
          go_wp2_with fail
          refine (HN.out _).mono ?_
          rintro e w1 ⟨rfl, rfl⟩
          go_wp2_with fail
          refine (HO.out _).mono ?_
          rintro e w1 ⟨rfl, rfl⟩
          go_wp2_with fail
          refine (HA.out _).mono ?_
          rintro e w1 ⟨rfl, b1⟩
          go_wp2_with fail
          (with_reducible refine (HB.out _).mono ?_)
          rintro e w2 ⟨rfl, rfl⟩
          go_wp2
          go_ret
          exact ⟨by simp, b1⟩
      · clear h
        go_enter Try.func5, Try.ntmps5
        go_wp2_with fail
        refine (HN.out _).mono ?_
        rintro e w1 ⟨rfl, rfl⟩
        go_wp2_with fail
        refine (HO.out _).mono ?_
        rintro e w1 ⟨rfl, rfl⟩
        go_wp2_with fail
        refine (HA.out _).mono ?_
        rintro e w1 ⟨rfl, b1⟩
        go_wp2_with fail
        (with_reducible refine (HB.out _).mono ?_)
        rintro e w2 ⟨rfl, rfl⟩
        go_wp2
        go_ret
        exact ⟨by simp, b1⟩
    · clear h
      go_enter Try.func5, Try.ntmps5
      go_wp2_with fail
      refine (HN.out _).mono ?_
      rintro e w1 ⟨rfl, rfl⟩
      go_wp2_with fail
      refine (HO.out _).mono ?_
      rintro e w1 ⟨rfl, rfl⟩
      go_wp2_with fail
      refine (HA.out _).mono ?_
      rintro e w1 ⟨rfl, b1⟩
      go_wp2_with fail
      (with_reducible refine (HB.out _).mono ?_)
      rintro e w2 ⟨rfl, rfl⟩
      go_wp2
      go_ret
      exact ⟨by simp, b1⟩
theorem walk (p_vm : Int) (hp_vm : -9223372036854775808 ≤ p_vm ∧ p_vm ≤ 9223372036854775807) (p_seat : Int) (hp_seat : -9223372036854775808 ≤ p_seat ∧ p_seat ≤ 9223372036854775807) (p_n : Nat) (hp_n : p_n < 256) (w : World)  :
    Calls Try.prog 5 #[.int .i64 p_vm, .int .i64 p_seat, .int .u8 p_n] w fun e w' => e = .returned (.bool true) ∧ Below w.heap.size w w' := by
  exact core p_vm hp_vm p_seat hp_seat p_n hp_n w

/-! ### the row's step -/
set_option maxRecDepth 100000 in
theorem lifted (os : Os) (started : os.Started) (H : Type) (enc : TypeId × Value → H) :
    ReturnsInHanded {} Try.checked os 5 .any (Rows.turnNumbersSpec.pre6 enc Try.prog Try.f5 Rows.turnNumbersRow.domain false) (Rows.turnNumbersSpec.post enc Try.prog Try.f5 false true false false) := by
  refine returnsInHanded_of_change (C := Try.checked) own started (by kernel_rfl) Try.func5
    (ChangeSpec.witness6 (enc := enc) (C := Try.checked) false ⟨#[], #[.int .i64 0, .int .i64 0, .int .u8 0], []⟩ 8 (by kernel_rfl) (by kernel_rfl) (by kernel_rfl) (by kernel_rfl)) ?_
  intro W base args ds gs before hval0 hW hcnd _
  have hval : ∀ (j : Nat) t v, Try.f5.params[j]? = some t → args[j]? = some v → Value.okWide Try.prog W .any base t v := hval0
  have hW' := hW
  obtain ⟨p, q, hA0, hV, rfl, hfz, hnd⟩ := hW
  have hA : DataW.TrodAll enc Try.prog W 0 (fun _ => true) true Try.f5.params.toList args.toList ds p := hA0
  rw [Try.params5] at hA hval
  obtain ⟨v0, vs0, d0, ds0, p0, q0, hargs, rfl, rfl, h0, r0⟩ := trodAll_cons hA
  obtain ⟨v1, vs1, d1, ds1, p1, q1, rfl, rfl, rfl, h1, r1⟩ := trodAll_cons r0
  obtain ⟨v2, vs2, d2, ds2, p2, q2, rfl, rfl, rfl, h2, r2⟩ := trodAll_cons r1
  obtain ⟨rfl, rfl, rfl⟩ := trodAll_nil r2
  obtain rfl : args = #[v0, v1, v2] := by cases args; simp_all
  obtain ⟨rfl, rfl⟩ := trodVars_none hV
  obtain ⟨a0, rfl, rfl, rfl, w0⟩ := open_int Try.underlying3 (hval 0 3 v0 rfl rfl) h0
  have b0 := wf_i64 w0
  obtain ⟨a1, rfl, rfl, rfl, w1⟩ := open_int Try.underlying3 (hval 1 3 v1 rfl rfl) h1
  have b1 := wf_i64 w1
  obtain ⟨a2, rfl, rfl, rfl, w2⟩ := open_int Try.underlying5 (hval 2 5 v2 rfl rfl) h2
  obtain ⟨n2, rfl, b2⟩ := wf_u8 w2
  clear hA0 hval0
  refine (walk a0 b0 a1 b1 n2 b2 W ).mono fun e W' ⟨he, bel⟩ => ?_
  subst he
  exact ⟨_, rfl, _, _, _, [], _, [], hW', trodAll_mk1 (shut_bool Try.underlying4 _), (trodAll_cons_mk (shut_int Try.underlying3 w0) (trodAll_cons_mk (shut_int Try.underlying3 w1) (trodAll_cons_mk (shut_int Try.underlying5 w2) trodAll_mk0))), rfl, bel.frame _, fun h => by cases h⟩

theorem over : Rows.turnNumbersRow.holds Try.pinned (OpenSpec.ofChange Rows.turnNumbersSpec) :=
  OpenClaim.holds_of_wide 5 Try.f5 rfl rfl rfl rfl rfl rfl rfl ⟨rfl, rfl, rfl, rfl, rfl⟩ rfl rfl rfl rfl rfl (by kernel_rfl) Try.func5 (by kernel_rfl)
    (of_decide_eq_true (by kernel_rfl)) (by unfold Func.isWrapper; first | (rw [if_pos (by decide +kernel)]; kernel_rfl) | (rw [if_neg (by decide +kernel)]; exact ⟨rfl, rfl⟩))
    (fun os started H enc _ => lifted os started H enc)

/-- THE STATEMENT -/
theorem proved : Rows.TurnNumbersSaid := over
#print axioms proved
end Go.Proofs.Ythafcgppopfdkaa.turnNumbers
