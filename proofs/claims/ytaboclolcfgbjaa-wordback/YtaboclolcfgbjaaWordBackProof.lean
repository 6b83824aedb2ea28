/-
  PROVED: for all words w, v and all bytes at, n the law WordBack returns true (what was put into a field stands there, and all else is as it was; the document's example holds), and the four arguments read as they did. No condition.
-/
import Derived.Test.YtaboclolcfgbjaaRows
import Derived.Test.YtaboclolcfgbjaaWC
import Derived.WalkKit
import Derived.ProofKit
import Derived.OpenShut
import Derived.ShutString
namespace Go.Proofs.Ytaboclolcfgbjaa.wordBack
open Go.Proofs.Ytaboclolcfgbjaa Go.Proofs.Ytaboclolcfgbjaa.WM
open Go.ChangeShapes Go.WideShapes Go.ChangeAt Go.RowKit
open Go.ChangeMaps (open_string shut_string)
set_option linter.unusedVariables false      -- a walk need not use every 'w<i>' (that an integer argument fits its kind)

theorem own : ownKnob Try.prog.godebug = none := by kernel_rfl

/-! ### STEP 1: THE WALK: the Go text returns true. 'Grown w w'': the world has at most new blocks (Derived/RowKit3.lean). Part the cases AHEAD of 'go_enter' where a test parts the walk; take each callee by a contract of your own. -/
set_option maxRecDepth 100000
theorem back_call (x i k v : Nat) (w : World) (hx : x < 18446744073709551616) (hi : i ≤ 63) (hk : 1 ≤ k) :
    Calls Try.prog 12 #[.int .u64 (withN x i k v : Nat), .int .i64 i, .int .i64 k, .int .u64 ((x : Int) / 2 ^ i)] w fun e w' => e = .returned (.int .u64 x) ∧ w = w' := by
  have h := with_yes (withN x i k v) i k (x / 2 ^ i) w (withN_lt _ _ _ _) (by omega) hk
  rw [with_back x i k v hx, ← shr_cast] at h
  exact h
theorem walk (a0 : Int) (a1 : Int) (a2 : Int) (a3 : Int) (w0 : (Lit.int .u64 a0).wf = true) (w1 : (Lit.int .u8 a1).wf = true) (w2 : (Lit.int .u8 a2).wf = true) (w3 : (Lit.int .u64 a3).wf = true) (w : World) :
    Calls Try.prog 4 #[.int .u64 a0, .int .u8 a1, .int .u8 a2, .int .u64 a3] w fun e w' => e = .returned (.bool true) ∧ Grown w w' := by
  obtain ⟨x, rfl, hx⟩ := of_u64 w0
  obtain ⟨a, rfl, ha⟩ := of_u8 w1
  obtain ⟨n, rfl, hn⟩ := of_u8 w2
  obtain ⟨v, rfl, hv⟩ := of_u64 w3
  clear w0 w1 w2 w3
  go_enter Try.func4, Try.ntmps4
  go_wp2_with fail
  obtain ⟨k, hk⟩ : ∃ k : Nat, (k : Int) = 1 + (n : Int) % 64 := ⟨1 + n % 64, by omega⟩
  obtain ⟨i, hi⟩ : ∃ i : Nat, (i : Int) = (a : Int) % 64 := ⟨a % 64, by omega⟩
  rw [← hk, ← hi]
  have hk1 : 1 ≤ k := by omega
  have hk2 : k ≤ 64 := by omega
  have hi2 : i ≤ 63 := by omega
  clear hk hi
  have e1 := field_with x i k v hv (by omega)
  refine (with_at x i k v w hx (by omega) (by omega) (by omega)).mono ?_
  rintro e w' ⟨rfl, rfl⟩
  by_cases hm : (k : Int) ≤ 64 - (i : Int)
  · rw [show min k (64 - i) = k by omega] at e1
    go_wp2_with (first | (go_at_call 12; refine (back_call x i k v _ hx hi2 hk1).mono ?_; rintro e w' ⟨rfl, rfl⟩) | (go_at_call 9; refine (awake_in _).mono ?_; rintro e w' ⟨rfl, q2, rfl⟩) | (go_at_call 10; refine (field_at _ _ _ _ (by exact withN_lt _ _ _ _) (by omega) (by omega) (by omega)).mono ?_; rintro e w' ⟨rfl, q3, rfl⟩) | (go_at_call 11; refine (reffield_at _ _ _ _ (by omega) (by omega) (by omega)).mono ?_; rintro e w' ⟨rfl, rfl⟩))
    go_ret
    exact ⟨rfl, grown_drewN _ _⟩
  · rw [show min k (64 - i) = 64 - i by omega] at e1
    go_wp2_with (first | (go_at_call 12; refine (back_call x i k v _ hx hi2 hk1).mono ?_; rintro e w' ⟨rfl, rfl⟩) | (go_at_call 9; refine (awake_in _).mono ?_; rintro e w' ⟨rfl, q2, rfl⟩) | (go_at_call 10; refine (field_at _ _ _ _ (by exact withN_lt _ _ _ _) (by omega) (by omega) (by omega)).mono ?_; rintro e w' ⟨rfl, q3, rfl⟩) | (go_at_call 11; refine (reffield_at _ _ _ _ (by omega) (by omega) (by omega)).mono ?_; rintro e w' ⟨rfl, rfl⟩))
    go_ret
    exact ⟨rfl, grown_drewN _ _⟩

/-! ### THE ROW's STEP: WRITTEN OUT: LEAVE IT -/
set_option maxRecDepth 100000 in
theorem lifted (os : Os) (started : os.Started) (H : Type) (enc : TypeId × Value → H) :
    ReturnsInHanded {} Try.checked os 4 .any (Rows.wordBackSpec.pre6 enc Try.prog Try.f4 Rows.wordBackRow.domain false) (Rows.wordBackSpec.post enc Try.prog Try.f4 false true false false) := by
  refine returnsInHanded_of_change (C := Try.checked) own started (by kernel_rfl) Try.func4
    (ChangeSpec.witness6 (enc := enc) (C := Try.checked) false ⟨#[], #[.int .u64 0, .int .u8 0, .int .u8 0, .int .u64 0], []⟩ 8 (by kernel_rfl) (by kernel_rfl) (by kernel_rfl) (by kernel_rfl)) ?_
  intro W base args ds gs before hval0 hW hcnd _
  have hval : ∀ (j : Nat) t v, Try.f4.params[j]? = some t → args[j]? = some v → Value.okWide Try.prog W .any base t v := hval0
  have hW' := hW
  obtain ⟨p, q, hA0, hV, rfl, hfz, hnd⟩ := hW
  have hA : DataW.TrodAll enc Try.prog W 0 (fun _ => true) true Try.f4.params.toList args.toList ds p := hA0
  rw [Try.params4] at hA hval
  obtain ⟨v0, vs0, d0, ds0, p0, q0, hargs, rfl, rfl, h0, r0⟩ := trodAll_cons hA
  obtain ⟨v1, vs1, d1, ds1, p1, q1, rfl, rfl, rfl, h1, r1⟩ := trodAll_cons r0
  obtain ⟨v2, vs2, d2, ds2, p2, q2, rfl, rfl, rfl, h2, r2⟩ := trodAll_cons r1
  obtain ⟨v3, vs3, d3, ds3, p3, q3, rfl, rfl, rfl, h3, r3⟩ := trodAll_cons r2
  obtain ⟨rfl, rfl, rfl⟩ := trodAll_nil r3
  obtain rfl : args = #[v0, v1, v2, v3] := by cases args; simp_all
  obtain ⟨rfl, rfl⟩ := trodVars_none hV
  obtain ⟨a0, rfl, rfl, rfl, w0⟩ := open_int Try.underlying22 (hval 0 22 v0 rfl rfl) h0
  obtain ⟨a1, rfl, rfl, rfl, w1⟩ := open_int Try.underlying5 (hval 1 5 v1 rfl rfl) h1
  obtain ⟨a2, rfl, rfl, rfl, w2⟩ := open_int Try.underlying5 (hval 2 5 v2 rfl rfl) h2
  obtain ⟨a3, rfl, rfl, rfl, w3⟩ := open_int Try.underlying22 (hval 3 22 v3 rfl rfl) h3
  clear hA0 hval0
  simp only [List.append_nil] at hW'
  refine (walk a0 a1 a2 a3 w0 w1 w2 w3 W).mono fun e W' ⟨he, hg⟩ => ?_
  subst he
  exact ⟨_, rfl, post_of_same (pa := []) (pv := []) hW' (fun _ _ _ => (trodAll_cons_mk (shut_bool Try.underlying4 _) trodAll_mk0)) (fun sp _ => (trodAll_cons_mk (shut_int Try.underlying22 w0) (trodAll_cons_mk (shut_int Try.underlying5 w1) (trodAll_cons_mk (shut_int Try.underlying5 w2) (trodAll_cons_mk (shut_int Try.underlying22 w3) trodAll_mk0))))) (fun _ _ => rfl) rfl
    (hg.frame _) hg.2.1 (ok_one (by kernel_rfl) rfl (okWide_bool_mk Try.underlying4 _))⟩

theorem over : Rows.wordBackRow.holds Try.pinned (OpenSpec.ofChange Rows.wordBackSpec) :=
  OpenClaim.holds_of_wide 4 Try.f4 rfl rfl rfl rfl rfl rfl rfl ⟨rfl, rfl, rfl, rfl, rfl⟩ rfl rfl rfl rfl rfl (by kernel_rfl) Try.func4 (by kernel_rfl)
    (of_decide_eq_true (by kernel_rfl)) (by unfold Func.isWrapper; first | (rw [if_pos (by decide +kernel)]; kernel_rfl) | (rw [if_neg (by decide +kernel)]; exact ⟨rfl, rfl⟩))
    (fun os started H enc _ => lifted os started H enc)

/-- ████ THE STATEMENT ████ -/
theorem proved : Rows.WordBackSaid :=
  over
#print axioms proved
end Go.Proofs.Ytaboclolcfgbjaa.wordBack
