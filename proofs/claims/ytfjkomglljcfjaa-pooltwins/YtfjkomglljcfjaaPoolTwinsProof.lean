/-
  PROVED: for every numbers n, takes and m the law PoolTwins returns true: a pool like another one goes its own way; a nil one has nothing; and all arguments read as they did. No condition.
-/
import Derived.Test.YtfjkomglljcfjaaRows
import Derived.Test.YtfjkomglljcfjaaPM
import Derived.Test.YtfjkomglljcfjaaPN
import Derived.Test.YtfjkomglljcfjaaPW
import Derived.Test.YtfjkomglljcfjaaPT
import Derived.WalkKit
import Derived.ProofKit
import Derived.OpenShut
import Derived.ShutString
import Derived.ChangeOld
import Derived.Below
import Derived.Deep.CutBlock
import Derived.Deep.RegionHeld3
import Derived.Deep.Slices
import Derived.Deep.Fields
namespace Go.Proofs.Ytfjkomglljcfjaa.poolTwins
open Go.Proofs.Ytfjkomglljcfjaa Go.Proofs.Ytfjkomglljcfjaa.PM
open Go.ChangeShapes Go.WideShapes Go.ChangeAt Go.RowKit
open Go.ChangeMaps (open_string shut_string)
set_option linter.unusedVariables false
set_option maxRecDepth 100000

theorem own : ownKnob Try.prog.godebug = none := by kernel_rfl
theorem laidOut : laidOutB Try.prog = true := by kernel_rfl
theorem wf_u8 {a : Int} (h : (Lit.int .u8 a).wf = true) : ∃ n : Nat, a = n ∧ n < 256 := by
  simp only [Lit.wf, IntKind.min, IntKind.max, IntKind.signed, IntKind.bits, Bool.and_eq_true] at h
  simp at h
  exact ⟨a.toNat, by omega, by omega⟩
theorem wf_i64 {a : Int} (h : (Lit.int .i64 a).wf = true) : -9223372036854775808 ≤ a ∧ a ≤ 9223372036854775807 := by
  simp only [Lit.wf, IntKind.min, IntKind.max, IntKind.signed, IntKind.bits, Bool.and_eq_true, decide_eq_true_eq] at h
  simp at h
  omega

/-! ### the walk -/
set_option maxRecDepth 100000
/-- The two pools. -/
structure TI (w wr : World) (M B B' n : Nat) (us vs : Nat → Bool) : Prop where
  p : Pl wr B (fun x => w.heap.size ≤ x ∧ x < M) n us (-1)
  q : Pl wr B' (fun x => M ≤ x) n vs (-1)
  m0 : w.heap.size ≤ M
  m1 : M ≤ wr.heap.size
  bel : Below w.heap.size w wr
theorem TI.onP {w wr w' : World} {M B B' n : Nat} {us vs us' : Nat → Bool} (h : TI w wr M B B' n us vs) (p : Pl w' B (fun x => w.heap.size ≤ x ∧ x < M) n us' (-1)) (c : Ch (fun x => w.heap.size ≤ x ∧ x < M) wr w') : TI w w' M B B' n us' vs :=
  ⟨p, h.q.keep c (fun x _ h1 h2 => by omega), h.m0, Nat.le_trans h.m1 c.size, ch_below c h.bel (fun _ h => h.1)⟩
theorem TI.onQ {w wr w' : World} {M B B' n : Nat} {us vs vs' : Nat → Bool} (h : TI w wr M B B' n us vs) (q : Pl w' B' (fun x => M ≤ x) n vs' (-1)) (c : Ch (fun x => M ≤ x) wr w') : TI w w' M B B' n us vs' :=
  ⟨h.p.keep c (fun x _ h1 h2 => by omega), q, h.m0, Nat.le_trans h.m1 c.size, ch_below c h.bel (fun x hx => by have := h.m0; omega)⟩
set_option maxHeartbeats 2000000 in
theorem twins_in (n t : Nat) (m : Int) (hn : n < 256) (ht : t < 256) (hm : -9223372036854775808 ≤ m ∧ m ≤ 9223372036854775807) (w : World) :
    Calls Try.prog 6 #[.int .u8 n, .int .u8 t, .int .i64 m] w fun e w' => e = .returned (.bool true) ∧ Below w.heap.size w w' := by
  go_enter Try.func6, Try.ntmps6
  go_wp2_with fail
  refine (awake_in _).mono ?_
  rintro e w1 ⟨rfl, b1⟩
  have B1 := Lib.hid b1
  clear b1
  go_wp2_with fail
  refine (new_mid (k := n) (by omega) w1).mono ?_
  rintro e w2 ⟨B, rfl, p2, b2⟩
  have P2 := Lib.hid (p2.mono (G := fun x => w.heap.size ≤ x) (fun x _ h => ge_base B1.out x h))
  have B2 := Lib.hid (below_up B1.out b2)
  clear p2 b2 B1
  go_wp2_with fail
  go_loopw [8] (fun i wr => ∃ (j : Nat) (us : Nat → Bool), j ≤ t ∧ i = .int .i64 j ∧ Pl wr B (fun x => w.heap.size ≤ x) n us (-1) ∧ Below w.heap.size w wr) (fun i _ => (t - (intOf i).toNat))
  case atStart => exact ⟨0, fun _ => false, by omega, rfl, P2.out, B2.out⟩
  case round =>
    obtain ⟨j, us, hj, rfl, p3, b3⟩ := hrel
    clear P2 B2
    have P3 := Lib.hid p3
    have B3 := Lib.hid b3
    clear p3 b3
    by_cases hjt : j < t
    · by_cases hc : cnt us n = 0
      · have HC := Lib.hid hc
        clear hc
        go_wp2_with fail
        refine (take_full P3.out (.inl HC.out)).mono ?_
        rintro e w4 ⟨rfl, rfl⟩
        go_wp2
        go_roundw
        case rel => exact ⟨j + 1, us, by omega, by go_num, P3.out, B3.out⟩
        case measure => simp [intOf]; omega
      · have HC := Lib.hid hc
        clear hc
        go_wp2_with fail
        refine (take_in P3.out HC.out (by omega)).mono ?_
        rintro e w4 ⟨x, rfl, _, _, _, p4, c4⟩
        rw [wellN_neg] at p4
        have P4 := Lib.hid p4
        have B4 := Lib.hid (ch_below c4 B3.out (fun _ h => h))
        clear p4 c4
        go_wp2
        go_roundw
        case rel => exact ⟨j + 1, _, by omega, by go_num, P4.out, B4.out⟩
        case measure => simp [intOf]; omega
    · go_wp2_with fail
      refine (twin_in P3.out).mono ?_
      rintro e w4 ⟨B', rfl, p4, b4⟩
      have T4 := Lib.hid (show TI w w4 wr.heap.size B B' n us us from ⟨((P3.out).exact).below b4, p4, (B3.out).size, b4.size, below_up B3.out b4⟩)
      clear p4 b4
      generalize wr.heap.size = M at *
      by_cases hc : cnt us n = 0
      · have HC := Lib.hid hc
        clear hc
        go_wp2_with fail
        refine (take_full (T4.out).p (.inl HC.out)).mono ?_
        rintro e w5 ⟨rfl, rfl⟩
        go_wp2_with fail
        refine (take_full (T4.out).q (.inl HC.out)).mono ?_
        rintro e w5 ⟨rfl, rfl⟩
        go_wp2_with fail
        by_cases h0 : n = 0
        · refine (give_arg (T4.out).q 0 (by omega)).mono ?_
          rintro e w5 ⟨rfl, rfl⟩
          go_wp2_with (first
            | (go_at_call 13; refine (fail_nil _ _).mono ?_; rintro e w6 ⟨rfl, rfl⟩)
            | (go_at_call 10; refine (take_nil _).mono ?_; rintro e w6 ⟨rfl, rfl⟩)
            | (go_at_call 12; refine (some_nil _ _).mono ?_; rintro e w6 ⟨rfl, rfl⟩)
            | (go_at_call 11; refine (give_nil _ _).mono ?_; rintro e w6 ⟨rfl, rfl⟩)
            | (go_at_call 15; refine (left_nil _).mono ?_; rintro e w6 ⟨rfl, rfl⟩)
            | (go_at_call 14; refine (used_nil _ _).mono ?_; rintro e w6 ⟨rfl, rfl⟩)
            | (go_at_call 16; refine (twin_nil _).mono ?_; rintro e w6 ⟨rfl, rfl⟩))
          go_ret
          exact ⟨rfl, (T4.out).bel⟩
        · refine (give_in (T4.out).q 0 (by omega) (cnt_zero HC.out 0 (by omega))).mono ?_
          rintro e w5 ⟨rfl, q5, c5⟩
          have T5 := Lib.hid ((T4.out).onQ (q5.back (fun x hx => by have := (T4.out).m1; omega)) c5)
          clear q5 c5
          go_wp2_with (first
            | (go_at_call 13; refine (fail_nil _ _).mono ?_; rintro e w6 ⟨rfl, rfl⟩)
            | (go_at_call 10; refine (take_nil _).mono ?_; rintro e w6 ⟨rfl, rfl⟩)
            | (go_at_call 12; refine (some_nil _ _).mono ?_; rintro e w6 ⟨rfl, rfl⟩)
            | (go_at_call 11; refine (give_nil _ _).mono ?_; rintro e w6 ⟨rfl, rfl⟩)
            | (go_at_call 15; refine (left_nil _).mono ?_; rintro e w6 ⟨rfl, rfl⟩)
            | (go_at_call 14; refine (used_nil _ _).mono ?_; rintro e w6 ⟨rfl, rfl⟩)
            | (go_at_call 16; refine (twin_nil _).mono ?_; rintro e w6 ⟨rfl, rfl⟩))
          go_ret
          exact ⟨rfl, (T5.out).bel⟩
      · have HC := Lib.hid hc
        clear hc
        go_wp2_with fail
        refine (take_in (T4.out).p HC.out (by omega)).mono ?_
        rintro e w5 ⟨x, rfl, x1, x2, x3, p5, c5⟩
        rw [wellN_neg] at p5
        have T5 := Lib.hid ((T4.out).onP p5 c5)
        have HX := Lib.hid (And.intro x2 x3)
        clear p5 c5 x2 x3
        go_wp2_with fail
        refine (take_at (T5.out).q x x1 (HX.out).1 (fun y hy => by
          cases e : us y
          · have := (HX.out).2 y (by omega) e; omega
          · rfl) (by omega)).mono ?_
        rintro e w6 ⟨rfl, q6, c6⟩
        rw [wellN_neg] at q6
        have T6 := Lib.hid ((T5.out).onQ q6 c6)
        clear q6 c6
        go_wp2_with fail
        refine (give_in (T6.out).q x x1 (upd_at _ _ _)).mono ?_
        rintro e w7 ⟨rfl, q7, c7⟩
        have T7 := Lib.hid ((T6.out).onQ (q7.back (fun x hx => by have := (T6.out).m1; omega)) c7)
        clear q7 c7
        have U1 := Lib.hid (used_eq (T7.out).p x true x1 (upd_at _ _ _))
        have U2 := Lib.hid (used_eq (T7.out).q x false x1 (upd_at _ _ _))
        go_wp2_with (first
          | (go_at_call 13; refine (fail_nil _ _).mono ?_; rintro e w8 ⟨rfl, rfl⟩)
          | (go_at_call 10; refine (take_nil _).mono ?_; rintro e w8 ⟨rfl, rfl⟩)
          | (go_at_call 12; refine (some_nil _ _).mono ?_; rintro e w8 ⟨rfl, rfl⟩)
          | (go_at_call 11; refine (give_nil _ _).mono ?_; rintro e w8 ⟨rfl, rfl⟩)
          | (go_at_call 15; refine (left_nil _).mono ?_; rintro e w8 ⟨rfl, rfl⟩)
          | (go_at_call 14; (with_reducible refine (used_nil _ _).mono ?_); rintro e w8 ⟨rfl, rfl⟩)
          | (go_at_call 14; (with_reducible refine (U1.out).mono ?_); rintro e w8 ⟨rfl, rfl⟩)
          | (go_at_call 14; (with_reducible refine (U2.out).mono ?_); rintro e w8 ⟨rfl, rfl⟩)
          | (go_at_call 16; refine (twin_nil _).mono ?_; rintro e w8 ⟨rfl, rfl⟩))
        go_ret
        exact ⟨rfl, (T7.out).bel⟩
theorem walk (p_n : Nat) (hp_n : p_n < 256) (p_takes : Nat) (hp_takes : p_takes < 256) (p_m : Int) (hp_m : -9223372036854775808 ≤ p_m ∧ p_m ≤ 9223372036854775807) (w : World)  :
    Calls Try.prog 6 #[.int .u8 p_n, .int .u8 p_takes, .int .i64 p_m] w fun e w' => e = .returned (.bool true) ∧ Below w.heap.size w w' := by
  exact twins_in p_n p_takes p_m hp_n hp_takes hp_m w

/-! ### the row's step -/
set_option maxRecDepth 100000 in
theorem lifted (os : Os) (started : os.Started) (H : Type) (enc : TypeId × Value → H) :
    ReturnsInHanded {} Try.checked os 6 .any (Rows.poolTwinsSpec.pre6 enc Try.prog Try.f6 Rows.poolTwinsRow.domain false) (Rows.poolTwinsSpec.post enc Try.prog Try.f6 false true false false) := by
  refine returnsInHanded_of_change (C := Try.checked) own started (by kernel_rfl) Try.func6
    (ChangeSpec.witness6 (enc := enc) (C := Try.checked) false ⟨#[], #[.int .u8 0, .int .u8 0, .int .i64 0], []⟩ 8 (by kernel_rfl) (by kernel_rfl) (by kernel_rfl) (by kernel_rfl)) ?_
  intro W base args ds gs before hval0 hW hcnd _
  have hval : ∀ (j : Nat) t v, Try.f6.params[j]? = some t → args[j]? = some v → Value.okWide Try.prog W .any base t v := hval0
  have hW' := hW
  obtain ⟨p, q, hA0, hV, rfl, hfz, hnd⟩ := hW
  have hA : DataW.TrodAll enc Try.prog W 0 (fun _ => true) true Try.f6.params.toList args.toList ds p := hA0
  rw [Try.params6] at hA hval
  obtain ⟨v0, vs0, d0, ds0, p0, q0, hargs, rfl, rfl, h0, r0⟩ := trodAll_cons hA
  obtain ⟨v1, vs1, d1, ds1, p1, q1, rfl, rfl, rfl, h1, r1⟩ := trodAll_cons r0
  obtain ⟨v2, vs2, d2, ds2, p2, q2, rfl, rfl, rfl, h2, r2⟩ := trodAll_cons r1
  obtain ⟨rfl, rfl, rfl⟩ := trodAll_nil r2
  obtain rfl : args = #[v0, v1, v2] := by cases args; simp_all
  obtain ⟨rfl, rfl⟩ := trodVars_none hV
  obtain ⟨a0, rfl, rfl, rfl, w0⟩ := open_int Try.underlying5 (hval 0 5 v0 rfl rfl) h0
  obtain ⟨n0, rfl, b0⟩ := wf_u8 w0
  obtain ⟨a1, rfl, rfl, rfl, w1⟩ := open_int Try.underlying5 (hval 1 5 v1 rfl rfl) h1
  obtain ⟨n1, rfl, b1⟩ := wf_u8 w1
  obtain ⟨a2, rfl, rfl, rfl, w2⟩ := open_int Try.underlying3 (hval 2 3 v2 rfl rfl) h2
  have b2 := wf_i64 w2
  clear hA0 hval0
  refine (walk n0 b0 n1 b1 a2 b2 W ).mono fun e W' ⟨he, bel⟩ => ?_
  subst he
  exact ⟨_, rfl, _, _, _, [], _, [], hW', trodAll_mk1 (shut_bool Try.underlying4 _), (trodAll_cons_mk (shut_int Try.underlying5 w0) (trodAll_cons_mk (shut_int Try.underlying5 w1) (trodAll_cons_mk (shut_int Try.underlying3 w2) trodAll_mk0))), rfl, bel.frame _, fun h => by cases h⟩

theorem over : Rows.poolTwinsRow.holds Try.pinned (OpenSpec.ofChange Rows.poolTwinsSpec) :=
  OpenClaim.holds_of_wide 6 Try.f6 rfl rfl rfl rfl rfl rfl rfl ⟨rfl, rfl, rfl, rfl, rfl⟩ rfl rfl rfl rfl rfl (by kernel_rfl) Try.func6 (by kernel_rfl)
    (of_decide_eq_true (by kernel_rfl)) (by unfold Func.isWrapper; first | (rw [if_pos (by decide +kernel)]; kernel_rfl) | (rw [if_neg (by decide +kernel)]; exact ⟨rfl, rfl⟩))
    (fun os started H enc _ => lifted os started H enc)

/-- THE STATEMENT -/
theorem proved : Rows.PoolTwinsSaid := over
#print axioms proved
end Go.Proofs.Ytfjkomglljcfjaa.poolTwins
