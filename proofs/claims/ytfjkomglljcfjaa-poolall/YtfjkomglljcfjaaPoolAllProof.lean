/-
  PROVED: for every number n the law PoolAll returns true: a new pool gives all its frames, one by one, rising; then none; and n reads as it did. No condition.
-/
import Derived.Test.YtfjkomglljcfjaaRows
import Derived.Test.YtfjkomglljcfjaaPM
import Derived.Test.YtfjkomglljcfjaaPN
import Derived.Test.YtfjkomglljcfjaaPW
import Derived.WalkKit
import Derived.ProofKit
import Derived.OpenShut
import Derived.ShutString
import Derived.ChangeOld
import Derived.Below
import Derived.Deep.CutBlock
import Derived.Deep.RegionHeld3
import Derived.Deep.Slices
import Derived.Deep.Fields
namespace Go.Proofs.Ytfjkomglljcfjaa.poolAll
open Go.Proofs.Ytfjkomglljcfjaa Go.Proofs.Ytfjkomglljcfjaa.PM
open Go.ChangeShapes Go.WideShapes Go.ChangeAt Go.RowKit
open Go.ChangeMaps (open_string shut_string)
set_option linter.unusedVariables false
set_option maxRecDepth 100000

theorem own : ownKnob Try.prog.godebug = none := by kernel_rfl
theorem laidOut : laidOutB Try.prog = true := by kernel_rfl
theorem wf_i64 {a : Int} (h : (Lit.int .i64 a).wf = true) : -9223372036854775808 ≤ a ∧ a ≤ 9223372036854775807 := by
  simp only [Lit.wf, IntKind.min, IntKind.max, IntKind.signed, IntKind.bits, Bool.and_eq_true, decide_eq_true_eq] at h
  simp at h
  omega

/-! ### the walk -/
set_option maxRecDepth 100000
def lt0 (j : Nat) : Nat → Bool := fun x => decide (x < j)
theorem lt0_upd (j : Nat) : upd (lt0 j) j true = lt0 (j + 1) := by
  funext x
  unfold upd lt0
  by_cases e : x = j
  · simp [e]
  · rw [if_neg e]; congr 1; apply propext; omega
theorem lt0_cnt (k : Nat) : cnt (lt0 k) k = 0 := cnt_full (fun x hx => by simp [lt0, hx])
theorem left_eq {w : World} {B k n : Nat} {F : Nat → Prop} {us : Nat → Bool} {well : Int} (H : Pl w B F k us well) (hn : cnt us k = n) :
    Calls Try.prog 15 #[.pointer (some ⟨B, 0, none⟩)] w fun e w' => e = .returned (.int .i64 (n : Nat)) ∧ w = w' := by
  rw [← hn]; exact left_in H
set_option maxHeartbeats 1000000 in
theorem all_low (p_n : Int) (K : Nat) (hK5 : K ≤ 512) (k1 : p_n < 0) (k2 : K = 0) (hN : ∀ w, Calls Try.prog 9 #[.int .i64 p_n] w fun e w' => ∃ B, e = .returned (.pointer (some ⟨B, 0, none⟩)) ∧ Pl w' B (fun x => w.heap.size ≤ x) K (fun _ => false) (-1) ∧ Below w.heap.size w w') (w : World) :
    Calls Try.prog 4 #[.int .i64 p_n] w fun e w' => e = .returned (.bool true) ∧ Below w.heap.size w w' := by
  have HN := Lib.hid hN
  clear hN
  go_enter Try.func4, Try.ntmps4
  go_wp2_with fail
  refine (awake_in _).mono ?_
  rintro e w1 ⟨rfl, b1⟩
  have B1 := Lib.hid b1
  clear b1
  go_wp2_with fail
  refine (HN.out w1).mono ?_
  rintro e w2 ⟨B, rfl, p2, b2⟩
  have P2 := Lib.hid (p2.mono (G := fun x => w.heap.size ≤ x) (fun x _ h => Nat.le_trans (B1.out).size h))
  have B2 := Lib.hid (below_up B1.out b2)
  clear p2 b2
  go_wp2_with fail
  refine (left_eq P2.out (cnt_all K)).mono ?_
  rintro e w3 ⟨rfl, rfl⟩
  go_wp2_with fail
  go_loopw [5] (fun i wr => ∃ (j : Nat), j ≤ K ∧ i = .int .i64 j ∧ Pl wr B (fun x => w.heap.size ≤ x) K (lt0 j) (-1) ∧ Below w.heap.size w wr) (fun i _ => (K - (intOf i).toNat))
  case atStart => exact ⟨0, by omega, rfl, (P2.out).congr (fun x _ => by simp [lt0]), B2.out⟩
  case round =>
    obtain ⟨j, hj, rfl, p3, b3⟩ := hrel
    clear P2 B2
    have P3 := Lib.hid p3
    have B3 := Lib.hid b3
    clear p3 b3
    by_cases hjk : j < K
    · omega
    · obtain rfl : j = K := by omega
      go_wp2_with fail
      refine (take_full P3.out (.inl (lt0_cnt _))).mono ?_
      rintro e w4 ⟨rfl, rfl⟩
      go_wp2_with fail
      refine (left_eq P3.out (lt0_cnt _)).mono ?_
      rintro e w5 ⟨rfl, rfl⟩
      go_wp2
      go_ret
      exact ⟨rfl, B3.out⟩
set_option maxHeartbeats 1000000 in
theorem all_high (p_n : Int) (K : Nat) (hK5 : K ≤ 512) (k1 : 512 < p_n) (k2 : K = 512) (hN : ∀ w, Calls Try.prog 9 #[.int .i64 p_n] w fun e w' => ∃ B, e = .returned (.pointer (some ⟨B, 0, none⟩)) ∧ Pl w' B (fun x => w.heap.size ≤ x) K (fun _ => false) (-1) ∧ Below w.heap.size w w') (w : World) :
    Calls Try.prog 4 #[.int .i64 p_n] w fun e w' => e = .returned (.bool true) ∧ Below w.heap.size w w' := by
  have HN := Lib.hid hN
  clear hN
  go_enter Try.func4, Try.ntmps4
  go_wp2_with fail
  refine (awake_in _).mono ?_
  rintro e w1 ⟨rfl, b1⟩
  have B1 := Lib.hid b1
  clear b1
  go_wp2_with fail
  refine (HN.out w1).mono ?_
  rintro e w2 ⟨B, rfl, p2, b2⟩
  have P2 := Lib.hid (p2.mono (G := fun x => w.heap.size ≤ x) (fun x _ h => Nat.le_trans (B1.out).size h))
  have B2 := Lib.hid (below_up B1.out b2)
  clear p2 b2
  go_wp2_with fail
  refine (left_eq P2.out (cnt_all K)).mono ?_
  rintro e w3 ⟨rfl, rfl⟩
  go_wp2_with fail
  go_loopw [5] (fun i wr => ∃ (j : Nat), j ≤ K ∧ i = .int .i64 j ∧ Pl wr B (fun x => w.heap.size ≤ x) K (lt0 j) (-1) ∧ Below w.heap.size w wr) (fun i _ => (K - (intOf i).toNat))
  case atStart => exact ⟨0, by omega, rfl, (P2.out).congr (fun x _ => by simp [lt0]), B2.out⟩
  case round =>
    obtain ⟨j, hj, rfl, p3, b3⟩ := hrel
    clear P2 B2
    have P3 := Lib.hid p3
    have B3 := Lib.hid b3
    clear p3 b3
    by_cases hjk : j < K
    · go_wp2_with fail
      refine (take_at P3.out j hjk (by simp [lt0]) (fun y hy => by simp [lt0, hy]) (by omega)).mono ?_
      rintro e w4 ⟨rfl, p4, c4⟩
      rw [wellN_neg, lt0_upd] at p4
      have P4 := Lib.hid p4
      have B4 := Lib.hid (ch_below c4 B3.out (fun _ h => h))
      clear p4 c4
      go_wp2
      go_roundw
      case rel => exact ⟨j + 1, by omega, by go_num, P4.out, B4.out⟩
      case measure => simp [intOf]; omega
    · obtain rfl : j = K := by omega
      go_wp2_with fail
      refine (take_full P3.out (.inl (lt0_cnt _))).mono ?_
      rintro e w4 ⟨rfl, rfl⟩
      go_wp2_with fail
      refine (left_eq P3.out (lt0_cnt _)).mono ?_
      rintro e w5 ⟨rfl, rfl⟩
      go_wp2
      go_ret
      exact ⟨rfl, B3.out⟩
set_option maxHeartbeats 1000000 in
theorem all_mid (p_n : Int) (K : Nat) (hK5 : K ≤ 512) (k1 : p_n = K) (hN : ∀ w, Calls Try.prog 9 #[.int .i64 p_n] w fun e w' => ∃ B, e = .returned (.pointer (some ⟨B, 0, none⟩)) ∧ Pl w' B (fun x => w.heap.size ≤ x) K (fun _ => false) (-1) ∧ Below w.heap.size w w') (w : World) :
    Calls Try.prog 4 #[.int .i64 p_n] w fun e w' => e = .returned (.bool true) ∧ Below w.heap.size w w' := by
  subst k1
  have HN := Lib.hid hN
  clear hN
  go_enter Try.func4, Try.ntmps4
  go_wp2_with fail
  refine (awake_in _).mono ?_
  rintro e w1 ⟨rfl, b1⟩
  have B1 := Lib.hid b1
  clear b1
  go_wp2_with fail
  refine (HN.out w1).mono ?_
  rintro e w2 ⟨B, rfl, p2, b2⟩
  have P2 := Lib.hid (p2.mono (G := fun x => w.heap.size ≤ x) (fun x _ h => Nat.le_trans (B1.out).size h))
  have B2 := Lib.hid (below_up B1.out b2)
  clear p2 b2
  go_wp2_with fail
  refine (left_eq P2.out (cnt_all K)).mono ?_
  rintro e w3 ⟨rfl, rfl⟩
  go_wp2_with fail
  go_loopw [5] (fun i wr => ∃ (j : Nat), j ≤ K ∧ i = .int .i64 j ∧ Pl wr B (fun x => w.heap.size ≤ x) K (lt0 j) (-1) ∧ Below w.heap.size w wr) (fun i _ => (K - (intOf i).toNat))
  case atStart => exact ⟨0, by omega, rfl, (P2.out).congr (fun x _ => by simp [lt0]), B2.out⟩
  case round =>
    obtain ⟨j, hj, rfl, p3, b3⟩ := hrel
    clear P2 B2
    have P3 := Lib.hid p3
    have B3 := Lib.hid b3
    clear p3 b3
    by_cases hjk : j < K
    · go_wp2_with fail
      refine (take_at P3.out j hjk (by simp [lt0]) (fun y hy => by simp [lt0, hy]) (by omega)).mono ?_
      rintro e w4 ⟨rfl, p4, c4⟩
      rw [wellN_neg, lt0_upd] at p4
      have P4 := Lib.hid p4
      have B4 := Lib.hid (ch_below c4 B3.out (fun _ h => h))
      clear p4 c4
      go_wp2
      go_roundw
      case rel => exact ⟨j + 1, by omega, by go_num, P4.out, B4.out⟩
      case measure => simp [intOf]; omega
    · obtain rfl : j = K := by omega
      go_wp2_with fail
      refine (take_full P3.out (.inl (lt0_cnt _))).mono ?_
      rintro e w4 ⟨rfl, rfl⟩
      go_wp2_with fail
      refine (left_eq P3.out (lt0_cnt _)).mono ?_
      rintro e w5 ⟨rfl, rfl⟩
      go_wp2
      go_ret
      exact ⟨rfl, B3.out⟩
theorem walk (p_n : Int) (hp_n : -9223372036854775808 ≤ p_n ∧ p_n ≤ 9223372036854775807) (w : World)  :
    Calls Try.prog 4 #[.int .i64 p_n] w fun e w' => e = .returned (.bool true) ∧ Below w.heap.size w w' := by
  have hK5 := clampN_le p_n
  by_cases h0 : p_n < 0
  · exact all_low p_n (clampN p_n) hK5 h0 (by unfold clampN; omega) (new_in p_n) w
  · by_cases h1 : 512 < p_n
    · exact all_high p_n (clampN p_n) hK5 h1 (by unfold clampN; omega) (new_in p_n) w
    · exact all_mid p_n (clampN p_n) hK5 (by unfold clampN; omega) (new_in p_n) w

/-! ### the row's step -/
set_option maxRecDepth 100000 in
theorem lifted (os : Os) (started : os.Started) (H : Type) (enc : TypeId × Value → H) :
    ReturnsInHanded {} Try.checked os 4 .any (Rows.poolAllSpec.pre6 enc Try.prog Try.f4 Rows.poolAllRow.domain false) (Rows.poolAllSpec.post enc Try.prog Try.f4 false true false false) := by
  refine returnsInHanded_of_change (C := Try.checked) own started (by kernel_rfl) Try.func4
    (ChangeSpec.witness6 (enc := enc) (C := Try.checked) false ⟨#[], #[.int .i64 0], []⟩ 8 (by kernel_rfl) (by kernel_rfl) (by kernel_rfl) (by kernel_rfl)) ?_
  intro W base args ds gs before hval0 hW hcnd _
  have hval : ∀ (j : Nat) t v, Try.f4.params[j]? = some t → args[j]? = some v → Value.okWide Try.prog W .any base t v := hval0
  have hW' := hW
  obtain ⟨p, q, hA0, hV, rfl, hfz, hnd⟩ := hW
  have hA : DataW.TrodAll enc Try.prog W 0 (fun _ => true) true Try.f4.params.toList args.toList ds p := hA0
  rw [Try.params4] at hA hval
  obtain ⟨v0, vs0, d0, ds0, p0, q0, hargs, rfl, rfl, h0, r0⟩ := trodAll_cons hA
  obtain ⟨rfl, rfl, rfl⟩ := trodAll_nil r0
  obtain rfl : args = #[v0] := by cases args; simp_all
  obtain ⟨rfl, rfl⟩ := trodVars_none hV
  obtain ⟨a0, rfl, rfl, rfl, w0⟩ := open_int Try.underlying3 (hval 0 3 v0 rfl rfl) h0
  have b0 := wf_i64 w0
  clear hA0 hval0
  refine (walk a0 b0 W ).mono fun e W' ⟨he, bel⟩ => ?_
  subst he
  exact ⟨_, rfl, _, _, _, [], _, [], hW', trodAll_mk1 (shut_bool Try.underlying4 _), (trodAll_cons_mk (shut_int Try.underlying3 w0) trodAll_mk0), rfl, bel.frame _, fun h => by cases h⟩

theorem over : Rows.poolAllRow.holds Try.pinned (OpenSpec.ofChange Rows.poolAllSpec) :=
  OpenClaim.holds_of_wide 4 Try.f4 rfl rfl rfl rfl rfl rfl rfl ⟨rfl, rfl, rfl, rfl, rfl⟩ rfl rfl rfl rfl rfl (by kernel_rfl) Try.func4 (by kernel_rfl)
    (of_decide_eq_true (by kernel_rfl)) (by unfold Func.isWrapper; first | (rw [if_pos (by decide +kernel)]; kernel_rfl) | (rw [if_neg (by decide +kernel)]; exact ⟨rfl, rfl⟩))
    (fun os started H enc _ => lifted os started H enc)

/-- THE STATEMENT -/
theorem proved : Rows.PoolAllSaid := over
#print axioms proved
end Go.Proofs.Ytfjkomglljcfjaa.poolAll
