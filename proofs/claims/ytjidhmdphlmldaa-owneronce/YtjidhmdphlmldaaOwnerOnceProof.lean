/-
  PROVED: for every frame, a, b, p and q the law OwnerOnce returns true: a frame is somebody's till it is free again: nobody else's meanwhile. No condition.
-/
import Derived.Test.YtjidhmdphlmldaaRows
import Derived.Test.YtjidhmdphlmldaaLT
import Derived.Test.YtjidhmdphlmldaaOA
import Derived.Test.YtjidhmdphlmldaaOB
import Derived.Test.YtjidhmdphlmldaaOC
import Derived.Test.YtjidhmdphlmldaaOD
import Derived.Test.YtjidhmdphlmldaaOE
import Derived.Test.YtjidhmdphlmldaaOF
import Derived.Test.YtjidhmdphlmldaaVA
import Derived.Test.YtjidhmdphlmldaaOG
import Derived.Test.YtjidhmdphlmldaaOH
import Derived.WalkKit
import Derived.ProofKit
import Derived.OpenShut
import Derived.ShutString
import Derived.ChangeOld
import Derived.Below
import Derived.Deep.CutBlock
import Derived.Deep.RegionHeld3
import Derived.Deep.Slices
import Derived.Deep.Fields
namespace Go.Proofs.Ytjidhmdphlmldaa.ownerOnce
open Go.Proofs.Ytjidhmdphlmldaa
open Go.ChangeShapes Go.WideShapes Go.ChangeAt Go.RowKit
open Go.ChangeMaps (open_string shut_string)
set_option linter.unusedVariables false
set_option maxRecDepth 100000

theorem own : ownKnob Try.prog.godebug = none := by kernel_rfl
theorem laidOut : laidOutB Try.prog = true := by kernel_rfl
theorem wf_u8 {a : Int} (h : (Lit.int .u8 a).wf = true) : ∃ n : Nat, a = n ∧ n < 256 := by
  simp only [Lit.wf, IntKind.min, IntKind.max, IntKind.signed, IntKind.bits, Bool.and_eq_true] at h
  simp at h
  exact ⟨a.toNat, by omega, by omega⟩

/-! ### the walk -/
set_option maxRecDepth 100000
theorem map2_in (b : Bool) (w : World) : Calls Try.prog 31 #[.bool b] w fun e w' => e = .returned (.int .i64 (if b then 0 else 8)) ∧ w = w' := by
  cases b
  · go_enter Try.func31, Try.ntmps31
    go_wp2
    go_ret
    exact ⟨rfl, rfl⟩
  · go_enter Try.func31, Try.ntmps31
    go_wp2
    go_ret
    exact ⟨rfl, rfl⟩
theorem keep_used {w : World} {B g cap k : Nat} {L : Nat → R4} (H : Bk w B g cap k L) (f : Nat) (hf : f < k) (h0 : (L f).k ≠ 0) (n : Int) (n6 : n < 6) :
    Calls Try.prog 22 #[.pointer (some ⟨B, 0, none⟩), .int .i64 f, .int .i64 n] w fun e w' => e = .returned (.int .i64 8) ∧ Tn w w' B g cap k L := by
  have h := keep_in H f n
  rw [show keepE k L f n = 8 by unfold keepE handE; rw [if_pos n6, if_pos ⟨by omega, by omega⟩, if_neg (by simpa using h0)], turned_err _ (by omega)] at h
  exact h
theorem walk (p_frame : Nat) (hp_frame : p_frame < 256) (p_a : Nat) (hp_a : p_a < 256) (p_b : Nat) (hp_b : p_b < 256) (p_p : Nat) (hp_p : p_p < 256) (p_q : Nat) (hp_q : p_q < 256) (w : World)  :
    Calls Try.prog 11 #[.int .u8 p_frame, .int .u8 p_a, .int .u8 p_b, .int .u8 p_p, .int .u8 p_q] w fun e w' => e = .returned (.bool true) ∧ Below w.heap.size w w' := by
  have m6 : p_a % 6 < 6 := Nat.mod_lt _ (by omega)
  have k6 : p_b % 6 < 6 := Nat.mod_lt _ (by omega)
  have p32 : p_p % 32 < 32 := Nat.mod_lt _ (by omega)
  have q32 : p_q % 32 < 32 := Nat.mod_lt _ (by omega)
  have ea : ((p_a : Int) % 6) = ((p_a % 6 : Nat) : Int) := by omega
  have eb : ((p_b : Int) % 6) = ((p_b % 6 : Nat) : Int) := by omega
  have ep : ((p_p : Int) % 32) = ((p_p % 32 : Nat) : Int) := by omega
  have eq : ((p_q : Int) % 32) = ((p_q % 32 : Nat) : Int) := by omega
  generalize p_a % 6 = n at *
  generalize p_b % 6 = m at *
  generalize p_p % 32 = pp at *
  generalize p_q % 32 = qq at *
  have HN := Lib.hid (fun W => (show Calls Try.prog 21 #[.int .i64 256] W (Nw W 256 law0) from new_in 256 W))
  go_enter Try.func11, Try.ntmps11
  go_wp2_with fail
  refine (awake8_in _).mono ?_
  rintro e w1 ⟨rfl, b1⟩
  go_wp2_with fail
  refine (HN.out _).mono ?_
  intro e w2 h2
  obtain ⟨B, g, cap, rfl, q2⟩ := h2.own b1
  have O2 := Lib.hid q2
  have HD := Lib.hid (donate_yes q2.bk p_frame hp_frame rfl n pp (by omega) (by omega) (by omega) (by omega))
  clear h2 q2 b1 HN
  go_wp2_with fail
  refine (HD.out).mono ?_
  rintro e w3 ⟨rfl, h3⟩
  have O3 := Lib.hid ((O2.out).turn h3)
  have HD2 := Lib.hid (donate_used h3.bk p_frame hp_frame (by rw [upd4_same]; simp) m qq (by omega) (by omega) (by omega) (by omega))
  clear h3 O2 HD
  go_wp2_with fail
  refine (HD2.out).mono ?_
  rintro e w4 ⟨rfl, h4⟩
  have O4 := Lib.hid ((O3.out).turn h4)
  have HK := Lib.hid (keep_used h4.bk p_frame hp_frame (by rw [upd4_same]; simp) m (by omega))
  clear h4 O3 HD2
  go_wp2_with fail
  refine (HK.out).mono ?_
  rintro e w5 ⟨rfl, h5⟩
  have O5 := Lib.hid ((O4.out).turn h5)
  clear h5 O4 HK
  by_cases hnm : n = m
  · have HR := Lib.hid (reclaim_ok (O5.out).bk p_frame hp_frame m (by omega) (by omega) (by rw [upd4_same]) (by rw [upd4_same]; simp [hnm]) (by rw [upd4_same]; simp))
    have t0 : ((n : Int) == (m : Int)) = true := by simp; omega
    clear hnm
    go_wp2_with fail
    refine (HR.out).mono ?_
    rintro e w6 ⟨rfl, h6⟩
    have O6 := Lib.hid ((O5.out).turn h6)
    have HD3 := Lib.hid (donate_yes h6.bk p_frame hp_frame (by rw [upd4_same]; rfl) m qq (by omega) (by omega) (by omega) (by omega))
    clear h6 O5 HR
    go_wp2_with fail
    refine (HD3.out).mono ?_
    rintro e w7 ⟨rfl, h7⟩
    have O7 := Lib.hid ((O6.out).turn h7)
    clear h7 O6 HD3
    go_wp2_with fail
    refine (map2_in _ _).mono ?_
    rintro e w8 ⟨rfl, rfl⟩
    go_wp2
    go_ret
    exact ⟨rfl, (O7.out).bel⟩
  · have HR := Lib.hid (reclaim_err (pf_owner (O5.out).bk p_frame hp_frame m (by rw [upd4_same]; simp; omega)) (by omega))
    have t0 : ((n : Int) == (m : Int)) = false := by simp; omega
    clear hnm
    go_wp2_with fail
    refine (HR.out).mono ?_
    rintro e w6 ⟨rfl, h6⟩
    have O6 := Lib.hid ((O5.out).below h6)
    have HD3 := Lib.hid (donate_used (O6.out).bk p_frame hp_frame (by rw [upd4_same]; simp) m qq (by omega) (by omega) (by omega) (by omega))
    clear h6 O5 HR
    go_wp2_with fail
    refine (HD3.out).mono ?_
    rintro e w7 ⟨rfl, h7⟩
    have O7 := Lib.hid ((O6.out).turn h7)
    clear h7 O6 HD3
    go_wp2_with fail
    refine (map2_in _ _).mono ?_
    rintro e w8 ⟨rfl, rfl⟩
    go_wp2
    go_ret
    exact ⟨rfl, (O7.out).bel⟩

/-! ### the row's step -/
set_option maxRecDepth 100000 in
theorem lifted (os : Os) (started : os.Started) (H : Type) (enc : TypeId × Value → H) :
    ReturnsInHanded {} Try.checked os 11 .any (Rows.ownerOnceSpec.pre6 enc Try.prog Try.f11 Rows.ownerOnceRow.domain false) (Rows.ownerOnceSpec.post enc Try.prog Try.f11 false true false false) := by
  refine returnsInHanded_of_change (C := Try.checked) own started (by kernel_rfl) Try.func11
    (ChangeSpec.witness6 (enc := enc) (C := Try.checked) false ⟨#[], #[.int .u8 0, .int .u8 0, .int .u8 0, .int .u8 0, .int .u8 0], []⟩ 8 (by kernel_rfl) (by kernel_rfl) (by kernel_rfl) (by kernel_rfl)) ?_
  intro W base args ds gs before hval0 hW hcnd _
  have hval : ∀ (j : Nat) t v, Try.f11.params[j]? = some t → args[j]? = some v → Value.okWide Try.prog W .any base t v := hval0
  have hW' := hW
  obtain ⟨p, q, hA0, hV, rfl, hfz, hnd⟩ := hW
  have hA : DataW.TrodAll enc Try.prog W 0 (fun _ => true) true Try.f11.params.toList args.toList ds p := hA0
  rw [Try.params11] at hA hval
  obtain ⟨v0, vs0, d0, ds0, p0, q0, hargs, rfl, rfl, h0, r0⟩ := trodAll_cons hA
  obtain ⟨v1, vs1, d1, ds1, p1, q1, rfl, rfl, rfl, h1, r1⟩ := trodAll_cons r0
  obtain ⟨v2, vs2, d2, ds2, p2, q2, rfl, rfl, rfl, h2, r2⟩ := trodAll_cons r1
  obtain ⟨v3, vs3, d3, ds3, p3, q3, rfl, rfl, rfl, h3, r3⟩ := trodAll_cons r2
  obtain ⟨v4, vs4, d4, ds4, p4, q4, rfl, rfl, rfl, h4, r4⟩ := trodAll_cons r3
  obtain ⟨rfl, rfl, rfl⟩ := trodAll_nil r4
  obtain rfl : args = #[v0, v1, v2, v3, v4] := by cases args; simp_all
  obtain ⟨rfl, rfl⟩ := trodVars_none hV
  obtain ⟨a0, rfl, rfl, rfl, w0⟩ := open_int Try.underlying5 (hval 0 5 v0 rfl rfl) h0
  obtain ⟨n0, rfl, b0⟩ := wf_u8 w0
  obtain ⟨a1, rfl, rfl, rfl, w1⟩ := open_int Try.underlying5 (hval 1 5 v1 rfl rfl) h1
  obtain ⟨n1, rfl, b1⟩ := wf_u8 w1
  obtain ⟨a2, rfl, rfl, rfl, w2⟩ := open_int Try.underlying5 (hval 2 5 v2 rfl rfl) h2
  obtain ⟨n2, rfl, b2⟩ := wf_u8 w2
  obtain ⟨a3, rfl, rfl, rfl, w3⟩ := open_int Try.underlying5 (hval 3 5 v3 rfl rfl) h3
  obtain ⟨n3, rfl, b3⟩ := wf_u8 w3
  obtain ⟨a4, rfl, rfl, rfl, w4⟩ := open_int Try.underlying5 (hval 4 5 v4 rfl rfl) h4
  obtain ⟨n4, rfl, b4⟩ := wf_u8 w4
  clear hA0 hval0
  refine (walk n0 b0 n1 b1 n2 b2 n3 b3 n4 b4 W ).mono fun e W' ⟨he, bel⟩ => ?_
  subst he
  exact ⟨_, rfl, _, _, _, [], _, [], hW', trodAll_mk1 (shut_bool Try.underlying4 _), (trodAll_cons_mk (shut_int Try.underlying5 w0) (trodAll_cons_mk (shut_int Try.underlying5 w1) (trodAll_cons_mk (shut_int Try.underlying5 w2) (trodAll_cons_mk (shut_int Try.underlying5 w3) (trodAll_cons_mk (shut_int Try.underlying5 w4) trodAll_mk0))))), rfl, bel.frame _, fun h => by cases h⟩

theorem over : Rows.ownerOnceRow.holds Try.pinned (OpenSpec.ofChange Rows.ownerOnceSpec) :=
  OpenClaim.holds_of_wide 11 Try.f11 rfl rfl rfl rfl rfl rfl rfl ⟨rfl, rfl, rfl, rfl, rfl⟩ rfl rfl rfl rfl rfl (by kernel_rfl) Try.func11 (by kernel_rfl)
    (of_decide_eq_true (by kernel_rfl)) (by unfold Func.isWrapper; first | (rw [if_pos (by decide +kernel)]; kernel_rfl) | (rw [if_neg (by decide +kernel)]; exact ⟨rfl, rfl⟩))
    (fun os started H enc _ => lifted os started H enc)

/-- THE STATEMENT -/
theorem proved : Rows.OwnerOnceSaid := over
#print axioms proved
end Go.Proofs.Ytjidhmdphlmldaa.ownerOnce
