/-
  PROVED: for every frame, vm, page and n the law OwnerShares returns true: shared as often, and so often less, it is reclaimed; not before. No condition.
-/
import Derived.Test.YtjidhmdphlmldaaRows
import Derived.Test.YtjidhmdphlmldaaLT
import Derived.Test.YtjidhmdphlmldaaOA
import Derived.Test.YtjidhmdphlmldaaOB
import Derived.Test.YtjidhmdphlmldaaOC
import Derived.Test.YtjidhmdphlmldaaOD
import Derived.Test.YtjidhmdphlmldaaOE
import Derived.Test.YtjidhmdphlmldaaOF
import Derived.Test.YtjidhmdphlmldaaVA
import Derived.Test.YtjidhmdphlmldaaOG
import Derived.Test.YtjidhmdphlmldaaOH
import Derived.WalkKit
import Derived.ProofKit
import Derived.OpenShut
import Derived.ShutString
import Derived.ChangeOld
import Derived.Below
import Derived.Deep.CutBlock
import Derived.Deep.RegionHeld3
import Derived.Deep.Slices
import Derived.Deep.Fields
namespace Go.Proofs.Ytjidhmdphlmldaa.ownerShares
open Go.Proofs.Ytjidhmdphlmldaa
open Go.ChangeShapes Go.WideShapes Go.ChangeAt Go.RowKit
open Go.ChangeMaps (open_string shut_string)
set_option linter.unusedVariables false
set_option maxRecDepth 100000

theorem own : ownKnob Try.prog.godebug = none := by kernel_rfl
theorem laidOut : laidOutB Try.prog = true := by kernel_rfl
theorem wf_u8 {a : Int} (h : (Lit.int .u8 a).wf = true) : ∃ n : Nat, a = n ∧ n < 256 := by
  simp only [Lit.wf, IntKind.min, IntKind.max, IntKind.signed, IntKind.bits, Bool.and_eq_true] at h
  simp at h
  exact ⟨a.toNat, by omega, by omega⟩

/-! ### the walk -/
set_option maxRecDepth 100000
theorem upd4_twice (L : Nat → R4) (f : Nat) (r s : R4) : upd4 (upd4 L f r) f s = upd4 L f s := by
  funext j
  unfold upd4
  split <;> rfl
theorem upd4_zero (f : Nat) : upd4 law0 f R4.zero = law0 := by
  funext j
  unfold upd4 law0
  split <;> rfl
theorem walk (p_frame : Nat) (hp_frame : p_frame < 256) (p_vm : Nat) (hp_vm : p_vm < 256) (p_page : Nat) (hp_page : p_page < 256) (p_n : Nat) (hp_n : p_n < 256) (w : World)  :
    Calls Try.prog 12 #[.int .u8 p_frame, .int .u8 p_vm, .int .u8 p_page, .int .u8 p_n] w fun e w' => e = .returned (.bool true) ∧ Below w.heap.size w w' := by
  have m6 : p_vm % 6 < 6 := Nat.mod_lt _ (by omega)
  have p32 : p_page % 32 < 32 := Nat.mod_lt _ (by omega)
  have k20 : p_n % 20 < 20 := Nat.mod_lt _ (by omega)
  have ea : ((p_vm : Int) % 6) = ((p_vm % 6 : Nat) : Int) := by omega
  have eb : ((p_page : Int) % 32) = ((p_page % 32 : Nat) : Int) := by omega
  have ep : ((p_n : Int) % 20) = ((p_n % 20 : Nat) : Int) := by omega
  generalize p_vm % 6 = v at *
  generalize p_page % 32 = pp at *
  generalize p_n % 20 = k at *
  have HN := Lib.hid (fun W => (show Calls Try.prog 21 #[.int .i64 256] W (Nw W 256 law0) from new_in 256 W))
  go_enter Try.func12, Try.ntmps12
  go_wp2_with fail
  refine (awake8_in _).mono ?_
  rintro e w1 ⟨rfl, b1⟩
  go_wp2_with fail
  refine (HN.out _).mono ?_
  intro e w2 h2
  obtain ⟨B, g, cap, rfl, q2⟩ := h2.own b1
  have O2 := Lib.hid q2
  have HD := Lib.hid (donate_yes q2.bk p_frame hp_frame rfl v pp (by omega) (by omega) (by omega) (by omega))
  clear h2 q2 b1 HN
  go_wp2_with fail
  refine (HD.out).mono ?_
  rintro e w3 ⟨rfl, h3⟩
  have O3 : Hid (Own w w3 B g cap 256 (upd4 law0 p_frame ⟨3, v, pp, (0 : Nat)⟩)) := Lib.hid ((O2.out).turn h3)
  clear h3 O2 HD
  go_wp2_with fail
  clear ea eb ep
  go_loopw [8, 13] (fun _ i wr => ∃ j : Nat, j ≤ k ∧ i = .int .i64 j ∧ Own w wr B g cap 256 (upd4 law0 p_frame ⟨3, v, pp, (j : Nat)⟩)) (fun _ i _ => k - (intOf i).toNat)
  case atStart => exact ⟨0, by omega, rfl, O3.out⟩
  case round =>
    clear O3
    obtain ⟨j, hj, rfl, hO⟩ := hrel
    have O4 := Lib.hid hO
    clear hO
    by_cases hlt : j < k
    · have hs := share_ok (O4.out).bk p_frame hp_frame v (by omega) (by omega) (by rw [upd4_same]) (by rw [upd4_same]) (by rw [upd4_same]; simp; omega)
      rw [upd4_twice, upd4_same] at hs
      have HS := Lib.hid hs
      have j1 : (j : Int) < (k : Int) := by omega
      clear hs
      go_wp2_with fail
      refine (HS.out).mono ?_
      rintro e w5 ⟨rfl, h5⟩
      have O5 := Lib.hid ((O4.out).turn h5)
      clear h5 HS O4
      go_wp2
      go_roundw
      case rel => exact ⟨j + 1, by omega, by go_num, O5.out⟩
      case measure => simp [intOf]; omega
    · obtain rfl : j = k := by omega
      have j1 : ¬ (j : Int) < (j : Int) := by omega
      go_wp2_with fail
      go_loopw [8, 14] (fun _ i wr => ∃ t : Nat, t ≤ j ∧ i = .int .i64 t ∧ Own w wr B g cap 256 (upd4 law0 p_frame ⟨3, v, pp, (t : Nat)⟩)) (fun _ i _ => (intOf i).toNat)
      case atStart => exact ⟨j, by omega, rfl, O4.out⟩
      case round =>
        clear O4
        obtain ⟨t, ht, rfl, hO⟩ := hrel
        have O6 := Lib.hid hO
        clear hO
        by_cases hlt2 : 0 < t
        · have HR := Lib.hid (reclaim_used (O6.out).bk p_frame hp_frame v (by omega) (by omega) (by rw [upd4_same]) (by rw [upd4_same]) (by rw [upd4_same]; simp; omega))
          have j2 : (0 : Int) < (t : Int) := by omega
          go_wp2_with fail
          refine (HR.out).mono ?_
          rintro e w7 ⟨rfl, b7⟩
          have O7 := Lib.hid ((O6.out).below b7)
          have hu := unshare_ok (O7.out).bk p_frame hp_frame v (by omega) (by omega) (by rw [upd4_same]) (by rw [upd4_same]) (by rw [upd4_same]; simp; omega)
          rw [upd4_twice, upd4_same] at hu
          have HU := Lib.hid hu
          clear hu b7 HR O6
          go_wp2_with fail
          refine (HU.out).mono ?_
          rintro e w8 ⟨rfl, h8⟩
          have O8 := Lib.hid ((O7.out).turn h8)
          clear h8 HU O7
          go_wp2
          go_roundw
          case rel => exact ⟨t - 1, by omega, by congr 1; omega, by rw [show ((t - 1 : Nat) : Int) = (t : Int) - 1 by omega]; exact O8.out⟩
          case measure => simp [intOf]; omega
        · obtain rfl : t = 0 := by omega
          have HU := Lib.hid (unshare_used (O6.out).bk p_frame hp_frame v (by omega) (by omega) (by rw [upd4_same]) (by rw [upd4_same]) (by rw [upd4_same]; rfl))
          go_wp2_with fail
          refine (HU.out).mono ?_
          rintro e w7 ⟨rfl, b7⟩
          have O7 := Lib.hid ((O6.out).below b7)
          have hr := reclaim_ok (O7.out).bk p_frame hp_frame v (by omega) (by omega) (by rw [upd4_same]) (by rw [upd4_same]) (by rw [upd4_same]; simp)
          rw [upd4_twice, upd4_zero] at hr
          have HR := Lib.hid hr
          clear hr b7 HU O6
          go_wp2_with fail
          refine (HR.out).mono ?_
          rintro e w8 ⟨rfl, h8⟩
          have O8 := Lib.hid ((O7.out).turn h8)
          have hc := count_in (O8.out).bk 0 0
          rw [cntR_zero] at hc
          have HC := Lib.hid hc
          clear h8 HR O7 hc
          go_wp2_with fail
          refine (HC.out).mono ?_
          rintro e w9 ⟨rfl, b9⟩
          have O9 := Lib.hid ((O8.out).below b9)
          clear b9 HC O8
          go_wp2
          go_ret
          exact ⟨rfl, (O9.out).bel⟩

/-! ### the row's step -/
set_option maxRecDepth 100000 in
theorem lifted (os : Os) (started : os.Started) (H : Type) (enc : TypeId × Value → H) :
    ReturnsInHanded {} Try.checked os 12 .any (Rows.ownerSharesSpec.pre6 enc Try.prog Try.f12 Rows.ownerSharesRow.domain false) (Rows.ownerSharesSpec.post enc Try.prog Try.f12 false true false false) := by
  refine returnsInHanded_of_change (C := Try.checked) own started (by kernel_rfl) Try.func12
    (ChangeSpec.witness6 (enc := enc) (C := Try.checked) false ⟨#[], #[.int .u8 0, .int .u8 0, .int .u8 0, .int .u8 0], []⟩ 8 (by kernel_rfl) (by kernel_rfl) (by kernel_rfl) (by kernel_rfl)) ?_
  intro W base args ds gs before hval0 hW hcnd _
  have hval : ∀ (j : Nat) t v, Try.f12.params[j]? = some t → args[j]? = some v → Value.okWide Try.prog W .any base t v := hval0
  have hW' := hW
  obtain ⟨p, q, hA0, hV, rfl, hfz, hnd⟩ := hW
  have hA : DataW.TrodAll enc Try.prog W 0 (fun _ => true) true Try.f12.params.toList args.toList ds p := hA0
  rw [Try.params12] at hA hval
  obtain ⟨v0, vs0, d0, ds0, p0, q0, hargs, rfl, rfl, h0, r0⟩ := trodAll_cons hA
  obtain ⟨v1, vs1, d1, ds1, p1, q1, rfl, rfl, rfl, h1, r1⟩ := trodAll_cons r0
  obtain ⟨v2, vs2, d2, ds2, p2, q2, rfl, rfl, rfl, h2, r2⟩ := trodAll_cons r1
  obtain ⟨v3, vs3, d3, ds3, p3, q3, rfl, rfl, rfl, h3, r3⟩ := trodAll_cons r2
  obtain ⟨rfl, rfl, rfl⟩ := trodAll_nil r3
  obtain rfl : args = #[v0, v1, v2, v3] := by cases args; simp_all
  obtain ⟨rfl, rfl⟩ := trodVars_none hV
  obtain ⟨a0, rfl, rfl, rfl, w0⟩ := open_int Try.underlying5 (hval 0 5 v0 rfl rfl) h0
  obtain ⟨n0, rfl, b0⟩ := wf_u8 w0
  obtain ⟨a1, rfl, rfl, rfl, w1⟩ := open_int Try.underlying5 (hval 1 5 v1 rfl rfl) h1
  obtain ⟨n1, rfl, b1⟩ := wf_u8 w1
  obtain ⟨a2, rfl, rfl, rfl, w2⟩ := open_int Try.underlying5 (hval 2 5 v2 rfl rfl) h2
  obtain ⟨n2, rfl, b2⟩ := wf_u8 w2
  obtain ⟨a3, rfl, rfl, rfl, w3⟩ := open_int Try.underlying5 (hval 3 5 v3 rfl rfl) h3
  obtain ⟨n3, rfl, b3⟩ := wf_u8 w3
  clear hA0 hval0
  refine (walk n0 b0 n1 b1 n2 b2 n3 b3 W ).mono fun e W' ⟨he, bel⟩ => ?_
  subst he
  exact ⟨_, rfl, _, _, _, [], _, [], hW', trodAll_mk1 (shut_bool Try.underlying4 _), (trodAll_cons_mk (shut_int Try.underlying5 w0) (trodAll_cons_mk (shut_int Try.underlying5 w1) (trodAll_cons_mk (shut_int Try.underlying5 w2) (trodAll_cons_mk (shut_int Try.underlying5 w3) trodAll_mk0)))), rfl, bel.frame _, fun h => by cases h⟩

theorem over : Rows.ownerSharesRow.holds Try.pinned (OpenSpec.ofChange Rows.ownerSharesSpec) :=
  OpenClaim.holds_of_wide 12 Try.f12 rfl rfl rfl rfl rfl rfl rfl ⟨rfl, rfl, rfl, rfl, rfl⟩ rfl rfl rfl rfl rfl (by kernel_rfl) Try.func12 (by kernel_rfl)
    (of_decide_eq_true (by kernel_rfl)) (by unfold Func.isWrapper; first | (rw [if_pos (by decide +kernel)]; kernel_rfl) | (rw [if_neg (by decide +kernel)]; exact ⟨rfl, rfl⟩))
    (fun os started H enc _ => lifted os started H enc)

/-- THE STATEMENT -/
theorem proved : Rows.OwnerSharesSaid := over
#print axioms proved
end Go.Proofs.Ytjidhmdphlmldaa.ownerShares
