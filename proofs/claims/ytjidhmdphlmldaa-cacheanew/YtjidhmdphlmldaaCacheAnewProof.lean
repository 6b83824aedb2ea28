/-
  PROVED: for every page, f and g the law CacheAnew returns true: a page that is put again is the newest, and as it was put last. No condition.
-/
import Derived.Test.YtjidhmdphlmldaaRows
import Derived.Test.YtjidhmdphlmldaaLT
import Derived.Test.YtjidhmdphlmldaaVA
import Derived.Test.YtjidhmdphlmldaaGN
import Derived.Test.YtjidhmdphlmldaaKA
import Derived.Test.YtjidhmdphlmldaaKB
import Derived.Test.YtjidhmdphlmldaaKC
import Derived.Test.YtjidhmdphlmldaaKD
import Derived.Test.YtjidhmdphlmldaaKE
import Derived.Test.YtjidhmdphlmldaaKF
import Derived.Test.YtjidhmdphlmldaaKG
import Derived.WalkKit
import Derived.ProofKit
import Derived.OpenShut
import Derived.ShutString
import Derived.ChangeOld
import Derived.Below
import Derived.Deep.CutBlock
import Derived.Deep.RegionHeld3
import Derived.Deep.Slices
import Derived.Deep.Fields
namespace Go.Proofs.Ytjidhmdphlmldaa.cacheAnew
open Go.Proofs.Ytjidhmdphlmldaa
open Go.ChangeShapes Go.WideShapes Go.ChangeAt Go.RowKit
open Go.ChangeMaps (open_string shut_string)
set_option linter.unusedVariables false
set_option maxRecDepth 100000

theorem own : ownKnob Try.prog.godebug = none := by kernel_rfl
theorem laidOut : laidOutB Try.prog = true := by kernel_rfl
theorem wf_u8 {a : Int} (h : (Lit.int .u8 a).wf = true) : ∃ n : Nat, a = n ∧ n < 256 := by
  simp only [Lit.wf, IntKind.min, IntKind.max, IntKind.signed, IntKind.bits, Bool.and_eq_true] at h
  simp at h
  exact ⟨a.toNat, by omega, by omega⟩
theorem wf_i64 {a : Int} (h : (Lit.int .i64 a).wf = true) : -9223372036854775808 ≤ a ∧ a ≤ 9223372036854775807 := by
  simp only [Lit.wf, IntKind.min, IntKind.max, IntKind.signed, IntKind.bits, Bool.and_eq_true, decide_eq_true_eq] at h
  simp at h
  omega

/-! ### the walk -/
set_option maxRecDepth 100000
def anA (f : Int) : Nat → List R5
  | 0 => []
  | k + 1 => putL 0 k true f false (anA f k)
def anB (f g : Int) (p : Nat) : Nat → List R5
  | 0 => putL 0 p true g true (anA f 8)
  | k + 1 => putL 1 k true f false (anB f g p k)
theorem an_end (f g : Int) (p : Nat) (hp : p < 8) : (anB f g p 7).find? (hitK 0 p) = some ⟨0, p, true, g, true⟩ ∧ (anB f g p 7).length = 8 := by
  have : p = 0 ∨ p = 1 ∨ p = 2 ∨ p = 3 ∨ p = 4 ∨ p = 5 ∨ p = 6 ∨ p = 7 := by omega
  rcases this with rfl | rfl | rfl | rfl | rfl | rfl | rfl | rfl <;> exact ⟨by kernel_rfl, by kernel_rfl⟩
theorem walk (p_page : Nat) (hp_page : p_page < 256) (p_f : Int) (hp_f : -9223372036854775808 ≤ p_f ∧ p_f ≤ 9223372036854775807) (p_g : Int) (hp_g : -9223372036854775808 ≤ p_g ∧ p_g ≤ 9223372036854775807) (w : World)  :
    Calls Try.prog 7 #[.int .u8 p_page, .int .i64 p_f, .int .i64 p_g] w fun e w' => e = .returned (.bool true) ∧ Below w.heap.size w w' := by
  have m8 : p_page % 8 < 8 := Nat.mod_lt _ (by omega)
  have ea : ((p_page : Int) % 8) = ((p_page % 8 : Nat) : Int) := by omega
  generalize p_page % 8 = p at *
  go_enter Try.func7, Try.ntmps7
  go_wp2_with fail
  refine (awake7_in _).mono ?_
  rintro e w1 ⟨rfl, b1⟩
  have H0 := Lib.hid (cw_new b1 27)
  clear b1
  go_wp2_with fail
  clear ea
  go_loopw [9] (fun i wr => ∃ k : Nat, k ≤ 8 ∧ i = .int .i64 k ∧ Cw w wr w1.heap.size (anA p_f k)) (fun i _ => 8 - (intOf i).toNat)
  case atStart => exact ⟨0, by omega, rfl, H0.out⟩
  case round =>
    clear H0
    obtain ⟨k, hk, rfl, hC⟩ := hrel
    by_cases hlt : k < 8
    · have k1 : (k : Int) < 8 := by omega
      have HP := Lib.hid (hC.put 0 k true p_f false)
      clear hC
      go_wp2_with fail
      refine (HP.out).mono ?_
      rintro e w2 ⟨rfl, h2⟩
      have H2 := Lib.hid h2
      clear h2
      go_wp2
      go_roundw
      case rel => exact ⟨k + 1, by omega, by go_num, H2.out⟩
      case measure => simp [intOf]; omega
    · obtain rfl : k = 8 := by omega
      have HP := Lib.hid (hC.put 0 p true p_g true)
      clear hC
      go_wp2_with fail
      refine (HP.out).mono ?_
      rintro e w2 ⟨rfl, h2⟩
      have H2 := Lib.hid h2
      clear h2 HP
      go_wp2_with fail
      go_loopw [10] (fun i wr => ∃ k : Nat, k ≤ 7 ∧ i = .int .i64 k ∧ Cw w wr w1.heap.size (anB p_f p_g p k)) (fun i _ => 7 - (intOf i).toNat)
      case atStart => exact ⟨0, by omega, rfl, H2.out⟩
      case round =>
        clear H2
        obtain ⟨k, hk, rfl, hC⟩ := hrel
        by_cases hlt : k < 7
        · have k1 : (k : Int) < 7 := by omega
          have HP := Lib.hid (hC.put 1 k true p_f false)
          clear hC
          go_wp2_with fail
          refine (HP.out).mono ?_
          rintro e w2 ⟨rfl, h2⟩
          have H2 := Lib.hid h2
          clear h2
          go_wp2
          go_roundw
          case rel => exact ⟨k + 1, by omega, by go_num, H2.out⟩
          case measure => simp [intOf]; omega
        · obtain rfl : k = 7 := by omega
          have HL := Lib.hid (hC.look 0 p (an_end p_f p_g p m8).1)
          simp only [lkA, lkE, Option.isSome] at HL
          clear hC
          go_wp2_with fail
          refine (HL.out).mono ?_
          rintro e w3 ⟨rfl, h3, _⟩
          have h4 := h3.below (below_new w3 (.cells #[.bool true, .int .i64 p_g, .bool true] 32))
          obtain ⟨x0, x1, x2, xl, xf⟩ := l3_new w3 (.bool true) (.int .i64 p_g) (.bool true) 32
          have hn := h4.len
          rw [(an_end p_f p_g p m8).2] at hn
          have HN := Lib.hid hn
          have HE := Lib.hid h4.be
          clear h3 h4 hn HL
          go_wp2_with (go_at_call 18; refine (HN.out).mono ?_; rintro e w6 ⟨rfl, rfl⟩)
          go_ret
          exact ⟨rfl, HE.out⟩

/-! ### the row's step -/
set_option maxRecDepth 100000 in
theorem lifted (os : Os) (started : os.Started) (H : Type) (enc : TypeId × Value → H) :
    ReturnsInHanded {} Try.checked os 7 .any (Rows.cacheAnewSpec.pre6 enc Try.prog Try.f7 Rows.cacheAnewRow.domain false) (Rows.cacheAnewSpec.post enc Try.prog Try.f7 false true false false) := by
  refine returnsInHanded_of_change (C := Try.checked) own started (by kernel_rfl) Try.func7
    (ChangeSpec.witness6 (enc := enc) (C := Try.checked) false ⟨#[], #[.int .u8 0, .int .i64 0, .int .i64 0], []⟩ 8 (by kernel_rfl) (by kernel_rfl) (by kernel_rfl) (by kernel_rfl)) ?_
  intro W base args ds gs before hval0 hW hcnd _
  have hval : ∀ (j : Nat) t v, Try.f7.params[j]? = some t → args[j]? = some v → Value.okWide Try.prog W .any base t v := hval0
  have hW' := hW
  obtain ⟨p, q, hA0, hV, rfl, hfz, hnd⟩ := hW
  have hA : DataW.TrodAll enc Try.prog W 0 (fun _ => true) true Try.f7.params.toList args.toList ds p := hA0
  rw [Try.params7] at hA hval
  obtain ⟨v0, vs0, d0, ds0, p0, q0, hargs, rfl, rfl, h0, r0⟩ := trodAll_cons hA
  obtain ⟨v1, vs1, d1, ds1, p1, q1, rfl, rfl, rfl, h1, r1⟩ := trodAll_cons r0
  obtain ⟨v2, vs2, d2, ds2, p2, q2, rfl, rfl, rfl, h2, r2⟩ := trodAll_cons r1
  obtain ⟨rfl, rfl, rfl⟩ := trodAll_nil r2
  obtain rfl : args = #[v0, v1, v2] := by cases args; simp_all
  obtain ⟨rfl, rfl⟩ := trodVars_none hV
  obtain ⟨a0, rfl, rfl, rfl, w0⟩ := open_int Try.underlying5 (hval 0 5 v0 rfl rfl) h0
  obtain ⟨n0, rfl, b0⟩ := wf_u8 w0
  obtain ⟨a1, rfl, rfl, rfl, w1⟩ := open_int Try.underlying3 (hval 1 3 v1 rfl rfl) h1
  have b1 := wf_i64 w1
  obtain ⟨a2, rfl, rfl, rfl, w2⟩ := open_int Try.underlying3 (hval 2 3 v2 rfl rfl) h2
  have b2 := wf_i64 w2
  clear hA0 hval0
  refine (walk n0 b0 a1 b1 a2 b2 W ).mono fun e W' ⟨he, bel⟩ => ?_
  subst he
  exact ⟨_, rfl, _, _, _, [], _, [], hW', trodAll_mk1 (shut_bool Try.underlying4 _), (trodAll_cons_mk (shut_int Try.underlying5 w0) (trodAll_cons_mk (shut_int Try.underlying3 w1) (trodAll_cons_mk (shut_int Try.underlying3 w2) trodAll_mk0))), rfl, bel.frame _, fun h => by cases h⟩

theorem over : Rows.cacheAnewRow.holds Try.pinned (OpenSpec.ofChange Rows.cacheAnewSpec) :=
  OpenClaim.holds_of_wide 7 Try.f7 rfl rfl rfl rfl rfl rfl rfl ⟨rfl, rfl, rfl, rfl, rfl⟩ rfl rfl rfl rfl rfl (by kernel_rfl) Try.func7 (by kernel_rfl)
    (of_decide_eq_true (by kernel_rfl)) (by unfold Func.isWrapper; first | (rw [if_pos (by decide +kernel)]; kernel_rfl) | (rw [if_neg (by decide +kernel)]; exact ⟨rfl, rfl⟩))
    (fun os started H enc _ => lifted os started H enc)

/-- THE STATEMENT -/
theorem proved : Rows.CacheAnewSaid := over
#print axioms proved
end Go.Proofs.Ytjidhmdphlmldaa.cacheAnew
