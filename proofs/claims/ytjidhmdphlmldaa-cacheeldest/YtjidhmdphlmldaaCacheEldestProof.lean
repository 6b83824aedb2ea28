/-
  PROVED: for every n and look the law CacheEldest returns true: of more than there is room for the ones that were put first are gone; a look makes none newer. No condition.
-/
import Derived.Test.YtjidhmdphlmldaaRows
import Derived.Test.YtjidhmdphlmldaaLT
import Derived.Test.YtjidhmdphlmldaaVA
import Derived.Test.YtjidhmdphlmldaaGN
import Derived.Test.YtjidhmdphlmldaaKA
import Derived.Test.YtjidhmdphlmldaaKB
import Derived.Test.YtjidhmdphlmldaaKC
import Derived.Test.YtjidhmdphlmldaaKD
import Derived.Test.YtjidhmdphlmldaaKE
import Derived.Test.YtjidhmdphlmldaaKF
import Derived.Test.YtjidhmdphlmldaaKG
import Derived.WalkKit
import Derived.ProofKit
import Derived.OpenShut
import Derived.ShutString
import Derived.ChangeOld
import Derived.Below
import Derived.Deep.CutBlock
import Derived.Deep.RegionHeld3
import Derived.Deep.Slices
import Derived.Deep.Fields
namespace Go.Proofs.Ytjidhmdphlmldaa.cacheEldest
open Go.Proofs.Ytjidhmdphlmldaa
open Go.ChangeShapes Go.WideShapes Go.ChangeAt Go.RowKit
open Go.ChangeMaps (open_string shut_string)
set_option linter.unusedVariables false
set_option maxRecDepth 100000

theorem own : ownKnob Try.prog.godebug = none := by kernel_rfl
theorem laidOut : laidOutB Try.prog = true := by kernel_rfl
theorem wf_u8 {a : Int} (h : (Lit.int .u8 a).wf = true) : ∃ n : Nat, a = n ∧ n < 256 := by
  simp only [Lit.wf, IntKind.min, IntKind.max, IntKind.signed, IntKind.bits, Bool.and_eq_true] at h
  simp at h
  exact ⟨a.toNat, by omega, by omega⟩

/-! ### the walk -/
set_option maxRecDepth 100000
def elR (i : Nat) : R5 := ⟨((i % 3 : Nat) : Int), (i : Nat), true, (i : Nat), false⟩
def elL : Nat → List R5
  | 0 => []
  | k + 1 => putL ((k % 3 : Nat) : Int) k true k false (elL k)
theorem el_eq : ∀ k : Nat, elL k = (List.range' (k - 8) (min k 8)).map elR
  | 0 => rfl
  | k + 1 => by
    show putL ((k % 3 : Nat) : Int) k true k false (elL k) = _
    rw [el_eq k]
    have hf : ((List.range' (k - 8) (min k 8)).map elR).filter (fun r => !hitK ((k % 3 : Nat) : Int) k r) = (List.range' (k - 8) (min k 8)).map elR := by
      apply List.filter_eq_self.2
      intro r hr
      obtain ⟨i, hi, rfl⟩ := List.mem_map.1 hr
      rw [List.mem_range'_1] at hi
      have : hitK ((k % 3 : Nat) : Int) k (elR i) = false := decide_eq_false (fun h => by
        have h2 : ((i : Nat) : Int) = (k : Nat) := h.2
        omega)
      rw [this]; rfl
    unfold putL
    rw [hf]
    have hr : (⟨((k % 3 : Nat) : Int), (k : Nat), true, (k : Nat), false⟩ : R5) = elR k := rfl
    rw [hr]
    have h1 : [elR k] = [k].map elR := rfl
    by_cases h8 : 8 ≤ k
    · rw [if_pos (by simp; omega), ← List.map_drop, h1, ← List.map_append]
      congr 1
      rw [show min k 8 = 8 by omega, show min (k + 1) 8 = 8 by omega, show k + 1 - 8 = k - 8 + 1 by omega]
      show (List.range' (k - 8) (7 + 1)).drop 1 ++ [k] = List.range' (k - 8 + 1) (7 + 1)
      have e7 : List.range' (k - 8 + 1) (7 + 1) = List.range' (k - 8 + 1) 7 ++ [k - 8 + 1 + 1 * 7] := List.range'_concat
      rw [e7, List.range'_succ, show k - 8 + 1 + 1 * 7 = k by omega]
      rfl
    · rw [if_neg (by simp; omega), h1, ← List.map_append]
      congr 1
      rw [show min k 8 = k by omega, show min (k + 1) 8 = k + 1 by omega, show k + 1 - 8 = 0 by omega, show k - 8 = 0 by omega, List.range'_concat]
      simp
theorem el_len (k : Nat) : (elL k).length = min k 8 := by rw [el_eq]; simp
theorem el_find (k i : Nat) (hi : i < k) : (elL k).find? (hitK ((i % 3 : Nat) : Int) i) = if k - 8 ≤ i then some (elR i) else none := by
  rw [el_eq]
  have hh : ∀ j, hitK ((i % 3 : Nat) : Int) i (elR j) = decide (j = i) := by
    intro j
    unfold hitK elR
    by_cases e : j = i
    · subst e; simp
    · rw [decide_eq_false e]
      exact decide_eq_false (fun h => e (by have h2 : ((j : Nat) : Int) = (i : Nat) := h.2; omega))
  by_cases h : k - 8 ≤ i
  · rw [if_pos h]
    cases hf : ((List.range' (k - 8) (min k 8)).map elR).find? (hitK ((i % 3 : Nat) : Int) i) with
    | none =>
      have := List.find?_eq_none.1 hf (elR i) (List.mem_map.2 ⟨i, by rw [List.mem_range'_1]; omega, rfl⟩)
      rw [hh] at this
      simp at this
    | some r =>
      have h1 := List.find?_some hf
      obtain ⟨j, _, rfl⟩ := List.mem_map.1 (List.mem_of_find?_eq_some hf)
      rw [hh] at h1
      rw [of_decide_eq_true h1]
  · rw [if_neg h]
    apply List.find?_eq_none.2
    intro r hr
    obtain ⟨j, hj, rfl⟩ := List.mem_map.1 hr
    rw [List.mem_range'_1] at hj
    rw [hh]
    simp
    omega
theorem look_any {w wr : World} {C : Nat} {l : List R5} (h : Cw w wr C l) (vm pg : Int) :
    Calls Try.prog 19 #[.pointer (some ⟨C, 0, none⟩), .int .i64 vm, .int .i64 pg] wr fun e U => ∃ z, e = .returned z ∧ Cw w U C l :=
  (h.look vm pg rfl).mono (fun _ _ hd => ⟨_, hd.1, hd.2.1⟩)
set_option maxHeartbeats 1000000 in
theorem walk (p_n : Nat) (hp_n : p_n < 256) (p_look : Nat) (hp_look : p_look < 256) (w : World)  :
    Calls Try.prog 6 #[.int .u8 p_n, .int .u8 p_look] w fun e w' => e = .returned (.bool true) ∧ Below w.heap.size w w' := by
  have m30 : p_n % 30 < 30 := Nat.mod_lt _ (by omega)
  have ea : ((p_n : Int) % 30) = ((p_n % 30 : Nat) : Int) := by omega
  generalize p_n % 30 = n at *
  have eb : ((p_look : Int) % 3) = ((p_look % 3 : Nat) : Int) := by omega
  have ec : ((p_look : Int) % 30) = ((p_look % 30 : Nat) : Int) := by omega
  have mb : p_look % 3 < 3 := Nat.mod_lt _ (by omega)
  have mc : p_look % 30 < 30 := Nat.mod_lt _ (by omega)
  generalize p_look % 3 = lv at *
  generalize p_look % 30 = lp at *
  go_enter Try.func6, Try.ntmps6
  go_wp2_with fail
  refine (awake7_in _).mono ?_
  rintro e w1 ⟨rfl, b1⟩
  have H0 := Lib.hid (cw_new b1 27)
  clear b1
  go_wp2_with fail
  have HBC := Lib.hid (And.intro eb ec)
  clear ea eb ec
  go_loopw [7] (fun i wr => ∃ k : Nat, k ≤ n ∧ i = .int .i64 k ∧ Cw w wr w1.heap.size (elL k)) (fun i _ => n - (intOf i).toNat)
  case atStart => exact ⟨0, by omega, rfl, H0.out⟩
  case round =>
    clear H0
    obtain ⟨k, hk, rfl, hC⟩ := hrel
    by_cases hlt : k < n
    · have k1 : (k : Int) < (n : Int) := by omega
      have e3 : ((k : Int).tmod 3) = ((k % 3 : Nat) : Int) := (Int.ofNat_tmod k 3).symm
      have e4 : ((k : Int) % 3) = ((k % 3 : Nat) : Int) := by omega
      have HP := Lib.hid (hC.put ((k % 3 : Nat) : Int) k true k false)
      obtain ⟨eb, ec⟩ := HBC.out
      have k3 : k % 3 < 3 := Nat.mod_lt _ (by omega)
      generalize hk3 : k % 3 = q at *
      clear hC
      go_wp2_with fail
      refine (HP.out).mono ?_
      rintro e w2 ⟨rfl, h2⟩
      have HL := Lib.hid (look_any h2 lv lp)
      clear h2 HP
      go_wp2_with fail
      refine (HL.out).mono ?_
      rintro e w3 ⟨z, rfl, h3⟩
      subst hk3
      have H3 := Lib.hid h3
      clear h3 HL
      go_wp2
      go_roundw
      case rel => exact ⟨k + 1, by omega, by go_num, H3.out⟩
      case measure => simp [intOf]; omega
    · obtain rfl : k = n := by omega
      have H3 := Lib.hid hC
      clear hC
      go_wp2_with fail
      go_loopw [4, 8, 9, 10] (fun _ i _ _ wr => ∃ j : Nat, j ≤ k ∧ i = .int .i64 j ∧ Cw w wr w1.heap.size (elL k)) (fun _ i _ _ _ => k - (intOf i).toNat)
      case atStart => exact ⟨0, by omega, rfl, H3.out⟩
      case round =>
        clear H3
        obtain ⟨j, hj, rfl, hC⟩ := hrel
        by_cases hlt : j < k
        · have j1 : (j : Int) < (k : Int) := by omega
          have e3 : ((j : Int).tmod 3) = ((j % 3 : Nat) : Int) := (Int.ofNat_tmod j 3).symm
          have e4 : ((j : Int) % 3) = ((j % 3 : Nat) : Int) := by omega
          by_cases h8 : k - 8 ≤ j
          · have hl := hC.look ((j % 3 : Nat) : Int) j (el_find k j hlt)
            rw [if_pos h8] at hl
            have HL := Lib.hid hl
            simp only [lkA, lkE, Option.isSome, elR] at HL
            have k3 : j % 3 < 3 := Nat.mod_lt _ (by omega)
            have z1 : (k : Int) - 8 ≤ (j : Int) := by omega
            have z2 : -9223372036854775808 ≤ (k : Int) - 8 ∧ (k : Int) - 8 ≤ 9223372036854775807 := by omega
            generalize j % 3 = q at *
            clear hC hl h8
            go_wp2_with fail
            refine (HL.out).mono ?_
            rintro e w4 ⟨rfl, h4, _⟩
            have h5 := h4.below (below_new w4 (.cells #[.bool true, .int .i64 j, .bool false] 32))
            obtain ⟨x0, x1, x2, xl, xf⟩ := l3_new w4 (.bool true) (.int .i64 j) (.bool false) 32
            have H5 := Lib.hid h5
            clear h4 h5 HL
            go_wp2
            go_roundw
            case rel => exact ⟨j + 1, by omega, by go_num, H5.out⟩
            case measure => simp [intOf]; omega
          · have hl := hC.look ((j % 3 : Nat) : Int) j (el_find k j hlt)
            rw [if_neg h8] at hl
            have HL := Lib.hid hl
            simp only [lkA, lkE, Option.isSome] at HL
            have k3 : j % 3 < 3 := Nat.mod_lt _ (by omega)
            have z1 : ¬ (k : Int) - 8 ≤ (j : Int) := by omega
            have z2 : -9223372036854775808 ≤ (k : Int) - 8 ∧ (k : Int) - 8 ≤ 9223372036854775807 := by omega
            generalize j % 3 = q at *
            clear hC hl h8
            go_wp2_with fail
            refine (HL.out).mono ?_
            rintro e w4 ⟨rfl, h4, _⟩
            have h5 := h4.below (below_new w4 (.cells #[.bool false, .int .i64 0, .bool false] 32))
            obtain ⟨x0, x1, x2, xl, xf⟩ := l3_new w4 (.bool false) (.int .i64 0) (.bool false) 32
            have H5 := Lib.hid h5
            clear h4 h5 HL
            go_wp2
            go_roundw
            case rel => exact ⟨j + 1, by omega, by go_num, H5.out⟩
            case measure => simp [intOf]; omega
        · obtain rfl : j = k := by omega
          have hn := hC.len
          rw [el_len] at hn
          have HE := Lib.hid hC.be
          by_cases h8 : j ≤ 8
          · rw [Nat.min_eq_left h8] at hn
            have HN := Lib.hid hn
            have z1 : (j : Int) ≤ 8 := by omega
            have z2 : ¬ (8 : Int) < (j : Int) := by omega
            have z3 : min (j : Int) 8 = j := by omega
            clear hC hn h8
            go_wp2_with fail
            refine (HN.out).mono ?_
            rintro e w6 ⟨rfl, rfl⟩
            go_wp2
            go_ret
            exact ⟨rfl, HE.out⟩
          · rw [Nat.min_eq_right (by omega)] at hn
            have HN := Lib.hid hn
            have z1 : ¬ (j : Int) ≤ 8 := by omega
            have z2 : (8 : Int) < (j : Int) := by omega
            have z3 : min (j : Int) 8 = 8 := by omega
            clear hC hn h8
            go_wp2_with fail
            refine (HN.out).mono ?_
            rintro e w6 ⟨rfl, rfl⟩
            go_wp2
            go_ret
            exact ⟨rfl, HE.out⟩

/-! ### the row's step -/
set_option maxRecDepth 100000 in
theorem lifted (os : Os) (started : os.Started) (H : Type) (enc : TypeId × Value → H) :
    ReturnsInHanded {} Try.checked os 6 .any (Rows.cacheEldestSpec.pre6 enc Try.prog Try.f6 Rows.cacheEldestRow.domain false) (Rows.cacheEldestSpec.post enc Try.prog Try.f6 false true false false) := by
  refine returnsInHanded_of_change (C := Try.checked) own started (by kernel_rfl) Try.func6
    (ChangeSpec.witness6 (enc := enc) (C := Try.checked) false ⟨#[], #[.int .u8 0, .int .u8 0], []⟩ 8 (by kernel_rfl) (by kernel_rfl) (by kernel_rfl) (by kernel_rfl)) ?_
  intro W base args ds gs before hval0 hW hcnd _
  have hval : ∀ (j : Nat) t v, Try.f6.params[j]? = some t → args[j]? = some v → Value.okWide Try.prog W .any base t v := hval0
  have hW' := hW
  obtain ⟨p, q, hA0, hV, rfl, hfz, hnd⟩ := hW
  have hA : DataW.TrodAll enc Try.prog W 0 (fun _ => true) true Try.f6.params.toList args.toList ds p := hA0
  rw [Try.params6] at hA hval
  obtain ⟨v0, vs0, d0, ds0, p0, q0, hargs, rfl, rfl, h0, r0⟩ := trodAll_cons hA
  obtain ⟨v1, vs1, d1, ds1, p1, q1, rfl, rfl, rfl, h1, r1⟩ := trodAll_cons r0
  obtain ⟨rfl, rfl, rfl⟩ := trodAll_nil r1
  obtain rfl : args = #[v0, v1] := by cases args; simp_all
  obtain ⟨rfl, rfl⟩ := trodVars_none hV
  obtain ⟨a0, rfl, rfl, rfl, w0⟩ := open_int Try.underlying5 (hval 0 5 v0 rfl rfl) h0
  obtain ⟨n0, rfl, b0⟩ := wf_u8 w0
  obtain ⟨a1, rfl, rfl, rfl, w1⟩ := open_int Try.underlying5 (hval 1 5 v1 rfl rfl) h1
  obtain ⟨n1, rfl, b1⟩ := wf_u8 w1
  clear hA0 hval0
  refine (walk n0 b0 n1 b1 W ).mono fun e W' ⟨he, bel⟩ => ?_
  subst he
  exact ⟨_, rfl, _, _, _, [], _, [], hW', trodAll_mk1 (shut_bool Try.underlying4 _), (trodAll_cons_mk (shut_int Try.underlying5 w0) (trodAll_cons_mk (shut_int Try.underlying5 w1) trodAll_mk0)), rfl, bel.frame _, fun h => by cases h⟩

theorem over : Rows.cacheEldestRow.holds Try.pinned (OpenSpec.ofChange Rows.cacheEldestSpec) :=
  OpenClaim.holds_of_wide 6 Try.f6 rfl rfl rfl rfl rfl rfl rfl ⟨rfl, rfl, rfl, rfl, rfl⟩ rfl rfl rfl rfl rfl (by kernel_rfl) Try.func6 (by kernel_rfl)
    (of_decide_eq_true (by kernel_rfl)) (by unfold Func.isWrapper; first | (rw [if_pos (by decide +kernel)]; kernel_rfl) | (rw [if_neg (by decide +kernel)]; exact ⟨rfl, rfl⟩))
    (fun os started H enc _ => lifted os started H enc)

/-- THE STATEMENT -/
theorem proved : Rows.CacheEldestSaid := over
#print axioms proved
end Go.Proofs.Ytjidhmdphlmldaa.cacheEldest
