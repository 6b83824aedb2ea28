/-
  PROVED: for every a, b, c, d and f the law CacheNumbers returns true: any VMs' and pages' numbers are apart. No condition.
-/
import Derived.Test.YtjidhmdphlmldaaRows
import Derived.Test.YtjidhmdphlmldaaLT
import Derived.Test.YtjidhmdphlmldaaVA
import Derived.Test.YtjidhmdphlmldaaGN
import Derived.Test.YtjidhmdphlmldaaKA
import Derived.Test.YtjidhmdphlmldaaKB
import Derived.Test.YtjidhmdphlmldaaKC
import Derived.Test.YtjidhmdphlmldaaKD
import Derived.Test.YtjidhmdphlmldaaKE
import Derived.Test.YtjidhmdphlmldaaKF
import Derived.Test.YtjidhmdphlmldaaKG
import Derived.WalkKit
import Derived.ProofKit
import Derived.OpenShut
import Derived.ShutString
import Derived.ChangeOld
import Derived.Below
import Derived.Deep.CutBlock
import Derived.Deep.RegionHeld3
import Derived.Deep.Slices
import Derived.Deep.Fields
namespace Go.Proofs.Ytjidhmdphlmldaa.cacheNumbers
open Go.Proofs.Ytjidhmdphlmldaa
open Go.ChangeShapes Go.WideShapes Go.ChangeAt Go.RowKit
open Go.ChangeMaps (open_string shut_string)
set_option linter.unusedVariables false
set_option maxRecDepth 100000

theorem own : ownKnob Try.prog.godebug = none := by kernel_rfl
theorem laidOut : laidOutB Try.prog = true := by kernel_rfl
theorem wf_i64 {a : Int} (h : (Lit.int .i64 a).wf = true) : -9223372036854775808 ≤ a ∧ a ≤ 9223372036854775807 := by
  simp only [Lit.wf, IntKind.min, IntKind.max, IntKind.signed, IntKind.bits, Bool.and_eq_true, decide_eq_true_eq] at h
  simp at h
  omega

/-! ### the walk -/
set_option maxRecDepth 100000
theorem one_put (a b f : Int) : putL a b true f false [] = [⟨a, b, true, f, false⟩] := by simp [putL]
theorem one_find (a b f c d : Int) : [(⟨a, b, true, f, false⟩ : R5)].find? (hitK c d) = if a = c ∧ b = d then some ⟨a, b, true, f, false⟩ else none := by
  by_cases h : a = c ∧ b = d
  · rw [if_pos h]; simp [hitK, h]
  · rw [if_neg h]; simp [hitK]; simpa using h
theorem one_left (a b f c d : Int) : ([(⟨a, b, true, f, false⟩ : R5)].filter (fun r => !hitK c d r)).length = if a = c ∧ b = d then 0 else 1 := by
  by_cases h : a = c ∧ b = d
  · rw [if_pos h]; simp [hitK, h]
  · rw [if_neg h]
    have : hitK c d ⟨a, b, true, f, false⟩ = false := decide_eq_false h
    simp [this]
theorem drop3 {w wr : World} {C : Nat} {l : List R5} (h : Cw w wr C l) (a b c : Value) (t : TypeId) (vm pg : Int) :
    Calls Try.prog 14 #[.pointer (some ⟨C, 0, none⟩), .int .i64 vm, .int .i64 pg] (wr.alloc (.cells #[a, b, c] t)) fun e U => e = .returned (.tuple #[]) ∧ Cw w U C (l.filter (fun r => !hitK vm pg r)) ∧ L3 U wr.heap.size a b c := by
  obtain ⟨v, hv⟩ := h.ca
  have hb := below_new wr (.cells #[a, b, c] t)
  have h1 := h.below hb
  refine (drop_in (hv.below hb) vm pg).mono (fun e U hd => ⟨hd.1, h1.cd (hv.below hb) hd, ?_⟩)
  obtain ⟨_, v', _, ht⟩ := hd
  exact (l3_new wr a b c t).tc ht (by have := hv.lt; omega) (fun e => hv.far _ (Nat.le_refl _) e.symm)
theorem walk (p_a : Int) (hp_a : -9223372036854775808 ≤ p_a ∧ p_a ≤ 9223372036854775807) (p_b : Int) (hp_b : -9223372036854775808 ≤ p_b ∧ p_b ≤ 9223372036854775807) (p_c : Int) (hp_c : -9223372036854775808 ≤ p_c ∧ p_c ≤ 9223372036854775807) (p_d : Int) (hp_d : -9223372036854775808 ≤ p_d ∧ p_d ≤ 9223372036854775807) (p_f : Int) (hp_f : -9223372036854775808 ≤ p_f ∧ p_f ≤ 9223372036854775807) (w : World)  :
    Calls Try.prog 4 #[.int .i64 p_a, .int .i64 p_b, .int .i64 p_c, .int .i64 p_d, .int .i64 p_f] w fun e w' => e = .returned (.bool true) ∧ Below w.heap.size w w' := by
  have H0 := cw_new (Below.refl w.heap.size w) 27
  have hp := H0.put p_a p_b true p_f false
  rw [one_put] at hp
  have HP := Lib.hid hp
  clear H0 hp
  go_enter Try.func4, Try.ntmps4
  go_wp2_with fail
  refine (HP.out).mono ?_
  rintro e w1 ⟨rfl, h1⟩
  clear HP
  by_cases c1 : p_a = p_c
  · have s1 : (p_a == p_c) = true := by simpa using c1
    by_cases c2 : p_b = p_d
    · have s2 : (p_b == p_d) = true := by simpa using c2
      have hl := h1.look p_c p_d (one_find p_a p_b p_f p_c p_d)
      rw [if_pos ⟨c1, c2⟩] at hl
      have HL := Lib.hid hl
      simp only [lkA, lkE, Option.isSome] at HL
      have HF : Hid (([(⟨p_a, p_b, true, p_f, false⟩ : R5)].filter (fun r => !hitK p_c p_d r)).length = 0) := Lib.hid (by rw [one_left, if_pos ⟨c1, c2⟩])
      clear hl h1 c1 c2
      go_wp2_with fail
      refine (HL.out).mono ?_
      rintro e w2 ⟨rfl, h2, _⟩
      have HD := Lib.hid (drop3 h2 (.bool true) (.int .i64 p_f) (.bool false) 32 p_c p_d)
      clear h2 HL
      go_wp2_with fail
      refine (HD.out).mono ?_
      rintro e w3 ⟨rfl, h3, l3⟩
      have HX := Lib.hid l3
      have HC := Lib.hid h3
      clear h3 l3 HD
      go_wp2_with fail
      refine (awake7_in _).mono ?_
      rintro e w4 ⟨rfl, b4⟩
      obtain ⟨x0, x1, x2, xl, xf⟩ := (HX.out).later b4
      have h4 := (HC.out).below b4
      have hn := h4.len
      rw [HF.out] at hn
      have HN := Lib.hid hn
      have HE := Lib.hid h4.be
      clear h4 hn b4 HC HX
      go_wp2_with (go_at_call 18; refine (HN.out).mono ?_; rintro e w6 ⟨rfl, rfl⟩)
      go_ret
      exact ⟨rfl, HE.out⟩
    · have s2 : (p_b == p_d) = false := by simpa using c2
      by_cases z : p_f = 0
      · subst z
        have hl := h1.look p_c p_d (one_find p_a p_b 0 p_c p_d)
        rw [if_neg (fun h => c2 h.2)] at hl
        have HL := Lib.hid hl
        simp only [lkA, lkE, Option.isSome] at HL
        have HF : Hid (([(⟨p_a, p_b, true, 0, false⟩ : R5)].filter (fun r => !hitK p_c p_d r)).length = 1) := Lib.hid (by rw [one_left, if_neg (fun h => c2 h.2)])
        clear hl h1 c1 c2
        go_wp2_with fail
        refine (HL.out).mono ?_
        rintro e w2 ⟨rfl, h2, _⟩
        have HD := Lib.hid (drop3 h2 (.bool false) (.int .i64 0) (.bool false) 32 p_c p_d)
        clear h2 HL
        go_wp2_with fail
        refine (HD.out).mono ?_
        rintro e w3 ⟨rfl, h3, l3⟩
        have HX := Lib.hid l3
        have HC := Lib.hid h3
        clear h3 l3 HD
        go_wp2_with fail
        refine (awake7_in _).mono ?_
        rintro e w4 ⟨rfl, b4⟩
        obtain ⟨x0, x1, x2, xl, xf⟩ := (HX.out).later b4
        have h4 := (HC.out).below b4
        have hn := h4.len
        rw [HF.out] at hn
        have HN := Lib.hid hn
        have HE := Lib.hid h4.be
        clear h4 hn b4 HC HX
        go_wp2_with (go_at_call 18; refine (HN.out).mono ?_; rintro e w6 ⟨rfl, rfl⟩)
        go_ret
        exact ⟨rfl, HE.out⟩
      · have s3 : ((0 : Int) == p_f) = false := by simpa using fun h : 0 = p_f => z h.symm
        have hl := h1.look p_c p_d (one_find p_a p_b p_f p_c p_d)
        rw [if_neg (fun h => c2 h.2)] at hl
        have HL := Lib.hid hl
        simp only [lkA, lkE, Option.isSome] at HL
        have HF : Hid (([(⟨p_a, p_b, true, p_f, false⟩ : R5)].filter (fun r => !hitK p_c p_d r)).length = 1) := Lib.hid (by rw [one_left, if_neg (fun h => c2 h.2)])
        clear hl h1 c1 c2 z
        go_wp2_with fail
        refine (HL.out).mono ?_
        rintro e w2 ⟨rfl, h2, _⟩
        have HD := Lib.hid (drop3 h2 (.bool false) (.int .i64 0) (.bool false) 32 p_c p_d)
        clear h2 HL
        go_wp2_with fail
        refine (HD.out).mono ?_
        rintro e w3 ⟨rfl, h3, l3⟩
        have HX := Lib.hid l3
        have HC := Lib.hid h3
        clear h3 l3 HD
        go_wp2_with fail
        refine (awake7_in _).mono ?_
        rintro e w4 ⟨rfl, b4⟩
        obtain ⟨x0, x1, x2, xl, xf⟩ := (HX.out).later b4
        have h4 := (HC.out).below b4
        have hn := h4.len
        rw [HF.out] at hn
        have HN := Lib.hid hn
        have HE := Lib.hid h4.be
        clear h4 hn b4 HC HX
        go_wp2_with (go_at_call 18; refine (HN.out).mono ?_; rintro e w6 ⟨rfl, rfl⟩)
        go_ret
        exact ⟨rfl, HE.out⟩
  · have s1 : (p_a == p_c) = false := by simpa using c1
    by_cases z : p_f = 0
    · subst z
      have hl := h1.look p_c p_d (one_find p_a p_b 0 p_c p_d)
      rw [if_neg (fun h => c1 h.1)] at hl
      have HL := Lib.hid hl
      simp only [lkA, lkE, Option.isSome] at HL
      have HF : Hid (([(⟨p_a, p_b, true, 0, false⟩ : R5)].filter (fun r => !hitK p_c p_d r)).length = 1) := Lib.hid (by rw [one_left, if_neg (fun h => c1 h.1)])
      clear hl h1 c1
      go_wp2_with fail
      refine (HL.out).mono ?_
      rintro e w2 ⟨rfl, h2, _⟩
      have HD := Lib.hid (drop3 h2 (.bool false) (.int .i64 0) (.bool false) 32 p_c p_d)
      clear h2 HL
      go_wp2_with fail
      refine (HD.out).mono ?_
      rintro e w3 ⟨rfl, h3, l3⟩
      have HX := Lib.hid l3
      have HC := Lib.hid h3
      clear h3 l3 HD
      go_wp2_with fail
      refine (awake7_in _).mono ?_
      rintro e w4 ⟨rfl, b4⟩
      obtain ⟨x0, x1, x2, xl, xf⟩ := (HX.out).later b4
      have h4 := (HC.out).below b4
      have hn := h4.len
      rw [HF.out] at hn
      have HN := Lib.hid hn
      have HE := Lib.hid h4.be
      clear h4 hn b4 HC HX
      go_wp2_with (go_at_call 18; refine (HN.out).mono ?_; rintro e w6 ⟨rfl, rfl⟩)
      go_ret
      exact ⟨rfl, HE.out⟩
    · have s3 : ((0 : Int) == p_f) = false := by simpa using fun h : 0 = p_f => z h.symm
      have hl := h1.look p_c p_d (one_find p_a p_b p_f p_c p_d)
      rw [if_neg (fun h => c1 h.1)] at hl
      have HL := Lib.hid hl
      simp only [lkA, lkE, Option.isSome] at HL
      have HF : Hid (([(⟨p_a, p_b, true, p_f, false⟩ : R5)].filter (fun r => !hitK p_c p_d r)).length = 1) := Lib.hid (by rw [one_left, if_neg (fun h => c1 h.1)])
      clear hl h1 c1 z
      go_wp2_with fail
      refine (HL.out).mono ?_
      rintro e w2 ⟨rfl, h2, _⟩
      have HD := Lib.hid (drop3 h2 (.bool false) (.int .i64 0) (.bool false) 32 p_c p_d)
      clear h2 HL
      go_wp2_with fail
      refine (HD.out).mono ?_
      rintro e w3 ⟨rfl, h3, l3⟩
      have HX := Lib.hid l3
      have HC := Lib.hid h3
      clear h3 l3 HD
      go_wp2_with fail
      refine (awake7_in _).mono ?_
      rintro e w4 ⟨rfl, b4⟩
      obtain ⟨x0, x1, x2, xl, xf⟩ := (HX.out).later b4
      have h4 := (HC.out).below b4
      have hn := h4.len
      rw [HF.out] at hn
      have HN := Lib.hid hn
      have HE := Lib.hid h4.be
      clear h4 hn b4 HC HX
      go_wp2_with (go_at_call 18; refine (HN.out).mono ?_; rintro e w6 ⟨rfl, rfl⟩)
      go_ret
      exact ⟨rfl, HE.out⟩

/-! ### the row's step -/
set_option maxRecDepth 100000 in
theorem lifted (os : Os) (started : os.Started) (H : Type) (enc : TypeId × Value → H) :
    ReturnsInHanded {} Try.checked os 4 .any (Rows.cacheNumbersSpec.pre6 enc Try.prog Try.f4 Rows.cacheNumbersRow.domain false) (Rows.cacheNumbersSpec.post enc Try.prog Try.f4 false true false false) := by
  refine returnsInHanded_of_change (C := Try.checked) own started (by kernel_rfl) Try.func4
    (ChangeSpec.witness6 (enc := enc) (C := Try.checked) false ⟨#[], #[.int .i64 0, .int .i64 0, .int .i64 0, .int .i64 0, .int .i64 0], []⟩ 8 (by kernel_rfl) (by kernel_rfl) (by kernel_rfl) (by kernel_rfl)) ?_
  intro W base args ds gs before hval0 hW hcnd _
  have hval : ∀ (j : Nat) t v, Try.f4.params[j]? = some t → args[j]? = some v → Value.okWide Try.prog W .any base t v := hval0
  have hW' := hW
  obtain ⟨p, q, hA0, hV, rfl, hfz, hnd⟩ := hW
  have hA : DataW.TrodAll enc Try.prog W 0 (fun _ => true) true Try.f4.params.toList args.toList ds p := hA0
  rw [Try.params4] at hA hval
  obtain ⟨v0, vs0, d0, ds0, p0, q0, hargs, rfl, rfl, h0, r0⟩ := trodAll_cons hA
  obtain ⟨v1, vs1, d1, ds1, p1, q1, rfl, rfl, rfl, h1, r1⟩ := trodAll_cons r0
  obtain ⟨v2, vs2, d2, ds2, p2, q2, rfl, rfl, rfl, h2, r2⟩ := trodAll_cons r1
  obtain ⟨v3, vs3, d3, ds3, p3, q3, rfl, rfl, rfl, h3, r3⟩ := trodAll_cons r2
  obtain ⟨v4, vs4, d4, ds4, p4, q4, rfl, rfl, rfl, h4, r4⟩ := trodAll_cons r3
  obtain ⟨rfl, rfl, rfl⟩ := trodAll_nil r4
  obtain rfl : args = #[v0, v1, v2, v3, v4] := by cases args; simp_all
  obtain ⟨rfl, rfl⟩ := trodVars_none hV
  obtain ⟨a0, rfl, rfl, rfl, w0⟩ := open_int Try.underlying3 (hval 0 3 v0 rfl rfl) h0
  have b0 := wf_i64 w0
  obtain ⟨a1, rfl, rfl, rfl, w1⟩ := open_int Try.underlying3 (hval 1 3 v1 rfl rfl) h1
  have b1 := wf_i64 w1
  obtain ⟨a2, rfl, rfl, rfl, w2⟩ := open_int Try.underlying3 (hval 2 3 v2 rfl rfl) h2
  have b2 := wf_i64 w2
  obtain ⟨a3, rfl, rfl, rfl, w3⟩ := open_int Try.underlying3 (hval 3 3 v3 rfl rfl) h3
  have b3 := wf_i64 w3
  obtain ⟨a4, rfl, rfl, rfl, w4⟩ := open_int Try.underlying3 (hval 4 3 v4 rfl rfl) h4
  have b4 := wf_i64 w4
  clear hA0 hval0
  refine (walk a0 b0 a1 b1 a2 b2 a3 b3 a4 b4 W ).mono fun e W' ⟨he, bel⟩ => ?_
  subst he
  exact ⟨_, rfl, _, _, _, [], _, [], hW', trodAll_mk1 (shut_bool Try.underlying4 _), (trodAll_cons_mk (shut_int Try.underlying3 w0) (trodAll_cons_mk (shut_int Try.underlying3 w1) (trodAll_cons_mk (shut_int Try.underlying3 w2) (trodAll_cons_mk (shut_int Try.underlying3 w3) (trodAll_cons_mk (shut_int Try.underlying3 w4) trodAll_mk0))))), rfl, bel.frame _, fun h => by cases h⟩

theorem over : Rows.cacheNumbersRow.holds Try.pinned (OpenSpec.ofChange Rows.cacheNumbersSpec) :=
  OpenClaim.holds_of_wide 4 Try.f4 rfl rfl rfl rfl rfl rfl rfl ⟨rfl, rfl, rfl, rfl, rfl⟩ rfl rfl rfl rfl rfl (by kernel_rfl) Try.func4 (by kernel_rfl)
    (of_decide_eq_true (by kernel_rfl)) (by unfold Func.isWrapper; first | (rw [if_pos (by decide +kernel)]; kernel_rfl) | (rw [if_neg (by decide +kernel)]; exact ⟨rfl, rfl⟩))
    (fun os started H enc _ => lifted os started H enc)

/-- THE STATEMENT -/
theorem proved : Rows.CacheNumbersSaid := over
#print axioms proved
end Go.Proofs.Ytjidhmdphlmldaa.cacheNumbers
