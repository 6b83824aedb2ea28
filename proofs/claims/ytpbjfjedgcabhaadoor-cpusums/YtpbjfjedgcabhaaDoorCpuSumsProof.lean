/-
  PROVED: for every number of rounds and every first number the law CpuSums returns true: a program that adds up numbers makes so many steps, all but the last done, comes to that sum and waits; and the arguments read as they did. Condition (tied to the program's text by the card): math/bits' table deBruijn64tab reads as its initialiser lays it.
-/
import Derived.Test.YtpbjfjedgcabhaaDoorRows
import Derived.Test.YtpbjfjedgcabhaaDoorLT
import Derived.Test.YtpbjfjedgcabhaaDoorLA
import Derived.Test.YtpbjfjedgcabhaaDoorWM
import Derived.Test.YtpbjfjedgcabhaaDoorWC
import Derived.Test.YtpbjfjedgcabhaaDoorWB
import Derived.Test.YtpbjfjedgcabhaaDoorVA
import Derived.Test.YtpbjfjedgcabhaaDoorGP
import Derived.Test.YtpbjfjedgcabhaaDoorSM
import Derived.Test.YtpbjfjedgcabhaaDoorRQ
import Derived.Test.YtpbjfjedgcabhaaDoorYA
import Derived.Test.YtpbjfjedgcabhaaDoorLB
import Derived.Test.YtpbjfjedgcabhaaDoorYF
import Derived.Test.YtpbjfjedgcabhaaDoorCM
import Derived.Test.YtpbjfjedgcabhaaDoorCC
import Derived.Test.YtpbjfjedgcabhaaDoorCD
import Derived.Test.YtpbjfjedgcabhaaDoorCE
import Derived.Test.YtpbjfjedgcabhaaDoorCR
import Derived.Test.YtpbjfjedgcabhaaDoorZA
import Derived.Test.YtpbjfjedgcabhaaDoorZB
import Derived.Test.YtpbjfjedgcabhaaDoorZR
import Derived.Test.YtpbjfjedgcabhaaDoorZC
import Derived.Test.YtpbjfjedgcabhaaDoorZD
import Derived.Test.YtpbjfjedgcabhaaDoorZE
import Derived.Test.YtpbjfjedgcabhaaDoorZF
import Derived.Test.YtpbjfjedgcabhaaDoorZG
import Derived.Test.YtpbjfjedgcabhaaDoorZH
import Derived.Test.YtpbjfjedgcabhaaDoorZI
import Derived.Test.YtpbjfjedgcabhaaDoorZJ
import Derived.Test.YtpbjfjedgcabhaaDoorZK
import Derived.Test.YtpbjfjedgcabhaaDoorZL
import Derived.Test.YtpbjfjedgcabhaaDoorZM
import Derived.Test.YtpbjfjedgcabhaaDoorZN
import Derived.Test.YtpbjfjedgcabhaaDoorZO
import Derived.Test.YtpbjfjedgcabhaaDoorZS
import Derived.Test.YtpbjfjedgcabhaaDoorZT
import Derived.WalkKit
import Derived.ProofKit
import Derived.OpenShut
import Derived.ShutString
import Derived.ChangeOld
import Derived.Below
import Derived.Deep.CutBlock
import Derived.Deep.RegionHeld3
import Derived.Deep.Slices
import Derived.Deep.Fields
import Derived.Test.YtpbjfjedgcabhaaDoorCards
import Derived.Test.YtpbjfjedgcabhaaDoorTie
import Derived.Deep.DeepHandedRow
import Derived.Deep.DeepWitnessRowRef
import Derived.LaidMore
import Derived.Stop.Joined
import Derived.SevenTiedAt
namespace Go.Proofs.YtpbjfjedgcabhaaDoor.cpuSums
open Go.Proofs.YtpbjfjedgcabhaaDoor Go.Proofs.YtpbjfjedgcabhaaDoor.WM Go.Proofs.YtpbjfjedgcabhaaDoor.CM
open Go.ChangeShapes Go.WideShapes Go.ChangeAt Go.RowKit
open Go.ChangeMaps (open_string shut_string)
set_option linter.unusedVariables false
set_option maxRecDepth 100000

theorem own : ownKnob Tryd.prog.godebug = none := by kernel_rfl
theorem laidOut : laidOutB Tryd.prog = true := by kernel_rfl
theorem wf_u8 {a : Int} (h : (Lit.int .u8 a).wf = true) : ∃ n : Nat, a = n ∧ n < 256 := by
  simp only [Lit.wf, IntKind.min, IntKind.max, IntKind.signed, IntKind.bits, Bool.and_eq_true] at h
  simp at h
  exact ⟨a.toNat, by omega, by omega⟩
theorem wf_i16 {a : Int} (h : (Lit.int .i16 a).wf = true) : -32768 ≤ a ∧ a ≤ 32767 := by
  simp only [Lit.wf, IntKind.min, IntKind.max, IntKind.signed, IntKind.bits, Bool.and_eq_true, decide_eq_true_eq] at h
  simp at h
  omega

/-! ### the walk -/
set_option maxRecDepth 100000
theorem walk (p_n : Nat) (hp_n : p_n < 256) (p_from : Int) (hp_from : -32768 ≤ p_from ∧ p_from ≤ 32767) (w : World)  (hT : TW w) :
    Calls Tryd.prog 8 #[.int .u8 p_n, .int .i16 p_from] w fun e w' => e = .returned (.bool true) ∧ Below w.heap.size w w' := by
  exact cpuSums_core p_n p_from hp_n hp_from w hT

/-! ### the row's step -/
set_option maxRecDepth 100000 in
theorem contract (H : Type) (enc : TypeId × Value → H) (W : World) (base : Nat) (args : Array Value) (ds gs : List (DataW H)) (before : List MemPlace)
    (hval0 : ∀ (j : Nat) t v, Tryd.f8.params[j]? = some t → args[j]? = some v → Value.okWide Tryd.prog W .any base t v)
    (hW : DataW.Whole enc Tryd.prog Tryd.f8.params.toList Rows.cpuSumsSpec.vars false W args.toList ds gs before) (hT : TW W) :
    Calls Tryd.prog 8 args W fun e W' => ∃ v, e = .returned v ∧ Rows.cpuSumsSpec.post enc Tryd.prog Tryd.f8 false true false false W args v W' := by
  have hval : ∀ (j : Nat) t v, Tryd.f8.params[j]? = some t → args[j]? = some v → Value.okWide Tryd.prog W .any base t v := hval0
  have hW' := hW
  obtain ⟨p, q, hA0, hV, rfl, hfz, hnd⟩ := hW
  have hA : DataW.TrodAll enc Tryd.prog W 0 (fun _ => true) true Tryd.f8.params.toList args.toList ds p := hA0
  rw [Tryd.params8] at hA hval
  obtain ⟨v0, vs0, d0, ds0, p0, q0, hargs, rfl, rfl, h0, r0⟩ := trodAll_cons hA
  obtain ⟨v1, vs1, d1, ds1, p1, q1, rfl, rfl, rfl, h1, r1⟩ := trodAll_cons r0
  obtain ⟨rfl, rfl, rfl⟩ := trodAll_nil r1
  obtain rfl : args = #[v0, v1] := by cases args; simp_all
  obtain ⟨rfl, rfl⟩ := trodVars_none hV
  obtain ⟨a0, rfl, rfl, rfl, w0⟩ := open_int Tryd.underlying5 (hval 0 5 v0 rfl rfl) h0
  obtain ⟨n0, rfl, b0⟩ := wf_u8 w0
  obtain ⟨a1, rfl, rfl, rfl, w1⟩ := open_int Tryd.underlying27 (hval 1 27 v1 rfl rfl) h1
  have b1 := wf_i16 w1
  clear hA0 hval0
  refine (walk n0 b0 a1 b1 W  hT).mono fun e W' ⟨he, bel⟩ => ?_
  subst he
  exact ⟨_, rfl, _, _, _, [], _, [], hW', trodAll_mk1 (shut_bool Tryd.underlying4 _), (trodAll_cons_mk (shut_int Tryd.underlying5 w0) (trodAll_cons_mk (shut_int Tryd.underlying27 w1) trodAll_mk0)), rfl, bel.frame _, fun h => by cases h⟩

theorem laid_met (os : Os) : laidMet Tryd.prog Rows.cpuSumsRow.laid ((World.doorLaid Tryd.prog 400 os).forCall (fun _ _ => 0) ⟨#[], #[.int .u8 0, .int .i16 0], []⟩).memory :=
  laidMet_of_run' 8 (by kernel_rfl) (by kernel_rfl)
theorem reads (os : Os) {H : Type} (enc : TypeId × Value → H) : ∃ places, DataW.whole enc Tryd.prog ((World.doorLaid Tryd.prog 400 os).forCall (fun _ _ => 0) ⟨#[], #[.int .u8 0, .int .i16 0], []⟩).memory Tryd.f8.params.toList Rows.cpuSumsSpec.vars false #[Value.int .u8 0, .int .i16 0].toList 8 = some ([.lit (.int .u8 0), .lit (.int .i16 0)], [], places) :=
  ⟨[], by kernel_rfl⟩
set_option maxRecDepth 100000 in
theorem lifted (os : Os) (started : os.Started) (H : Type) (enc : TypeId × Value → H) (F : Stop.Interp) :
    ReturnsInHanded {} Tryd.checked os 8 .any ((OpenSpec.ofChange Rows.cpuSumsSpec).preRow enc Tryd.prog Tryd.f8 Rows.cpuSumsRow.domain false Rows.cpuSumsRow.laid) (((OpenSpec.ofChange Rows.cpuSumsSpec).at F).post enc Tryd.prog Tryd.f8 false true false false) := by
  obtain ⟨places, hx⟩ := reads os enc
  refine returnsInHanded_of_row (C := Tryd.checked) (s := OpenSpec.ofChange Rows.cpuSumsSpec) own started (by kernel_rfl) Tryd.func8
    (witness_row_atRef (enc := enc) (C := Tryd.checked) false (World.doorLaid Tryd.prog 400 os) #[.int .u8 0, .int .i16 0] rfl (by kernel_rfl) (by kernel_rfl) (by kernel_rfl)
      (OpenSpec.preRow_of_cond 8 hx (by kernel_rfl) (fun k hk => by cases hk) (by kernel_rfl) (laid_met os))) ?_
  intro W base args ds gs before hval hW _ _ _ hL hS _
  exact contract H enc W base args ds gs before hval hW (tw_of hL hS)
theorem said : Rows.CpuSumsSaid :=
  OpenClaim.holds_of_cond 8 Tryd.f8 rfl rfl rfl rfl rfl rfl rfl ⟨rfl, rfl, rfl, rfl, rfl⟩ rfl rfl rfl rfl rfl (by kernel_rfl) Tryd.func8 (by kernel_rfl)
    (of_decide_eq_true (by kernel_rfl)) (by unfold Func.isWrapper; first | (rw [if_pos (by decide +kernel)]; kernel_rfl) | (rw [if_neg (by decide +kernel)]; exact ⟨rfl, rfl⟩))
    (fun os started H enc _ F => by rw [OpenClaim.pre_eq_preRow]; exact lifted os started H enc F)
theorem plain (f : FuncId) (fn : Func) (hf : Tryd.pinned.checked.prog.funcNamed Rows.cpuSumsRow.func = some f) (hfn : Tryd.pinned.checked.prog.funcs[f]? = some fn) :
    Rows.cpuSumsCard.stood.looks = Tryd.pinned.checked.prog.looks [] ∧ ∀ (j : Nat) t, fn.params[j]? = some t → Tryd.pinned.checked.prog.wantsStandIn t = false := by
  obtain rfl : f = 8 := Option.some.inj ((show Tryd.prog.funcNamed Rows.cpuSumsRow.func = some 8 by kernel_rfl).symm.trans hf) |>.symm
  obtain rfl : fn = Tryd.f8 := (Option.some.inj (Tryd.func8.symm.trans hfn)).symm
  refine ⟨by kernel_rfl, fun j t ht => ?_⟩
  rw [Tryd.params8] at ht
  have hm : t ∈ [5, 27] := by simpa using Array.mem_of_getElem? ht
  have hall : ([5, 27].all fun u => !Tryd.prog.wantsStandIn u) = true := by kernel_rfl
  exact (show Tryd.prog.wantsStandIn t = false by simpa using List.all_eq_true.1 hall t hm)
/-- THE TIED CARD. -/
theorem proved : Rows.CpuSumsCardSaid :=
  Claim7.holds_tied_plain_at .later [] _ _ _ _ said (fun _ h => by cases h) (by kernel_rfl) (fun _ h => by cases h) cpuSums_row_tie rfl ⟨rfl, rfl⟩ (by kernel_rfl) rfl plain (by kernel_rfl)
#print axioms proved
end Go.Proofs.YtpbjfjedgcabhaaDoor.cpuSums
