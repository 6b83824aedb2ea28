/-
  PROVED: for every address, word and choice the law CpuTraps returns true: a trap goes where traps go, with its cause and address, and back to the instruction that trapped; and the arguments read as they did. Condition (tied to the program's text by the card): math/bits' table deBruijn64tab reads as its initialiser lays it.
-/
import Derived.Test.YtpbjfjedgcabhaaDoorRows
import Derived.Test.YtpbjfjedgcabhaaDoorLT
import Derived.Test.YtpbjfjedgcabhaaDoorLA
import Derived.Test.YtpbjfjedgcabhaaDoorWM
import Derived.Test.YtpbjfjedgcabhaaDoorWC
import Derived.Test.YtpbjfjedgcabhaaDoorWB
import Derived.Test.YtpbjfjedgcabhaaDoorVA
import Derived.Test.YtpbjfjedgcabhaaDoorGP
import Derived.Test.YtpbjfjedgcabhaaDoorSM
import Derived.Test.YtpbjfjedgcabhaaDoorRQ
import Derived.Test.YtpbjfjedgcabhaaDoorYA
import Derived.Test.YtpbjfjedgcabhaaDoorLB
import Derived.Test.YtpbjfjedgcabhaaDoorYF
import Derived.Test.YtpbjfjedgcabhaaDoorCM
import Derived.Test.YtpbjfjedgcabhaaDoorCC
import Derived.Test.YtpbjfjedgcabhaaDoorCD
import Derived.Test.YtpbjfjedgcabhaaDoorCE
import Derived.Test.YtpbjfjedgcabhaaDoorCR
import Derived.Test.YtpbjfjedgcabhaaDoorZA
import Derived.Test.YtpbjfjedgcabhaaDoorZB
import Derived.Test.YtpbjfjedgcabhaaDoorZR
import Derived.Test.YtpbjfjedgcabhaaDoorZC
import Derived.Test.YtpbjfjedgcabhaaDoorZD
import Derived.Test.YtpbjfjedgcabhaaDoorZE
import Derived.Test.YtpbjfjedgcabhaaDoorZF
import Derived.Test.YtpbjfjedgcabhaaDoorZG
import Derived.Test.YtpbjfjedgcabhaaDoorZH
import Derived.Test.YtpbjfjedgcabhaaDoorZI
import Derived.Test.YtpbjfjedgcabhaaDoorZJ
import Derived.Test.YtpbjfjedgcabhaaDoorZK
import Derived.Test.YtpbjfjedgcabhaaDoorZL
import Derived.Test.YtpbjfjedgcabhaaDoorZM
import Derived.Test.YtpbjfjedgcabhaaDoorZN
import Derived.Test.YtpbjfjedgcabhaaDoorZO
import Derived.Test.YtpbjfjedgcabhaaDoorZQ
import Derived.WalkKit
import Derived.ProofKit
import Derived.OpenShut
import Derived.ShutString
import Derived.ChangeOld
import Derived.Below
import Derived.Deep.CutBlock
import Derived.Deep.RegionHeld3
import Derived.Deep.Slices
import Derived.Deep.Fields
import Derived.Test.YtpbjfjedgcabhaaDoorCards
import Derived.Test.YtpbjfjedgcabhaaDoorTie
import Derived.Deep.DeepHandedRow
import Derived.Deep.DeepWitnessRowRef
import Derived.LaidMore
import Derived.Stop.Joined
import Derived.SevenTiedAt
namespace Go.Proofs.YtpbjfjedgcabhaaDoor.cpuTraps
open Go.Proofs.YtpbjfjedgcabhaaDoor Go.Proofs.YtpbjfjedgcabhaaDoor.WM Go.Proofs.YtpbjfjedgcabhaaDoor.CM
open Go.ChangeShapes Go.WideShapes Go.ChangeAt Go.RowKit
open Go.ChangeMaps (open_string shut_string)
set_option linter.unusedVariables false
set_option maxRecDepth 100000

theorem own : ownKnob Tryd.prog.godebug = none := by kernel_rfl
theorem laidOut : laidOutB Tryd.prog = true := by kernel_rfl
theorem wf_u64 {a : Int} (h : (Lit.int .u64 a).wf = true) : ∃ n : Nat, a = n ∧ n < 18446744073709551616 := by
  simp only [Lit.wf, IntKind.min, IntKind.max, IntKind.signed, IntKind.bits, Bool.and_eq_true] at h
  simp at h
  exact ⟨a.toNat, by omega, by omega⟩
theorem wf_u32 {a : Int} (h : (Lit.int .u32 a).wf = true) : ∃ n : Nat, a = n ∧ n < 4294967296 := by
  simp only [Lit.wf, IntKind.min, IntKind.max, IntKind.signed, IntKind.bits, Bool.and_eq_true] at h
  simp at h
  exact ⟨a.toNat, by omega, by omega⟩

/-! ### the walk -/
set_option maxRecDepth 100000
theorem walk (p_addr : Nat) (hp_addr : p_addr < 18446744073709551616) (p_w : Nat) (hp_w : p_w < 4294967296) (p_code : Bool) (w : World)  (hT : TW w) :
    Calls Tryd.prog 9 #[.int .u64 p_addr, .int .u32 p_w, .bool p_code] w fun e w' => e = .returned (.bool true) ∧ Below w.heap.size w w' := by
  exact cpuTraps_core p_addr p_w p_code hp_addr hp_w w hT

/-! ### the row's step -/
set_option maxRecDepth 100000 in
theorem contract (H : Type) (enc : TypeId × Value → H) (W : World) (base : Nat) (args : Array Value) (ds gs : List (DataW H)) (before : List MemPlace)
    (hval0 : ∀ (j : Nat) t v, Tryd.f9.params[j]? = some t → args[j]? = some v → Value.okWide Tryd.prog W .any base t v)
    (hW : DataW.Whole enc Tryd.prog Tryd.f9.params.toList Rows.cpuTrapsSpec.vars false W args.toList ds gs before) (hT : TW W) :
    Calls Tryd.prog 9 args W fun e W' => ∃ v, e = .returned v ∧ Rows.cpuTrapsSpec.post enc Tryd.prog Tryd.f9 false true false false W args v W' := by
  have hval : ∀ (j : Nat) t v, Tryd.f9.params[j]? = some t → args[j]? = some v → Value.okWide Tryd.prog W .any base t v := hval0
  have hW' := hW
  obtain ⟨p, q, hA0, hV, rfl, hfz, hnd⟩ := hW
  have hA : DataW.TrodAll enc Tryd.prog W 0 (fun _ => true) true Tryd.f9.params.toList args.toList ds p := hA0
  rw [Tryd.params9] at hA hval
  obtain ⟨v0, vs0, d0, ds0, p0, q0, hargs, rfl, rfl, h0, r0⟩ := trodAll_cons hA
  obtain ⟨v1, vs1, d1, ds1, p1, q1, rfl, rfl, rfl, h1, r1⟩ := trodAll_cons r0
  obtain ⟨v2, vs2, d2, ds2, p2, q2, rfl, rfl, rfl, h2, r2⟩ := trodAll_cons r1
  obtain ⟨rfl, rfl, rfl⟩ := trodAll_nil r2
  obtain rfl : args = #[v0, v1, v2] := by cases args; simp_all
  obtain ⟨rfl, rfl⟩ := trodVars_none hV
  obtain ⟨a0, rfl, rfl, rfl, w0⟩ := open_int Tryd.underlying22 (hval 0 22 v0 rfl rfl) h0
  obtain ⟨n0, rfl, b0⟩ := wf_u64 w0
  obtain ⟨a1, rfl, rfl, rfl, w1⟩ := open_int Tryd.underlying24 (hval 1 24 v1 rfl rfl) h1
  obtain ⟨n1, rfl, b1⟩ := wf_u32 w1
  obtain ⟨a2, rfl, rfl, rfl⟩ := open_bool Tryd.underlying4 (hval 2 4 v2 rfl rfl) h2
  clear hA0 hval0
  refine (walk n0 b0 n1 b1 a2 W  hT).mono fun e W' ⟨he, bel⟩ => ?_
  subst he
  exact ⟨_, rfl, _, _, _, [], _, [], hW', trodAll_mk1 (shut_bool Tryd.underlying4 _), (trodAll_cons_mk (shut_int Tryd.underlying22 w0) (trodAll_cons_mk (shut_int Tryd.underlying24 w1) (trodAll_cons_mk (shut_bool Tryd.underlying4 _) trodAll_mk0))), rfl, bel.frame _, fun h => by cases h⟩

theorem laid_met (os : Os) : laidMet Tryd.prog Rows.cpuTrapsRow.laid ((World.doorLaid Tryd.prog 400 os).forCall (fun _ _ => 0) ⟨#[], #[.int .u64 0, .int .u32 0, .bool false], []⟩).memory :=
  laidMet_of_run' 8 (by kernel_rfl) (by kernel_rfl)
theorem reads (os : Os) {H : Type} (enc : TypeId × Value → H) : ∃ places, DataW.whole enc Tryd.prog ((World.doorLaid Tryd.prog 400 os).forCall (fun _ _ => 0) ⟨#[], #[.int .u64 0, .int .u32 0, .bool false], []⟩).memory Tryd.f9.params.toList Rows.cpuTrapsSpec.vars false #[Value.int .u64 0, .int .u32 0, .bool false].toList 8 = some ([.lit (.int .u64 0), .lit (.int .u32 0), .lit (.bool false)], [], places) :=
  ⟨[], by kernel_rfl⟩
set_option maxRecDepth 100000 in
theorem lifted (os : Os) (started : os.Started) (H : Type) (enc : TypeId × Value → H) (F : Stop.Interp) :
    ReturnsInHanded {} Tryd.checked os 9 .any ((OpenSpec.ofChange Rows.cpuTrapsSpec).preRow enc Tryd.prog Tryd.f9 Rows.cpuTrapsRow.domain false Rows.cpuTrapsRow.laid) (((OpenSpec.ofChange Rows.cpuTrapsSpec).at F).post enc Tryd.prog Tryd.f9 false true false false) := by
  obtain ⟨places, hx⟩ := reads os enc
  refine returnsInHanded_of_row (C := Tryd.checked) (s := OpenSpec.ofChange Rows.cpuTrapsSpec) own started (by kernel_rfl) Tryd.func9
    (witness_row_atRef (enc := enc) (C := Tryd.checked) false (World.doorLaid Tryd.prog 400 os) #[.int .u64 0, .int .u32 0, .bool false] rfl (by kernel_rfl) (by kernel_rfl) (by kernel_rfl)
      (OpenSpec.preRow_of_cond 8 hx (by kernel_rfl) (fun k hk => by cases hk) (by kernel_rfl) (laid_met os))) ?_
  intro W base args ds gs before hval hW _ _ _ hL hS _
  exact contract H enc W base args ds gs before hval hW (tw_of hL hS)
theorem said : Rows.CpuTrapsSaid :=
  OpenClaim.holds_of_cond 9 Tryd.f9 rfl rfl rfl rfl rfl rfl rfl ⟨rfl, rfl, rfl, rfl, rfl⟩ rfl rfl rfl rfl rfl (by kernel_rfl) Tryd.func9 (by kernel_rfl)
    (of_decide_eq_true (by kernel_rfl)) (by unfold Func.isWrapper; first | (rw [if_pos (by decide +kernel)]; kernel_rfl) | (rw [if_neg (by decide +kernel)]; exact ⟨rfl, rfl⟩))
    (fun os started H enc _ F => by rw [OpenClaim.pre_eq_preRow]; exact lifted os started H enc F)
theorem plain (f : FuncId) (fn : Func) (hf : Tryd.pinned.checked.prog.funcNamed Rows.cpuTrapsRow.func = some f) (hfn : Tryd.pinned.checked.prog.funcs[f]? = some fn) :
    Rows.cpuTrapsCard.stood.looks = Tryd.pinned.checked.prog.looks [] ∧ ∀ (j : Nat) t, fn.params[j]? = some t → Tryd.pinned.checked.prog.wantsStandIn t = false := by
  obtain rfl : f = 9 := Option.some.inj ((show Tryd.prog.funcNamed Rows.cpuTrapsRow.func = some 9 by kernel_rfl).symm.trans hf) |>.symm
  obtain rfl : fn = Tryd.f9 := (Option.some.inj (Tryd.func9.symm.trans hfn)).symm
  refine ⟨by kernel_rfl, fun j t ht => ?_⟩
  rw [Tryd.params9] at ht
  have hm : t ∈ [22, 24, 4] := by simpa using Array.mem_of_getElem? ht
  have hall : ([22, 24, 4].all fun u => !Tryd.prog.wantsStandIn u) = true := by kernel_rfl
  exact (show Tryd.prog.wantsStandIn t = false by simpa using List.all_eq_true.1 hall t hm)
/-- THE TIED CARD. -/
theorem proved : Rows.CpuTrapsCardSaid :=
  Claim7.holds_tied_plain_at .later [] _ _ _ _ said (fun _ h => by cases h) (by kernel_rfl) (fun _ h => by cases h) cpuTraps_row_tie rfl ⟨rfl, rfl⟩ (by kernel_rfl) rfl plain (by kernel_rfl)
#print axioms proved
end Go.Proofs.YtpbjfjedgcabhaaDoor.cpuTraps
