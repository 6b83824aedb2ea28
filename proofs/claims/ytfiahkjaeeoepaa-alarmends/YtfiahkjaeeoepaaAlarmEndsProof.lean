/-
  PROVED: for every list of times and every now the law AlarmEnds returns true: all alarms are due at the greatest time; and the arguments read as they did. No condition.
-/
import Derived.Test.YtfiahkjaeeoepaaRows
import Derived.Test.YtfiahkjaeeoepaaLT
import Derived.Test.YtfiahkjaeeoepaaVA
import Derived.Test.YtfiahkjaeeoepaaGN
import Derived.Test.YtfiahkjaeeoepaaAS
import Derived.Test.YtfiahkjaeeoepaaAM
import Derived.Test.YtfiahkjaeeoepaaAB
import Derived.Test.YtfiahkjaeeoepaaAC
import Derived.Test.YtfiahkjaeeoepaaAD
import Derived.Test.YtfiahkjaeeoepaaAE
import Derived.Test.YtfiahkjaeeoepaaAF
import Derived.Test.YtfiahkjaeeoepaaAG
import Derived.Test.YtfiahkjaeeoepaaAH
import Derived.Test.YtfiahkjaeeoepaaAI
import Derived.WalkKit
import Derived.ProofKit
import Derived.OpenShut
import Derived.ShutString
import Derived.ChangeOld
import Derived.Below
import Derived.Deep.CutBlock
import Derived.Deep.RegionHeld3
import Derived.Deep.Slices
import Derived.Deep.Fields
namespace Go.Proofs.Ytfiahkjaeeoepaa.alarmEnds
open Go.Proofs.Ytfiahkjaeeoepaa
open Go.ChangeShapes Go.WideShapes Go.ChangeAt Go.RowKit
open Go.ChangeMaps (open_string shut_string)
set_option linter.unusedVariables false
set_option maxRecDepth 100000

theorem own : ownKnob Try.prog.godebug = none := by kernel_rfl
theorem laidOut : laidOutB Try.prog = true := by kernel_rfl
theorem wf_u64 {a : Int} (h : (Lit.int .u64 a).wf = true) : ∃ n : Nat, a = n ∧ n < 18446744073709551616 := by
  simp only [Lit.wf, IntKind.min, IntKind.max, IntKind.signed, IntKind.bits, Bool.and_eq_true] at h
  simp at h
  exact ⟨a.toNat, by omega, by omega⟩
/-- What the walk is told of a slice of integers that came in: it is nil, or it leads to a row of as many cells as its capacity says. -/
def IsRow (k : IntKind) (w : World) (a : Option Addr) (len cap : Nat) (zs : List Int) : Prop :=
  (a = none ∧ len = 0 ∧ cap = 0 ∧ zs = []) ∨
  ∃ x, a = some x ∧ len ≤ cap ∧ cap ≤ maxLen ∧ zs.length = cap ∧ (∀ i, i < zs.length → w.cell? (x.add i) = some (.int k (zs.getD i 0))) ∧ ∀ n ∈ zs, (Lit.int k n).wf = true
theorem IsRow.w64 {w : World} {a : Option Addr} {len cap : Nat} {zs : List Int} (h : IsRow .u64 w a len cap zs) : len ≤ maxLen ∧ ∃ f : Nat → Nat, W64At w a len f ∧ (∀ i, f i < 18446744073709551616) := by
  rcases h with ⟨rfl, rfl, rfl, rfl⟩ | ⟨y, rfl, hl, hm, hz, hcell, hwz⟩
  · exact ⟨by omega, fun _ => 0, fun i hi => by omega, fun _ => (by decide : (0 : Nat) < 18446744073709551616)⟩
  · have key : ∀ i, i < len → ∃ n : Nat, zs.getD i 0 = n ∧ n < 18446744073709551616 := fun i hi =>
      of_u64 (hwz (zs.getD i 0) (by simp [List.getD_eq_getElem?_getD, List.getElem?_eq_getElem (show i < zs.length by omega)]))
    refine ⟨by omega, fun i => (zs.getD i 0).toNat % 18446744073709551616, fun i hi => ?_, fun i => Nat.mod_lt _ (by omega)⟩
    obtain ⟨b, off, spot⟩ := y
    have hc := hcell i (by omega)
    have hspot : spot = none := by simpa [Addr.add] using World.cell?_spot (hcell 0 (by omega))
    subst hspot
    obtain ⟨n, en, hn⟩ := key i hi
    have hc2 : w.cell? ⟨b, off + i, none⟩ = some (.int .u64 (((zs.getD i 0).toNat % 18446744073709551616 : Nat) : Int)) := by
      rw [en] at hc
      rw [en, Int.toNat_natCast, Nat.mod_eq_of_lt hn, ← hc]
      unfold Addr.add
      split <;> simp_all
    exact ⟨b, off, rfl, World.block_lt_of_cell? _ _ hc2, hc2⟩

/-! ### the walk -/
set_option maxRecDepth 100000
theorem walk (p_times : Option Addr) (p_times_len p_times_cap : Nat) (p_times_z : List Int) (p_now : Nat) (hp_now : p_now < 18446744073709551616) (w : World) (hp_times : IsRow .u64 w p_times p_times_len p_times_cap p_times_z) :
    Calls Try.prog 6 #[.slice p_times p_times_len p_times_cap, .int .u64 p_now] w fun e w' => e = .returned (.bool true) ∧ Below w.heap.size w w' := by
  obtain ⟨_, f, hf, hf64⟩ := hp_times.w64
  by_cases hout : 18 < p_times_len
  · exact ends_out p_times p_times_len p_times_cap p_now hout w
  · exact ends_in p_times p_times_len p_times_cap p_now (by omega) hp_now f hf64 w hf

/-! ### the row's step -/
set_option maxRecDepth 100000 in
theorem lifted (os : Os) (started : os.Started) (H : Type) (enc : TypeId × Value → H) :
    ReturnsInHanded {} Try.checked os 6 .any (Rows.alarmEndsSpec.pre6 enc Try.prog Try.f6 Rows.alarmEndsRow.domain false) (Rows.alarmEndsSpec.post enc Try.prog Try.f6 false true false false) := by
  refine returnsInHanded_of_change (C := Try.checked) own started (by kernel_rfl) Try.func6
    (ChangeSpec.witness6 (enc := enc) (C := Try.checked) false ⟨#[], #[.slice none 0 0, .int .u64 0], []⟩ 8 (by kernel_rfl) (by kernel_rfl) (by kernel_rfl) (by kernel_rfl)) ?_
  intro W base args ds gs before hval0 hW hcnd _
  have hval : ∀ (j : Nat) t v, Try.f6.params[j]? = some t → args[j]? = some v → Value.okWide Try.prog W .any base t v := hval0
  have hW' := hW
  obtain ⟨p, q, hA0, hV, rfl, hfz, hnd⟩ := hW
  have hA : DataW.TrodAll enc Try.prog W 0 (fun _ => true) true Try.f6.params.toList args.toList ds p := hA0
  rw [Try.params6] at hA hval
  obtain ⟨v0, vs0, d0, ds0, p0, q0, hargs, rfl, rfl, h0, r0⟩ := trodAll_cons hA
  obtain ⟨v1, vs1, d1, ds1, p1, q1, rfl, rfl, rfl, h1, r1⟩ := trodAll_cons r0
  obtain ⟨rfl, rfl, rfl⟩ := trodAll_nil r1
  obtain rfl : args = #[v0, v1] := by cases args; simp_all
  obtain ⟨rfl, rfl⟩ := trodVars_none hV
  obtain ⟨a0, len0, cap0, rfl⟩ := okWide_slice Try.underlying49 (hval 0 49 v0 rfl rfl)
  have k0 := h0
  have lt0 : ∀ x ∈ p0, x.block < W.heap.size := by obtain ⟨m, hm⟩ := k0; exact DataW.trod_lt m _ _ _ hm
  obtain ⟨z0, w0⟩ : ∃ zs, IsRow .u64 W a0 len0 cap0 zs := by
    obtain ⟨fuel, hf⟩ := h0
    rcases open_ints Try.underlying49 Try.underlying25 (by kernel_rfl) hf with ⟨hcs, _⟩ | ⟨x, l, c, zs, hcs, _, hl, hm, hz, _, hcell, hwz⟩
    · simp [Value.cells] at hcs
      obtain ⟨rfl, rfl, rfl⟩ := hcs
      exact ⟨[], .inl ⟨rfl, rfl, rfl, rfl⟩⟩
    · simp [Value.cells] at hcs
      obtain ⟨rfl, rfl, rfl⟩ := hcs
      exact ⟨zs, .inr ⟨_, rfl, hl, hm, by simpa using hz, hcell, hwz⟩⟩
  obtain ⟨a1, rfl, rfl, rfl, w1⟩ := open_int Try.underlying25 (hval 1 25 v1 rfl rfl) h1
  obtain ⟨n1, rfl, b1⟩ := wf_u64 w1
  clear hA0 hval0
  refine (walk a0 len0 cap0 z0 n1 b1 W w0).mono fun e W' ⟨he, bel⟩ => ?_
  subst he
  exact ⟨_, rfl, _, _, _, [], _, [], hW', trodAll_mk1 (shut_bool Try.underlying4 _), (trodAll_cons_mk (Below.trod laidOut (by kernel_rfl) (of_decide_eq_true (by kernel_rfl)) k0 bel lt0) (trodAll_cons_mk (shut_int Try.underlying25 w1) trodAll_mk0)), rfl, bel.frame _, fun h => by cases h⟩

theorem over : Rows.alarmEndsRow.holds Try.pinned (OpenSpec.ofChange Rows.alarmEndsSpec) :=
  OpenClaim.holds_of_wide 6 Try.f6 rfl rfl rfl rfl rfl rfl rfl ⟨rfl, rfl, rfl, rfl, rfl⟩ rfl rfl rfl rfl rfl (by kernel_rfl) Try.func6 (by kernel_rfl)
    (of_decide_eq_true (by kernel_rfl)) (by unfold Func.isWrapper; first | (rw [if_pos (by decide +kernel)]; kernel_rfl) | (rw [if_neg (by decide +kernel)]; exact ⟨rfl, rfl⟩))
    (fun os started H enc _ => lifted os started H enc)

/-- THE STATEMENT -/
theorem proved : Rows.AlarmEndsSaid := over
#print axioms proved
end Go.Proofs.Ytfiahkjaeeoepaa.alarmEnds
