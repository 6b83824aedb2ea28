/-
  PROVED: for every list of bytes p the law TextLists returns true: any bytes as lines, instructions and question marks; what is left over is passed over; and p reads as it did. Condition (tied to the program's text by the card): the package variables hold what their initialisers lay.
-/
import Derived.Test.YthgopodjplpefaaDoorRows
import Derived.Test.YthgopodjplpefaaDoorWM
import Derived.Test.YthgopodjplpefaaDoorWC
import Derived.Test.YthgopodjplpefaaDoorLT
import Derived.Test.YthgopodjplpefaaDoorCM
import Derived.Test.YthgopodjplpefaaDoorCC
import Derived.Test.YthgopodjplpefaaDoorCD
import Derived.Test.YthgopodjplpefaaDoorCE
import Derived.Test.YthgopodjplpefaaDoorCR
import Derived.Test.YthgopodjplpefaaDoorTX
import Derived.Test.YthgopodjplpefaaDoorTS
import Derived.Test.YthgopodjplpefaaDoorTR
import Derived.Test.YthgopodjplpefaaDoorTG
import Derived.Test.YthgopodjplpefaaDoorTD
import Derived.Test.YthgopodjplpefaaDoorTL
import Derived.Test.YthgopodjplpefaaDoorTV
import Derived.Test.YthgopodjplpefaaDoorTT
import Derived.WalkKit
import Derived.ProofKit
import Derived.OpenShut
import Derived.ShutString
import Derived.ChangeOld
import Derived.Below
import Derived.Deep.CutBlock
import Derived.Deep.RegionHeld3
import Derived.Deep.Slices
import Derived.Deep.Fields
import Derived.Test.YthgopodjplpefaaDoorCards
import Derived.Test.YthgopodjplpefaaDoorTie
import Derived.Deep.DeepHandedRow
import Derived.Deep.DeepWitnessRowRef
import Derived.LaidMore
import Derived.Stop.Joined
import Derived.SevenTiedAt
namespace Go.Proofs.YthgopodjplpefaaDoor.textLists
open Go.Proofs.YthgopodjplpefaaDoor Go.Proofs.YthgopodjplpefaaDoor.WM Go.Proofs.YthgopodjplpefaaDoor.CM
open Go.ChangeShapes Go.WideShapes Go.ChangeAt Go.RowKit
open Go.ChangeMaps (open_string shut_string)
set_option linter.unusedVariables false

theorem own : ownKnob Tryd.prog.godebug = none := by kernel_rfl
theorem laidOut : laidOutB Tryd.prog = true := by kernel_rfl
/-- What the walk is told of a slice of integers that came in: it is nil, or it leads to a row of as many cells as its capacity says. -/
def IsRow (k : IntKind) (w : World) (a : Option Addr) (len cap : Nat) (zs : List Int) : Prop :=
  (a = none ∧ len = 0 ∧ cap = 0 ∧ zs = []) ∨
  ∃ x, a = some x ∧ len ≤ cap ∧ cap ≤ maxLen ∧ zs.length = cap ∧ (∀ i, i < zs.length → w.cell? (x.add i) = some (.int k (zs.getD i 0))) ∧ ∀ n ∈ zs, (Lit.int k n).wf = true
theorem IsRow.bytes {w : World} {a : Option Addr} {len cap : Nat} {zs : List Int} (h : IsRow .u8 w a len cap zs) : len ≤ maxLen ∧ ∃ f : Nat → Nat, BytesAt w a len f ∧ (∀ i, f i < 256) ∧ ∀ i, i < len → f i = (zs.getD i 0).toNat := by
  rcases h with ⟨rfl, rfl, rfl, rfl⟩ | ⟨y, rfl, hl, hm, hz, hcell, hwz⟩
  · exact ⟨by omega, fun _ => 0, fun i hi => by omega, fun _ => (by decide : (0 : Nat) < 256), fun i hi => by omega⟩
  · have key : ∀ i, i < len → ∃ n : Nat, zs.getD i 0 = n ∧ n < 256 := fun i hi =>
      of_u8 (hwz (zs.getD i 0) (by simp [List.getD_eq_getElem?_getD, List.getElem?_eq_getElem (show i < zs.length by omega)]))
    refine ⟨by omega, fun i => (zs.getD i 0).toNat % 256, fun i hi => ?_, fun i => Nat.mod_lt _ (by omega), fun i hi => ?_⟩
    · obtain ⟨b, off, spot⟩ := y
      have hc := hcell i (by omega)
      have hspot : spot = none := by simpa [Addr.add] using World.cell?_spot (hcell 0 (by omega))
      subst hspot
      obtain ⟨n, en, hn⟩ := key i hi
      refine ⟨b, off, rfl, ?_⟩
      rw [en] at hc
      show w.cell? ⟨b, off + i, none⟩ = some (.int .u8 (((zs.getD i 0).toNat % 256 : Nat) : Int))
      rw [en, Int.toNat_natCast, Nat.mod_eq_of_lt hn, ← hc]
      unfold Addr.add
      split <;> simp_all
    · obtain ⟨n, en, hn⟩ := key i hi
      show (zs.getD i 0).toNat % 256 = _
      rw [en]; omega

/-! ### the walk -/
set_option maxRecDepth 100000
theorem walk (p_p : Option Addr) (p_p_len p_p_cap : Nat) (p_p_z : List Int) (w : World) (hp_p : IsRow .u8 w p_p p_p_len p_p_cap p_p_z) (hT : TW w) :
    Calls Tryd.prog 7 #[.slice p_p p_p_len p_p_cap] w fun e w' => e = .returned (.bool true) ∧ Below w.heap.size w w' := by
  have hcap : p_p_len ≤ p_p_cap := by
    rcases hp_p with ⟨_, rfl, rfl, _⟩ | ⟨y, _, hl, _⟩
    · exact Nat.le_refl _
    · exact hl
  obtain ⟨hm, f, hb, hf, _⟩ := IsRow.bytes hp_p
  clear hp_p
  unfold maxLen at hm
  by_cases h1 : p_p_len ≤ 100
  · exact lists_walk p_p p_p_len p_p_cap f w hb hf hcap h1 hT
  · exact lists_long p_p p_p_len p_p_cap w h1 (by omega) hT

/-! ### the row's step -/
set_option maxRecDepth 100000 in
theorem contract (H : Type) (enc : TypeId × Value → H) (W : World) (base : Nat) (args : Array Value) (ds gs : List (DataW H)) (before : List MemPlace)
    (hval0 : ∀ (j : Nat) t v, Tryd.f7.params[j]? = some t → args[j]? = some v → Value.okWide Tryd.prog W .any base t v)
    (hW : DataW.Whole enc Tryd.prog Tryd.f7.params.toList Rows.textListsSpec.vars false W args.toList ds gs before) (hT : TW W) :
    Calls Tryd.prog 7 args W fun e W' => ∃ v, e = .returned v ∧ Rows.textListsSpec.post enc Tryd.prog Tryd.f7 false true false false W args v W' := by
  have hval : ∀ (j : Nat) t v, Tryd.f7.params[j]? = some t → args[j]? = some v → Value.okWide Tryd.prog W .any base t v := hval0
  have hW' := hW
  obtain ⟨p, q, hA0, hV, rfl, hfz, hnd⟩ := hW
  have hA : DataW.TrodAll enc Tryd.prog W 0 (fun _ => true) true Tryd.f7.params.toList args.toList ds p := hA0
  rw [Tryd.params7] at hA hval
  obtain ⟨v0, vs0, d0, ds0, p0, q0, hargs, rfl, rfl, h0, r0⟩ := trodAll_cons hA
  obtain ⟨rfl, rfl, rfl⟩ := trodAll_nil r0
  obtain rfl : args = #[v0] := by cases args; simp_all
  obtain ⟨rfl, rfl⟩ := trodVars_none hV
  obtain ⟨a0, len0, cap0, rfl⟩ := okWide_slice Tryd.underlying34 (hval 0 34 v0 rfl rfl)
  have k0 := h0
  have lt0 : ∀ x ∈ p0, x.block < W.heap.size := by obtain ⟨m, hm⟩ := k0; exact DataW.trod_lt m _ _ _ hm
  obtain ⟨z0, w0⟩ : ∃ zs, IsRow .u8 W a0 len0 cap0 zs := by
    obtain ⟨fuel, hf⟩ := h0
    rcases open_ints Tryd.underlying34 Tryd.underlying5 (by kernel_rfl) hf with ⟨hcs, _⟩ | ⟨x, l, c, zs, hcs, _, hl, hm, hz, _, hcell, hwz⟩
    · simp [Value.cells] at hcs
      obtain ⟨rfl, rfl, rfl⟩ := hcs
      exact ⟨[], .inl ⟨rfl, rfl, rfl, rfl⟩⟩
    · simp [Value.cells] at hcs
      obtain ⟨rfl, rfl, rfl⟩ := hcs
      exact ⟨zs, .inr ⟨_, rfl, hl, hm, by simpa using hz, hcell, hwz⟩⟩
  clear hA0 hval0
  refine (walk a0 len0 cap0 z0 W w0 hT).mono fun e W' ⟨he, bel⟩ => ?_
  subst he
  exact ⟨_, rfl, _, _, _, [], _, [], hW', trodAll_mk1 (shut_bool Tryd.underlying4 _), (trodAll_cons_mk (Below.trod laidOut (by kernel_rfl) (of_decide_eq_true (by kernel_rfl)) k0 bel lt0) trodAll_mk0), rfl, bel.frame _, fun h => by cases h⟩

theorem laid_met (os : Os) : laidMet Tryd.prog Rows.textListsRow.laid ((World.doorLaid Tryd.prog 400 os).forCall (fun _ _ => 0) ⟨#[], #[.slice none 0 0], []⟩).memory :=
  laidMet_of_run' 8 (by kernel_rfl) (by kernel_rfl)
theorem reads (os : Os) {H : Type} (enc : TypeId × Value → H) : ∃ places, DataW.whole enc Tryd.prog ((World.doorLaid Tryd.prog 400 os).forCall (fun _ _ => 0) ⟨#[], #[.slice none 0 0], []⟩).memory Tryd.f7.params.toList Rows.textListsSpec.vars false #[Value.slice none 0 0].toList 8 = some ([.nil], [], places) :=
  ⟨[], by kernel_rfl⟩
set_option maxRecDepth 100000 in
theorem lifted (os : Os) (started : os.Started) (H : Type) (enc : TypeId × Value → H) (F : Stop.Interp) :
    ReturnsInHanded {} Tryd.checked os 7 .any ((OpenSpec.ofChange Rows.textListsSpec).preRow enc Tryd.prog Tryd.f7 Rows.textListsRow.domain false Rows.textListsRow.laid) (((OpenSpec.ofChange Rows.textListsSpec).at F).post enc Tryd.prog Tryd.f7 false true false false) := by
  obtain ⟨places, hx⟩ := reads os enc
  refine returnsInHanded_of_row (C := Tryd.checked) (s := OpenSpec.ofChange Rows.textListsSpec) own started (by kernel_rfl) Tryd.func7
    (witness_row_atRef (enc := enc) (C := Tryd.checked) false (World.doorLaid Tryd.prog 400 os) #[.slice none 0 0] rfl (by kernel_rfl) (by kernel_rfl) (by kernel_rfl)
      (OpenSpec.preRow_of_cond 8 hx (by kernel_rfl) (fun k hk => by cases hk) (by kernel_rfl) (laid_met os))) ?_
  intro W base args ds gs before hval hW _ _ _ hL hS _
  exact contract H enc W base args ds gs before hval hW (tw_of hL hS)
theorem said : Rows.TextListsSaid :=
  OpenClaim.holds_of_cond 7 Tryd.f7 rfl rfl rfl rfl rfl rfl rfl ⟨rfl, rfl, rfl, rfl, rfl⟩ rfl rfl rfl rfl rfl (by kernel_rfl) Tryd.func7 (by kernel_rfl)
    (of_decide_eq_true (by kernel_rfl)) (by unfold Func.isWrapper; first | (rw [if_pos (by decide +kernel)]; kernel_rfl) | (rw [if_neg (by decide +kernel)]; exact ⟨rfl, rfl⟩))
    (fun os started H enc _ F => by rw [OpenClaim.pre_eq_preRow]; exact lifted os started H enc F)
theorem plain (f : FuncId) (fn : Func) (hf : Tryd.pinned.checked.prog.funcNamed Rows.textListsRow.func = some f) (hfn : Tryd.pinned.checked.prog.funcs[f]? = some fn) :
    Rows.textListsCard.stood.looks = Tryd.pinned.checked.prog.looks [] ∧ ∀ (j : Nat) t, fn.params[j]? = some t → Tryd.pinned.checked.prog.wantsStandIn t = false := by
  obtain rfl : f = 7 := Option.some.inj ((show Tryd.prog.funcNamed Rows.textListsRow.func = some 7 by kernel_rfl).symm.trans hf) |>.symm
  obtain rfl : fn = Tryd.f7 := (Option.some.inj (Tryd.func7.symm.trans hfn)).symm
  refine ⟨by kernel_rfl, fun j t ht => ?_⟩
  rw [Tryd.params7] at ht
  have hm : t ∈ [34] := by simpa using Array.mem_of_getElem? ht
  have hall : ([34].all fun u => !Tryd.prog.wantsStandIn u) = true := by kernel_rfl
  exact (show Tryd.prog.wantsStandIn t = false by simpa using List.all_eq_true.1 hall t hm)
/-- THE TIED CARD. -/
theorem proved : Rows.TextListsCardSaid :=
  Claim7.holds_tied_plain_at .later [] _ _ _ _ said (fun _ h => by cases h) (by kernel_rfl) (fun _ h => by cases h) textLists_row_tie rfl ⟨rfl, rfl⟩ (by kernel_rfl) rfl plain (by kernel_rfl)
#print axioms proved
end Go.Proofs.YthgopodjplpefaaDoor.textLists
