/-
  Arrays of numbers that come in by value, as lists known whole.
-/
import Derived.Test.YthafcgppopfdkaaUA
import Derived.ChangeOld
namespace Go.Proofs.Ythafcgppopfdkaa
open Go.ChangeShapes Go.WideShapes Go.ChangeAt Go.RowKit
set_option maxRecDepth 100000
set_option linter.unusedVariables false

theorem okWide_arr {P : Program} {w : World} {r : Reach} {b : Nat} {t : TypeId} {v : Value} {n : Nat} {e : TypeId} (ht : P.underlying t = some (.array n e)) (h : Value.okWide P w r b t v) : ∃ cs, v = .agg cs ∧ cs.size = P.cellsOf t := by
  simp only [Value.okWide, ht] at h
  obtain ⟨cs, h1, h2, _⟩ := h
  exact ⟨cs, h1, h2⟩
def intIn (v : Value) : Int := match v with | .int _ z => z | _ => 0
theorem openA_int {H : Type} {enc : TypeId × Value → H} {P : Program} {w : World} {base : Nat} {spare : Nat → Bool} {held : Bool} {r : Reach} {b0 : Nat} {t e : TypeId} {n : Nat} {k : IntKind} {v : Value} {d : DataW H} {p : List MemPlace}
    (ht : P.underlying t = some (.array n e)) (he : P.underlying e = some (.int k)) (hce : P.cellsOf e = 1) (hct : P.cellsOf t = n) (hv : Value.okWide P w r b0 t v) (h : DataW.Trod enc P w base spare held t v d p) :
    ∃ f : Nat → Int, v = .agg (arrA n fun i => .int k (f i)) ∧ ∀ i, i < n → (Lit.int k (f i)).wf = true := by
  obtain ⟨cs, rfl, hsz⟩ := okWide_arr ht hv
  obtain ⟨fuel, hf⟩ := h
  obtain ⟨xs, m, _, _, _, hl, hall⟩ := DataW.trod_array ht hf
  rw [hct] at hsz
  have key : ∀ i (hi : i < n), ∃ z, cs[i]? = some (.int k z) ∧ (Lit.int k z).wf = true := by
    intro i hi
    obtain ⟨y, hy⟩ : ∃ y, xs[i]? = some y := ⟨_, List.getElem?_eq_getElem (by rw [hl]; exact hi)⟩
    have s := (hall i hi).trans hy
    rw [hce] at s
    have e1 : (List.drop (i * 1) (Value.agg cs).cells.toList).take 1 = [cs[i]'(by omega)] := by
      rw [Nat.mul_one]
      show (List.drop i cs.toList).take 1 = _
      rw [List.drop_eq_getElem_cons (by simpa using (by omega : i < cs.size))]
      simp
    rw [e1] at s
    obtain ⟨z, ez, _, wz⟩ := DataW.trod_int he s
    rw [List.cons.injEq] at ez
    exact ⟨z, by rw [Array.getElem?_eq_getElem (by omega), ez.1], wz⟩
  refine ⟨fun i => intIn (cs.getD i (.bool false)), ?_, fun i hi => ?_⟩
  · congr 1
    apply Array.ext_getElem?
    intro i
    by_cases hi : i < n
    · obtain ⟨z, hz, _⟩ := key i hi
      rw [arrA_at _ hi, hz]
      simp [Array.getD_eq_getD_getElem?, hz, intIn]
    · rw [arrA_over _ hi, Array.getElem?_eq_none (by omega)]
  · obtain ⟨z, hz, hw⟩ := key i hi
    simpa [Array.getD_eq_getD_getElem?, hz, intIn] using hw
theorem openA_u8 {H : Type} {enc : TypeId × Value → H} {P : Program} {w : World} {base : Nat} {spare : Nat → Bool} {held : Bool} {r : Reach} {b0 : Nat} {t e : TypeId} {n : Nat} {v : Value} {d : DataW H} {p : List MemPlace}
    (ht : P.underlying t = some (.array n e)) (he : P.underlying e = some (.int .u8)) (hce : P.cellsOf e = 1) (hct : P.cellsOf t = n) (hv : Value.okWide P w r b0 t v) (h : DataW.Trod enc P w base spare held t v d p) :
    ∃ f : Nat → Nat, v = .agg (arrA n fun i => .int .u8 (f i : Nat)) ∧ ∀ i, f i < 256 := by
  obtain ⟨f, rfl, hw⟩ := openA_int ht he hce hct hv h
  have key : ∀ i, i < n → 0 ≤ f i ∧ f i < 256 := fun i hi => by
    have := hw i hi
    simp only [Lit.wf, IntKind.min, IntKind.max, IntKind.signed, IntKind.bits, Bool.and_eq_true] at this
    simp at this
    omega
  refine ⟨fun i => (f i).toNat % 256, ?_, fun i => Nat.mod_lt _ (by omega)⟩
  congr 1
  refine arrA_congr fun i hi => ?_
  have := key i hi
  congr 1
  show f i = (((f i).toNat % 256 : Nat) : Int)
  omega
end Go.Proofs.Ythafcgppopfdkaa
