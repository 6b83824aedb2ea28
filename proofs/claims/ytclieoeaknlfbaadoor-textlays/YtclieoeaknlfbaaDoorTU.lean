/-
  What the lists of TextFaults' and TextLays' rows give the walks.
-/
import Derived.Test.YtclieoeaknlfbaaDoorTT
import Derived.Lay
import Derived.Deep.DeepHandedRow
import Derived.Deep.DeepWitnessRowRef
import Derived.Stop.Joined
namespace Go.Proofs.YtclieoeaknlfbaaDoor
open Go.ChangeShapes Go.WideShapes Go.ChangeAt Go.RowKit
open WM CM
set_option maxRecDepth 100000
set_option linter.unusedVariables false
set_option linter.unusedSimpArgs false
theorem tw_of2 {W : World} (hL0 : laidMetH Tryd.prog Rows.textLaysRow.laid W) (hS : W.ShapedOpen Tryd.prog) : TW W := by
  rw [MakeChecks.laidMetH_plain _ _ _ (by kernel_rfl)] at hL0
  have hL : laidMet Tryd.prog (("math/bits.deBruijn32tab", Rows.laid_math_bits_deBruijn32tab) :: ("math/bits.deBruijn64tab", Rows.laid_math_bits_deBruijn64tab) :: ("internal/strconv.uint64pow10", Rows.laid_internal_strconv_uint64pow10) :: ("unicode/utf8.acceptRanges", Rows.laid_unicode_utf8_acceptRanges) :: ("strconv.ErrRange", Rows.laid_strconv_ErrRange) :: ("strconv.ErrSyntax", Rows.laid_strconv_ErrSyntax) :: ("hermitcrab/text.names", Rows.laid_hermitcrab_text_names) :: ("unicode/utf8.first", Rows.laid_unicode_utf8_first) :: []) W := hL0
  have h3 := hL.tail.tail
  have h4 := h3.tail.tail
  have h5 := h4.tail
  have h6 := h5.tail
  rw [laid_pow] at h3
  refine ⟨?_, ?_, ?_, ?_, ?_⟩
  · obtain ⟨g, t, cs, fuel, p, hg, ht, hv, hd⟩ := Lib.laidMet.reads h6 (n := "hermitcrab/text.names") (d := Rows.laid_hermitcrab_text_names) (by simp)
    obtain rfl := Option.some.inj ((show Tryd.prog.globalNamed "hermitcrab/text.names" = some 0 by kernel_rfl).symm.trans hg)
    obtain rfl := Option.some.inj ((show (Tryd.prog.globals[0]?).map (·.type) = some 70 by kernel_rfl).symm.trans ht)
    rw [laid_names] at hd
    have := cells_of_strs Tryd.underlying70 Tryd.underlying9 (by kernel_rfl) (by kernel_rfl) hd
    rw [hv]
    congr 1
    apply Array.toList_inj.1
    rw [this]; rfl
  · exact lays_cutM.s1_3 W hS
  · exact Lib.tabIs_of_head (g := 6) (by kernel_rfl) (t := 122) (by kernel_rfl) Tryd.underlying122 Tryd.underlying63 (by kernel_rfl) (by kernel_rfl) h3
  · obtain ⟨a1, s1, hv1, _⟩ := laid_sentinel h5 (g := 4) (by kernel_rfl) (ti := 75) (by kernel_rfl) Tryd.underlying75 rowE Tryd.underlying127 Tryd.underlying129 rfl rfl Tryd.underlying9 (by kernel_rfl) (by kernel_rfl)
    exact ⟨_, _, hv1⟩
  · obtain ⟨a1, s1, hv1, _⟩ := laid_sentinel h4 (g := 5) (by kernel_rfl) (ti := 75) (by kernel_rfl) Tryd.underlying75 rowE Tryd.underlying127 Tryd.underlying129 rfl rfl Tryd.underlying9 (by kernel_rfl) (by kernel_rfl)
    exact ⟨_, _, hv1⟩
/-- A witness whose world is laid by a law. -/
theorem wit_zip {H : Type} {enc : TypeId × Value → H} {C : Checked} {os : Os} {f : FuncId} {fn : Func} {s : OpenSpec} {conds : List PathCond} {apart : Bool} {laid : List (String × DataW Unit)} (modest : Bool) (w0 : World) (args : Array Value) (hos : w0.os = os)
    (hsh : (w0.forCall (fun _ _ => 0) ⟨#[], args, []⟩).Shaped C.prog) (hok : Input.okWideB C.prog (w0.forCall (fun _ _ => 0) ⟨#[], args, []⟩) f ⟨#[], args, []⟩ = true)
    (hrow : s.preRow enc C.prog fn conds apart laid (w0.forCall (fun _ _ => 0) ⟨#[], args, []⟩).memory args) :
    ∃ (w : World) (tape : Tape) (i : Input), w.os = os ∧ (w.forCall tape i).Shaped C.prog ∧ i.vars = [] ∧ Input.okWide C.prog (w.forCall tape i) .any w.heap.size f i ∧
      s.preRow enc C.prog fn conds apart laid (w.forCall tape i).memory i.args ∧ ({ modest := modest } : Assume).holds C.prog (lone (Frame.enter C.prog f i.args .normal) [] (w.forCall tape i)) :=
  ⟨w0, fun _ _ => 0, ⟨#[], args, []⟩, hos, hsh, (Input.okWide_of_okWideB (base := 0) hok).1, (Input.okWide_of_okWideB hok).2, hrow, by
    simp only [Assume.holds]
    exact ⟨by simp, by simp, fun _ => Modest.zero, by simp, by simp⟩⟩
end Go.Proofs.YtclieoeaknlfbaaDoor
