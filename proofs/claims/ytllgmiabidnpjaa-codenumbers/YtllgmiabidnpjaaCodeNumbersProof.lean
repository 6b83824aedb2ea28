/-
  PROVED: for every number n the law CodeNumbers returns true (operations, and the machine's registers, are numbered as the document lists them; the document's example holds), and the argument reads as it did. No condition.
-/
import Derived.Test.YtllgmiabidnpjaaRows
import Derived.Test.YtllgmiabidnpjaaCL
import Derived.WalkKit
import Derived.ProofKit
import Derived.OpenShut
import Derived.ShutString
import Derived.ChangeOld
import Derived.Below
namespace Go.Proofs.Ytllgmiabidnpjaa.codeNumbers
open Go.Proofs.Ytllgmiabidnpjaa Go.Proofs.Ytllgmiabidnpjaa.WM Go.Proofs.Ytllgmiabidnpjaa.CM
open Go.ChangeShapes Go.WideShapes Go.ChangeAt Go.RowKit
open Go.ChangeMaps (open_string shut_string)
set_option linter.unusedVariables false

theorem own : ownKnob Try.prog.godebug = none := by kernel_rfl
theorem laidOut : laidOutB Try.prog = true := by kernel_rfl
theorem wf_u8 {a : Int} (h : (Lit.int .u8 a).wf = true) : ∃ n : Nat, a = n ∧ n < 256 := by
  simp only [Lit.wf, IntKind.min, IntKind.max, IntKind.signed, IntKind.bits, Bool.and_eq_true] at h
  simp at h
  exact ⟨a.toNat, by omega, by omega⟩

/-! ### the walk -/
set_option maxRecDepth 100000
def opCells : Array Value := #[.int .u8 0, .int .u8 1, .int .u8 2, .int .u8 3, .int .u8 4, .int .u8 5, .int .u8 6, .int .u8 7, .int .u8 8, .int .u8 9, .int .u8 10, .int .u8 11, .int .u8 12, .int .u8 13, .int .u8 14, .int .u8 15, .int .u8 16, .int .u8 17, .int .u8 18, .int .u8 19, .int .u8 20, .int .u8 21, .int .u8 22]
def regCells : Array Value := #[.int .i64 0, .int .i64 1, .int .i64 2, .int .i64 3, .int .i64 4, .int .i64 5, .int .i64 6, .int .i64 7, .int .i64 8]
theorem opCells_at (c : Nat) (h : c < 23) : opCells[c]? = some (.int .u8 (c : Nat)) := by
  have hs : c = 0 ∨ c = 1 ∨ c = 2 ∨ c = 3 ∨ c = 4 ∨ c = 5 ∨ c = 6 ∨ c = 7 ∨ c = 8 ∨ c = 9 ∨ c = 10 ∨ c = 11 ∨ c = 12 ∨ c = 13 ∨ c = 14 ∨ c = 15 ∨ c = 16 ∨ c = 17 ∨ c = 18 ∨ c = 19 ∨ c = 20 ∨ c = 21 ∨ c = 22 := by omega
  rcases hs with rfl | rfl | rfl | rfl | rfl | rfl | rfl | rfl | rfl | rfl | rfl | rfl | rfl | rfl | rfl | rfl | rfl | rfl | rfl | rfl | rfl | rfl | rfl
  all_goals rfl
theorem regCells_at (c : Nat) (h : c < 9) : regCells[c]? = some (.int .i64 (c : Nat)) := by
  have hs : c = 0 ∨ c = 1 ∨ c = 2 ∨ c = 3 ∨ c = 4 ∨ c = 5 ∨ c = 6 ∨ c = 7 ∨ c = 8 := by omega
  rcases hs with rfl | rfl | rfl | rfl | rfl | rfl | rfl | rfl | rfl
  all_goals rfl
theorem walk (p_n : Nat) (hp_n : p_n < 256) (w : World)  :
    Calls Try.prog 7 #[.int .u8 p_n] w fun e w' => e = .returned (.bool true) ∧ Below w.heap.size w w' := by
  have o1 := opCells_at (p_n % 23) (Nat.mod_lt _ (by omega))
  have r1 := regCells_at (p_n % 9) (Nat.mod_lt _ (by omega))
  have g0 : Below w.heap.size w ((w.alloc (.cells opCells 5)).alloc (.cells regCells 3)) := below_more (below_new w _) _
  have c1 : ((w.alloc (.cells opCells 5)).alloc (.cells regCells 3)).cell? ⟨w.heap.size, p_n % 23, none⟩ = some (.int .u8 ((p_n % 23 : Nat) : Int)) := by
    rw [World.cell?_alloc_past (hn := by simp), World.cell?_alloc_new]; exact o1
  have c2 : ((w.alloc (.cells opCells 5)).alloc (.cells regCells 3)).cell? ⟨w.heap.size + 1, p_n % 9, none⟩ = some (.int .i64 ((p_n % 9 : Nat) : Int)) := by
    rw [World.cell?_alloc_at (hn := by simp)]; exact r1
  have hz : ((w.alloc (.cells opCells 5)).alloc (.cells regCells 3)).heap.size = w.heap.size + 2 := by simp
  have C1 := Lib.hid c1
  have C2 := Lib.hid c2
  have HZ := Lib.hid hz
  clear c1 c2 hz o1 r1
  go_enter Try.func7, Try.ntmps7
  go_wp2_with (first | (refine wpList_buildSlice rfl 39 5 23 _ rfl opCells _ _ Try.underlying39 rfl rfl (by decide) (by decide) (by kernel_rfl) ?_) | (refine wpList_buildSlice rfl 40 3 9 _ rfl regCells _ _ Try.underlying40 rfl rfl (by decide) (by decide) (by kernel_rfl) ?_) | fail)
  refine (awake2_in _).mono ?_
  rintro e W1 ⟨rfl, h1⟩
  have k1 : W1.cell? ⟨w.heap.size, p_n % 23, none⟩ = some (.int .u8 ((p_n % 23 : Nat) : Int)) := (h1.cell (by simp; omega)).trans C1.out
  have k2 : W1.cell? ⟨w.heap.size + 1, p_n % 9, none⟩ = some (.int .i64 ((p_n % 9 : Nat) : Int)) := (h1.cell (by simp)).trans C2.out
  have g1 := below_up g0 h1
  go_wp2
  go_ret
  exact ⟨rfl, g1⟩

/-! ### the row's step -/
set_option maxRecDepth 100000 in
theorem lifted (os : Os) (started : os.Started) (H : Type) (enc : TypeId × Value → H) :
    ReturnsInHanded {} Try.checked os 7 .any (Rows.codeNumbersSpec.pre6 enc Try.prog Try.f7 Rows.codeNumbersRow.domain false) (Rows.codeNumbersSpec.post enc Try.prog Try.f7 false true false false) := by
  refine returnsInHanded_of_change (C := Try.checked) own started (by kernel_rfl) Try.func7
    (ChangeSpec.witness6 (enc := enc) (C := Try.checked) false ⟨#[], #[.int .u8 0], []⟩ 8 (by kernel_rfl) (by kernel_rfl) (by kernel_rfl) (by kernel_rfl)) ?_
  intro W base args ds gs before hval0 hW hcnd _
  have hval : ∀ (j : Nat) t v, Try.f7.params[j]? = some t → args[j]? = some v → Value.okWide Try.prog W .any base t v := hval0
  have hW' := hW
  obtain ⟨p, q, hA0, hV, rfl, hfz, hnd⟩ := hW
  have hA : DataW.TrodAll enc Try.prog W 0 (fun _ => true) true Try.f7.params.toList args.toList ds p := hA0
  rw [Try.params7] at hA hval
  obtain ⟨v0, vs0, d0, ds0, p0, q0, hargs, rfl, rfl, h0, r0⟩ := trodAll_cons hA
  obtain ⟨rfl, rfl, rfl⟩ := trodAll_nil r0
  obtain rfl : args = #[v0] := by cases args; simp_all
  obtain ⟨rfl, rfl⟩ := trodVars_none hV
  obtain ⟨a0, rfl, rfl, rfl, w0⟩ := open_int Try.underlying5 (hval 0 5 v0 rfl rfl) h0
  obtain ⟨n0, rfl, b0⟩ := wf_u8 w0
  clear hA0 hval0
  refine (walk n0 b0 W ).mono fun e W' ⟨he, bel⟩ => ?_
  subst he
  exact ⟨_, rfl, _, _, _, [], _, [], hW', trodAll_mk1 (shut_bool Try.underlying4 _), (trodAll_cons_mk (shut_int Try.underlying5 w0) trodAll_mk0), rfl, bel.frame _, fun h => by cases h⟩

theorem over : Rows.codeNumbersRow.holds Try.pinned (OpenSpec.ofChange Rows.codeNumbersSpec) :=
  OpenClaim.holds_of_wide 7 Try.f7 rfl rfl rfl rfl rfl rfl rfl ⟨rfl, rfl, rfl, rfl, rfl⟩ rfl rfl rfl rfl rfl (by kernel_rfl) Try.func7 (by kernel_rfl)
    (of_decide_eq_true (by kernel_rfl)) (by unfold Func.isWrapper; first | (rw [if_pos (by decide +kernel)]; kernel_rfl) | (rw [if_neg (by decide +kernel)]; exact ⟨rfl, rfl⟩))
    (fun os started H enc _ => lifted os started H enc)

/-- THE STATEMENT -/
theorem proved : Rows.CodeNumbersSaid := over
#print axioms proved
end Go.Proofs.Ytllgmiabidnpjaa.codeNumbers
