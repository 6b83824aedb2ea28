/-
  PROVED: for every list of acts the law LeasePlays returns true: pages that are offered, accepted, left, withdrawn, in any order: as a list; and the acts read as they did.
-/
import Derived.Test.YthafcgppopfdkaaRows
import Derived.Test.YthafcgppopfdkaaUA
import Derived.Test.YthafcgppopfdkaaUX
import Derived.Test.YthafcgppopfdkaaHA
import Derived.Test.YthafcgppopfdkaaHB
import Derived.Test.YthafcgppopfdkaaHC
import Derived.Test.YthafcgppopfdkaaHD
import Derived.Test.YthafcgppopfdkaaHE
import Derived.Test.YthafcgppopfdkaaHF
import Derived.Test.YthafcgppopfdkaaHG
import Derived.Test.YthafcgppopfdkaaHH
import Derived.Test.YthafcgppopfdkaaHI
import Derived.Test.YthafcgppopfdkaaHJ
import Derived.Test.YthafcgppopfdkaaHK
import Derived.Test.YthafcgppopfdkaaHL
import Derived.WalkKit
import Derived.ProofKit
import Derived.OpenShut
import Derived.ShutString
import Derived.ChangeOld
import Derived.Below
import Derived.Deep.CutBlock
import Derived.Deep.RegionHeld3
import Derived.Deep.Slices
import Derived.Deep.Fields
namespace Go.Proofs.Ythafcgppopfdkaa.leasePlays
open Go.Proofs.Ythafcgppopfdkaa
open Go.ChangeShapes Go.WideShapes Go.ChangeAt Go.RowKit
open Go.ChangeMaps (open_string shut_string)
set_option linter.unusedVariables false
set_option maxRecDepth 100000

theorem own : ownKnob Try.prog.godebug = none := by kernel_rfl
theorem laidOut : laidOutB Try.prog = true := by kernel_rfl
theorem wf_u8 {a : Int} (h : (Lit.int .u8 a).wf = true) : ∃ n : Nat, a = n ∧ n < 256 := by
  simp only [Lit.wf, IntKind.min, IntKind.max, IntKind.signed, IntKind.bits, Bool.and_eq_true] at h
  simp at h
  exact ⟨a.toNat, by omega, by omega⟩
theorem wf_i64 {a : Int} (h : (Lit.int .i64 a).wf = true) : -9223372036854775808 ≤ a ∧ a ≤ 9223372036854775807 := by
  simp only [Lit.wf, IntKind.min, IntKind.max, IntKind.signed, IntKind.bits, Bool.and_eq_true, decide_eq_true_eq] at h
  simp at h
  omega
/-- What the walk is told of a slice of structs that came in: for each of its elements the fields' cells. -/
def IsS40 (w : World) (a : Option Addr) (len : Nat) : Prop :=
  len ≤ maxLen ∧ ∀ i, i < len → ∃ b off, a = some ⟨b, off, none⟩ ∧ b < w.heap.size ∧ ∃ (K : Nat) (N : Int) (VM : Int) (P : Int) (To : Int) (W : Bool), w.cell? ⟨b, off + i * 6 + 0, none⟩ = some (.int .u8 K) ∧ w.cell? ⟨b, off + i * 6 + 1, none⟩ = some (.int .i64 N) ∧ w.cell? ⟨b, off + i * 6 + 2, none⟩ = some (.int .i64 VM) ∧ w.cell? ⟨b, off + i * 6 + 3, none⟩ = some (.int .i64 P) ∧ w.cell? ⟨b, off + i * 6 + 4, none⟩ = some (.int .i64 To) ∧ w.cell? ⟨b, off + i * 6 + 5, none⟩ = some (.bool W) ∧ K < 256 ∧ (-9223372036854775808 ≤ N ∧ N ≤ 9223372036854775807) ∧ (-9223372036854775808 ≤ VM ∧ VM ≤ 9223372036854775807) ∧ (-9223372036854775808 ≤ P ∧ P ≤ 9223372036854775807) ∧ (-9223372036854775808 ≤ To ∧ To ≤ 9223372036854775807)
theorem add_two (b off i j : Nat) : ((⟨b, off, none⟩ : Addr).add i).add j = ⟨b, off + i + j, none⟩ := by
  unfold Addr.add
  split <;> split <;> simp_all
theorem openS40 {H : Type} {enc : TypeId × Value → H} {w : World} {base : Nat} {a : Option Addr} {len cap : Nat} {d : DataW H} {p : List MemPlace}
    (h : DataW.Trod enc Try.prog w base (fun _ => true) true 40 (.slice a len cap) d p) : IsS40 w a len := by
  obtain ⟨fuel, hf⟩ := h
  rcases Go.Deep.open_slice Try.underlying40 hf with ⟨hcs, _⟩ | ⟨x, l, c, m, n, D, Pl, hcs, _, hl, hm, hmm, _, hi⟩
  · simp [Value.cells] at hcs
    obtain ⟨rfl, rfl, rfl⟩ := hcs
    exact ⟨by unfold maxLen; omega, fun i hi => by omega⟩
  · simp [Value.cells] at hcs
    obtain ⟨rfl, rfl, rfl⟩ := hcs
    refine ⟨by omega, fun i hil => ?_⟩
    have hC : Try.prog.cellsOf 46 = 6 := by kernel_rfl
    have hlm : len ≤ m := by rw [hmm]; split <;> omega
    obtain ⟨b, off, spot⟩ := x
    have hspot : spot = none := by
      obtain ⟨cs0, hc0, _⟩ := hi 0 (by omega)
      obtain ⟨_, hl0, hat0⟩ := World.cells?_some hc0
      rw [hC] at hl0 hat0
      have h0 := hat0 0 (by decide)
      rw [List.getElem?_eq_getElem (by omega)] at h0
      simpa [Addr.add] using World.cell?_spot h0
    subst hspot
    obtain ⟨cs', hc, ht'⟩ := hi i (by omega)
    obtain ⟨_, hcl, hat⟩ := World.cells?_some hc
    obtain ⟨xs, n', _, _, _, hxl, hfs⟩ := DataW.trod_struct Try.underlying46 ht'
    rw [hC] at hcl hat
    obtain ⟨y0, hy0⟩ : ∃ y, xs[0]? = some y := ⟨_, List.getElem?_eq_getElem (by rw [hxl]; decide)⟩
    have t0 := (hfs 0 _ rfl).trans hy0
    have e0 : (cs'.drop 0).take (Try.prog.cellsOf 5) = [cs'[0]'(by omega)] := by
      rw [show Try.prog.cellsOf 5 = 1 from by kernel_rfl, List.drop_eq_getElem_cons (by omega)]; rfl
    have q0 := hat 0 (by decide)
    rw [List.getElem?_eq_getElem (by omega), add_two] at q0
    replace t0 : DataW.trod enc Try.prog w base (fun _ => true) true n' 5 [cs'[0]'(by omega)] = some y0 := by rw [← e0]; exact t0
    obtain ⟨z0, k0, _, w0⟩ := DataW.trod_int Try.underlying5 t0
    rw [List.cons.injEq] at k0
    rw [k0.1] at q0
    obtain ⟨n0, rfl, b0⟩ := wf_u8 w0
    obtain ⟨y1, hy1⟩ : ∃ y, xs[1]? = some y := ⟨_, List.getElem?_eq_getElem (by rw [hxl]; decide)⟩
    have t1 := (hfs 1 _ rfl).trans hy1
    have e1 : (cs'.drop 1).take (Try.prog.cellsOf 3) = [cs'[1]'(by omega)] := by
      rw [show Try.prog.cellsOf 3 = 1 from by kernel_rfl, List.drop_eq_getElem_cons (by omega)]; rfl
    have q1 := hat 1 (by decide)
    rw [List.getElem?_eq_getElem (by omega), add_two] at q1
    replace t1 : DataW.trod enc Try.prog w base (fun _ => true) true n' 3 [cs'[1]'(by omega)] = some y1 := by rw [← e1]; exact t1
    obtain ⟨z1, k1, _, w1⟩ := DataW.trod_int Try.underlying3 t1
    rw [List.cons.injEq] at k1
    rw [k1.1] at q1
    have b1 := wf_i64 w1
    obtain ⟨y2, hy2⟩ : ∃ y, xs[2]? = some y := ⟨_, List.getElem?_eq_getElem (by rw [hxl]; decide)⟩
    have t2 := (hfs 2 _ rfl).trans hy2
    have e2 : (cs'.drop 2).take (Try.prog.cellsOf 3) = [cs'[2]'(by omega)] := by
      rw [show Try.prog.cellsOf 3 = 1 from by kernel_rfl, List.drop_eq_getElem_cons (by omega)]; rfl
    have q2 := hat 2 (by decide)
    rw [List.getElem?_eq_getElem (by omega), add_two] at q2
    replace t2 : DataW.trod enc Try.prog w base (fun _ => true) true n' 3 [cs'[2]'(by omega)] = some y2 := by rw [← e2]; exact t2
    obtain ⟨z2, k2, _, w2⟩ := DataW.trod_int Try.underlying3 t2
    rw [List.cons.injEq] at k2
    rw [k2.1] at q2
    have b2 := wf_i64 w2
    obtain ⟨y3, hy3⟩ : ∃ y, xs[3]? = some y := ⟨_, List.getElem?_eq_getElem (by rw [hxl]; decide)⟩
    have t3 := (hfs 3 _ rfl).trans hy3
    have e3 : (cs'.drop 3).take (Try.prog.cellsOf 3) = [cs'[3]'(by omega)] := by
      rw [show Try.prog.cellsOf 3 = 1 from by kernel_rfl, List.drop_eq_getElem_cons (by omega)]; rfl
    have q3 := hat 3 (by decide)
    rw [List.getElem?_eq_getElem (by omega), add_two] at q3
    replace t3 : DataW.trod enc Try.prog w base (fun _ => true) true n' 3 [cs'[3]'(by omega)] = some y3 := by rw [← e3]; exact t3
    obtain ⟨z3, k3, _, w3⟩ := DataW.trod_int Try.underlying3 t3
    rw [List.cons.injEq] at k3
    rw [k3.1] at q3
    have b3 := wf_i64 w3
    obtain ⟨y4, hy4⟩ : ∃ y, xs[4]? = some y := ⟨_, List.getElem?_eq_getElem (by rw [hxl]; decide)⟩
    have t4 := (hfs 4 _ rfl).trans hy4
    have e4 : (cs'.drop 4).take (Try.prog.cellsOf 3) = [cs'[4]'(by omega)] := by
      rw [show Try.prog.cellsOf 3 = 1 from by kernel_rfl, List.drop_eq_getElem_cons (by omega)]; rfl
    have q4 := hat 4 (by decide)
    rw [List.getElem?_eq_getElem (by omega), add_two] at q4
    replace t4 : DataW.trod enc Try.prog w base (fun _ => true) true n' 3 [cs'[4]'(by omega)] = some y4 := by rw [← e4]; exact t4
    obtain ⟨z4, k4, _, w4⟩ := DataW.trod_int Try.underlying3 t4
    rw [List.cons.injEq] at k4
    rw [k4.1] at q4
    have b4 := wf_i64 w4
    obtain ⟨y5, hy5⟩ : ∃ y, xs[5]? = some y := ⟨_, List.getElem?_eq_getElem (by rw [hxl]; decide)⟩
    have t5 := (hfs 5 _ rfl).trans hy5
    have e5 : (cs'.drop 5).take (Try.prog.cellsOf 4) = [cs'[5]'(by omega)] := by
      rw [show Try.prog.cellsOf 4 = 1 from by kernel_rfl, List.drop_eq_getElem_cons (by omega)]; rfl
    have q5 := hat 5 (by decide)
    rw [List.getElem?_eq_getElem (by omega), add_two] at q5
    replace t5 : DataW.trod enc Try.prog w base (fun _ => true) true n' 4 [cs'[5]'(by omega)] = some y5 := by rw [← e5]; exact t5
    obtain ⟨z5, k5, _⟩ := DataW.trod_bool Try.underlying4 t5
    rw [List.cons.injEq] at k5
    rw [k5.1] at q5
    exact ⟨b, off, rfl, World.block_lt_of_cell? _ _ q0, n0, z1, z2, z3, z4, z5, q0, q1, q2, q3, q4, q5, b0, b1, b2, b3, b4⟩

/-! ### the walk -/
set_option maxRecDepth 100000
theorem walk (p_acts : Option Addr) (p_acts_len p_acts_cap : Nat) (w : World) (hp_acts : IsS40 w p_acts p_acts_len) :
    Calls Try.prog 7 #[.slice p_acts p_acts_len p_acts_cap] w fun e w' => e = .returned (.bool true) ∧ Below w.heap.size w w' := by
  by_cases hlong : 60 < p_acts_len
  · exact leasePlays_long p_acts p_acts_len p_acts_cap hlong w
  · exact leasePlays_core p_acts p_acts_len p_acts_cap (by omega) w hp_acts.2

/-! ### the row's step -/
set_option maxRecDepth 100000 in
theorem lifted (os : Os) (started : os.Started) (H : Type) (enc : TypeId × Value → H) :
    ReturnsInHanded {} Try.checked os 7 .any (Rows.leasePlaysSpec.pre6 enc Try.prog Try.f7 Rows.leasePlaysRow.domain false) (Rows.leasePlaysSpec.post enc Try.prog Try.f7 false true false false) := by
  refine returnsInHanded_of_change (C := Try.checked) own started (by kernel_rfl) Try.func7
    (ChangeSpec.witness6 (enc := enc) (C := Try.checked) false ⟨#[], #[.slice none 0 0], []⟩ 8 (by kernel_rfl) (by kernel_rfl) (by kernel_rfl) (by kernel_rfl)) ?_
  intro W base args ds gs before hval0 hW hcnd _
  have hval : ∀ (j : Nat) t v, Try.f7.params[j]? = some t → args[j]? = some v → Value.okWide Try.prog W .any base t v := hval0
  have hW' := hW
  obtain ⟨p, q, hA0, hV, rfl, hfz, hnd⟩ := hW
  have hA : DataW.TrodAll enc Try.prog W 0 (fun _ => true) true Try.f7.params.toList args.toList ds p := hA0
  rw [Try.params7] at hA hval
  obtain ⟨v0, vs0, d0, ds0, p0, q0, hargs, rfl, rfl, h0, r0⟩ := trodAll_cons hA
  obtain ⟨rfl, rfl, rfl⟩ := trodAll_nil r0
  obtain rfl : args = #[v0] := by cases args; simp_all
  obtain ⟨rfl, rfl⟩ := trodVars_none hV
  obtain ⟨a0, len0, cap0, rfl⟩ := okWide_slice Try.underlying40 (hval 0 40 v0 rfl rfl)
  have k0 := h0
  have lt0 : ∀ x ∈ p0, x.block < W.heap.size := by obtain ⟨m, hm⟩ := k0; exact DataW.trod_lt m _ _ _ hm
  have w0 := openS40 h0
  clear hA0 hval0
  refine (walk a0 len0 cap0 W w0).mono fun e W' ⟨he, bel⟩ => ?_
  subst he
  exact ⟨_, rfl, _, _, _, [], _, [], hW', trodAll_mk1 (shut_bool Try.underlying4 _), (trodAll_cons_mk (Below.trod laidOut (by kernel_rfl) (of_decide_eq_true (by kernel_rfl)) k0 bel lt0) trodAll_mk0), rfl, bel.frame _, fun h => by cases h⟩

theorem over : Rows.leasePlaysRow.holds Try.pinned (OpenSpec.ofChange Rows.leasePlaysSpec) :=
  OpenClaim.holds_of_wide 7 Try.f7 rfl rfl rfl rfl rfl rfl rfl ⟨rfl, rfl, rfl, rfl, rfl⟩ rfl rfl rfl rfl rfl (by kernel_rfl) Try.func7 (by kernel_rfl)
    (of_decide_eq_true (by kernel_rfl)) (by unfold Func.isWrapper; first | (rw [if_pos (by decide +kernel)]; kernel_rfl) | (rw [if_neg (by decide +kernel)]; exact ⟨rfl, rfl⟩))
    (fun os started H enc _ => lifted os started H enc)

/-- THE STATEMENT -/
theorem proved : Rows.LeasePlaysSaid := over
#print axioms proved
end Go.Proofs.Ythafcgppopfdkaa.leasePlays
