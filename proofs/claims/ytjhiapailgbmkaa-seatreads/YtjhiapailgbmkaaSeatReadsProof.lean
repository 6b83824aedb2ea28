/-
  PROVED: for every list of words l, seat s, at and word w the law SeatReads returns true: any words: a seat's, or none's; and the arguments read as they did. No condition.
-/
import Derived.Test.YtjhiapailgbmkaaRows
import Derived.Test.YtjhiapailgbmkaaLT
import Derived.Test.YtjhiapailgbmkaaWC
import Derived.Test.YtjhiapailgbmkaaYN
import Derived.WalkKit
import Derived.ProofKit
import Derived.OpenShut
import Derived.ShutString
import Derived.ChangeOld
import Derived.Below
import Derived.Deep.CutBlock
import Derived.Deep.RegionHeld3
import Derived.Deep.Slices
import Derived.Deep.Fields
namespace Go.Proofs.Ytjhiapailgbmkaa.seatReads
open Go.Proofs.Ytjhiapailgbmkaa
open Go.ChangeShapes Go.WideShapes Go.ChangeAt Go.RowKit
open Go.ChangeMaps (open_string shut_string)
set_option linter.unusedVariables false
set_option maxRecDepth 100000

theorem own : ownKnob Try.prog.godebug = none := by kernel_rfl
theorem laidOut : laidOutB Try.prog = true := by kernel_rfl
theorem wf_u64 {a : Int} (h : (Lit.int .u64 a).wf = true) : ∃ n : Nat, a = n ∧ n < 18446744073709551616 := by
  simp only [Lit.wf, IntKind.min, IntKind.max, IntKind.signed, IntKind.bits, Bool.and_eq_true] at h
  simp at h
  exact ⟨a.toNat, by omega, by omega⟩
theorem wf_u8 {a : Int} (h : (Lit.int .u8 a).wf = true) : ∃ n : Nat, a = n ∧ n < 256 := by
  simp only [Lit.wf, IntKind.min, IntKind.max, IntKind.signed, IntKind.bits, Bool.and_eq_true] at h
  simp at h
  exact ⟨a.toNat, by omega, by omega⟩
theorem wf_u32 {a : Int} (h : (Lit.int .u32 a).wf = true) : ∃ n : Nat, a = n ∧ n < 4294967296 := by
  simp only [Lit.wf, IntKind.min, IntKind.max, IntKind.signed, IntKind.bits, Bool.and_eq_true] at h
  simp at h
  exact ⟨a.toNat, by omega, by omega⟩
/-- What the walk is told of a slice of integers that came in: it is nil, or it leads to a row of as many cells as its capacity says. -/
def IsRow (k : IntKind) (w : World) (a : Option Addr) (len cap : Nat) (zs : List Int) : Prop :=
  (a = none ∧ len = 0 ∧ cap = 0 ∧ zs = []) ∨
  ∃ x, a = some x ∧ len ≤ cap ∧ cap ≤ maxLen ∧ zs.length = cap ∧ (∀ i, i < zs.length → w.cell? (x.add i) = some (.int k (zs.getD i 0))) ∧ ∀ n ∈ zs, (Lit.int k n).wf = true
/-- The slice's words, as far as its length goes. -/
def WordsAt (w : World) (a : Option Addr) (len : Nat) (x : Nat → Nat) : Prop := ∀ i, i < len → ∃ b off, a = some ⟨b, off, none⟩ ∧ b < w.heap.size ∧ w.cell? ⟨b, off + i, none⟩ = some (.int .u64 (x i : Nat))
theorem WordsAt.kept {w w' : World} {a : Option Addr} {len : Nat} {x : Nat → Nat} (h : WordsAt w a len x) (hb : Below w.heap.size w w') : WordsAt w' a len x := fun i hi => by
  obtain ⟨b, off, ha, hl, hc⟩ := h i hi
  exact ⟨b, off, ha, by have := hb.size; omega, (hb.cell hl).trans hc⟩
theorem IsRow.words {w : World} {a : Option Addr} {len cap : Nat} {zs : List Int} (h : IsRow .u64 w a len cap zs) : len ≤ maxLen ∧ ∃ f : Nat → Nat, WordsAt w a len f ∧ (∀ i, f i < 18446744073709551616) := by
  rcases h with ⟨rfl, rfl, rfl, rfl⟩ | ⟨y, rfl, hl, hm, hz, hcell, hwz⟩
  · exact ⟨by omega, fun _ => 0, fun i hi => by omega, fun _ => (by decide : (0 : Nat) < 18446744073709551616)⟩
  · have key : ∀ i, i < len → ∃ n : Nat, zs.getD i 0 = n ∧ n < 18446744073709551616 := fun i hi =>
      of_u64 (hwz (zs.getD i 0) (by simp [List.getD_eq_getElem?_getD, List.getElem?_eq_getElem (show i < zs.length by omega)]))
    refine ⟨by omega, fun i => (zs.getD i 0).toNat % 18446744073709551616, fun i hi => ?_, fun i => Nat.mod_lt _ (by omega)⟩
    obtain ⟨b, off, spot⟩ := y
    have hc := hcell i (by omega)
    have hspot : spot = none := by simpa [Addr.add] using World.cell?_spot (hcell 0 (by omega))
    subst hspot
    obtain ⟨n, en, hn⟩ := key i hi
    have hc2 : w.cell? ⟨b, off + i, none⟩ = some (.int .u64 (((zs.getD i 0).toNat % 18446744073709551616 : Nat) : Int)) := by
      rw [en] at hc
      rw [en, Int.toNat_natCast, Nat.mod_eq_of_lt hn, ← hc]
      unfold Addr.add
      split <;> simp_all
    exact ⟨b, off, rfl, World.block_lt_of_cell? _ _ hc2, hc2⟩
theorem array26 {α : Type} {cs : Array α} (h : cs.size = 26) : ∃ v0 v1 v2 v3 v4 v5 v6 v7 v8 v9 v10 v11 v12 v13 v14 v15 v16 v17 v18 v19 v20 v21 v22 v23 v24 v25, cs = #[v0, v1, v2, v3, v4, v5, v6, v7, v8, v9, v10, v11, v12, v13, v14, v15, v16, v17, v18, v19, v20, v21, v22, v23, v24, v25] := by
  obtain ⟨l⟩ := cs
  match l, h with
  | [v0, v1, v2, v3, v4, v5, v6, v7, v8, v9, v10, v11, v12, v13, v14, v15, v16, v17, v18, v19, v20, v21, v22, v23, v24, v25], _ => exact ⟨v0, v1, v2, v3, v4, v5, v6, v7, v8, v9, v10, v11, v12, v13, v14, v15, v16, v17, v18, v19, v20, v21, v22, v23, v24, v25, rfl⟩
theorem open26 {H : Type} {enc : TypeId × Value → H} {w : World} {base : Nat} {spare : Nat → Bool} {held : Bool} {r : Reach} {b0 : Nat} {v : Value} {d : DataW H} {p : List MemPlace}
    (hv : Value.okWide Try.prog w r b0 26 v) (h : DataW.Trod enc Try.prog w base spare held 26 v d p) :
    ∃ (v0 : Int) (v1 : Int) (v2 : Int) (v3 : Int) (v4 : Int) (v5 : Int) (v6 : Int) (v7 : Int) (v8 : Int) (v9 : Int) (v10 : Int) (v11 : Int) (v12 : Int) (v13 : Int) (v14 : Int) (v15 : Int) (v16 : Int) (v17 : Int) (v18 : Int) (v19 : Int) (v20 : Int) (v21 : Int) (v22 : Bool) (v23 : Int) (v24 : Int) (v25 : Int), v = .agg #[.int .u64 v0, .int .u64 v1, .int .u64 v2, .int .u64 v3, .int .u64 v4, .int .u64 v5, .int .u64 v6, .int .u64 v7, .int .u64 v8, .int .u64 v9, .int .u64 v10, .int .u64 v11, .int .u64 v12, .int .u64 v13, .int .u64 v14, .int .u64 v15, .int .u64 v16, .int .u64 v17, .int .u64 v18, .int .u64 v19, .int .u64 v20, .int .u64 v21, .bool v22, .int .u8 v23, .int .u32 v24, .int .u32 v25] ∧ (Lit.int .u64 v0).wf = true ∧ (Lit.int .u64 v1).wf = true ∧ (Lit.int .u64 v2).wf = true ∧ (Lit.int .u64 v3).wf = true ∧ (Lit.int .u64 v4).wf = true ∧ (Lit.int .u64 v5).wf = true ∧ (Lit.int .u64 v6).wf = true ∧ (Lit.int .u64 v7).wf = true ∧ (Lit.int .u64 v8).wf = true ∧ (Lit.int .u64 v9).wf = true ∧ (Lit.int .u64 v10).wf = true ∧ (Lit.int .u64 v11).wf = true ∧ (Lit.int .u64 v12).wf = true ∧ (Lit.int .u64 v13).wf = true ∧ (Lit.int .u64 v14).wf = true ∧ (Lit.int .u64 v15).wf = true ∧ (Lit.int .u64 v16).wf = true ∧ (Lit.int .u64 v17).wf = true ∧ (Lit.int .u64 v18).wf = true ∧ (Lit.int .u64 v19).wf = true ∧ (Lit.int .u64 v20).wf = true ∧ (Lit.int .u64 v21).wf = true ∧ (Lit.int .u8 v23).wf = true ∧ (Lit.int .u32 v24).wf = true ∧ (Lit.int .u32 v25).wf = true := by
  obtain ⟨cs, rfl, hsz⟩ := okWide_struct Try.underlying26 hv
  obtain ⟨c0, c1, c2, c3, c4, c5, c6, c7, c8, c9, c10, c11, c12, c13, c14, c15, c16, c17, c18, c19, c20, c21, c22, c23, c24, c25, rfl⟩ := array26 (hsz.trans (by kernel_rfl))
  obtain ⟨fuel, hf⟩ := h
  obtain ⟨xs, m, _, _, _, hlen, hall⟩ := DataW.trod_struct Try.underlying26 hf
  obtain ⟨y0, hy0⟩ : ∃ y, xs[0]? = some y := ⟨_, List.getElem?_eq_getElem (by rw [hlen]; decide)⟩
  have t0 : DataW.trod enc Try.prog w base spare held m 23 (List.take (Try.prog.cellsOf 23) (List.drop 0 (Value.agg #[c0, c1, c2, c3, c4, c5, c6, c7, c8, c9, c10, c11, c12, c13, c14, c15, c16, c17, c18, c19, c20, c21, c22, c23, c24, c25]).cells.toList)) = some y0 := (hall 0 _ rfl).trans hy0
  obtain ⟨ax0, am0, _, _, _, al0, ah0⟩ := DataW.trod_array Try.underlying23 t0
  obtain ⟨b0, hb0⟩ : ∃ y, ax0[0]? = some y := ⟨_, List.getElem?_eq_getElem (by rw [al0]; decide)⟩
  have s0 := (ah0 0 (by decide)).trans hb0
  rw [show Try.prog.cellsOf 23 = 16 from by kernel_rfl, show Try.prog.cellsOf 22 = 1 from by kernel_rfl] at s0
  obtain ⟨z0, e0, _, w0⟩ := DataW.trod_int Try.underlying22 s0
  simp [Value.cells] at e0
  obtain ⟨b1, hb1⟩ : ∃ y, ax0[1]? = some y := ⟨_, List.getElem?_eq_getElem (by rw [al0]; decide)⟩
  have s1 := (ah0 1 (by decide)).trans hb1
  rw [show Try.prog.cellsOf 23 = 16 from by kernel_rfl, show Try.prog.cellsOf 22 = 1 from by kernel_rfl] at s1
  obtain ⟨z1, e1, _, w1⟩ := DataW.trod_int Try.underlying22 s1
  simp [Value.cells] at e1
  obtain ⟨b2, hb2⟩ : ∃ y, ax0[2]? = some y := ⟨_, List.getElem?_eq_getElem (by rw [al0]; decide)⟩
  have s2 := (ah0 2 (by decide)).trans hb2
  rw [show Try.prog.cellsOf 23 = 16 from by kernel_rfl, show Try.prog.cellsOf 22 = 1 from by kernel_rfl] at s2
  obtain ⟨z2, e2, _, w2⟩ := DataW.trod_int Try.underlying22 s2
  simp [Value.cells] at e2
  obtain ⟨b3, hb3⟩ : ∃ y, ax0[3]? = some y := ⟨_, List.getElem?_eq_getElem (by rw [al0]; decide)⟩
  have s3 := (ah0 3 (by decide)).trans hb3
  rw [show Try.prog.cellsOf 23 = 16 from by kernel_rfl, show Try.prog.cellsOf 22 = 1 from by kernel_rfl] at s3
  obtain ⟨z3, e3, _, w3⟩ := DataW.trod_int Try.underlying22 s3
  simp [Value.cells] at e3
  obtain ⟨b4, hb4⟩ : ∃ y, ax0[4]? = some y := ⟨_, List.getElem?_eq_getElem (by rw [al0]; decide)⟩
  have s4 := (ah0 4 (by decide)).trans hb4
  rw [show Try.prog.cellsOf 23 = 16 from by kernel_rfl, show Try.prog.cellsOf 22 = 1 from by kernel_rfl] at s4
  obtain ⟨z4, e4, _, w4⟩ := DataW.trod_int Try.underlying22 s4
  simp [Value.cells] at e4
  obtain ⟨b5, hb5⟩ : ∃ y, ax0[5]? = some y := ⟨_, List.getElem?_eq_getElem (by rw [al0]; decide)⟩
  have s5 := (ah0 5 (by decide)).trans hb5
  rw [show Try.prog.cellsOf 23 = 16 from by kernel_rfl, show Try.prog.cellsOf 22 = 1 from by kernel_rfl] at s5
  obtain ⟨z5, e5, _, w5⟩ := DataW.trod_int Try.underlying22 s5
  simp [Value.cells] at e5
  obtain ⟨b6, hb6⟩ : ∃ y, ax0[6]? = some y := ⟨_, List.getElem?_eq_getElem (by rw [al0]; decide)⟩
  have s6 := (ah0 6 (by decide)).trans hb6
  rw [show Try.prog.cellsOf 23 = 16 from by kernel_rfl, show Try.prog.cellsOf 22 = 1 from by kernel_rfl] at s6
  obtain ⟨z6, e6, _, w6⟩ := DataW.trod_int Try.underlying22 s6
  simp [Value.cells] at e6
  obtain ⟨b7, hb7⟩ : ∃ y, ax0[7]? = some y := ⟨_, List.getElem?_eq_getElem (by rw [al0]; decide)⟩
  have s7 := (ah0 7 (by decide)).trans hb7
  rw [show Try.prog.cellsOf 23 = 16 from by kernel_rfl, show Try.prog.cellsOf 22 = 1 from by kernel_rfl] at s7
  obtain ⟨z7, e7, _, w7⟩ := DataW.trod_int Try.underlying22 s7
  simp [Value.cells] at e7
  obtain ⟨b8, hb8⟩ : ∃ y, ax0[8]? = some y := ⟨_, List.getElem?_eq_getElem (by rw [al0]; decide)⟩
  have s8 := (ah0 8 (by decide)).trans hb8
  rw [show Try.prog.cellsOf 23 = 16 from by kernel_rfl, show Try.prog.cellsOf 22 = 1 from by kernel_rfl] at s8
  obtain ⟨z8, e8, _, w8⟩ := DataW.trod_int Try.underlying22 s8
  simp [Value.cells] at e8
  obtain ⟨b9, hb9⟩ : ∃ y, ax0[9]? = some y := ⟨_, List.getElem?_eq_getElem (by rw [al0]; decide)⟩
  have s9 := (ah0 9 (by decide)).trans hb9
  rw [show Try.prog.cellsOf 23 = 16 from by kernel_rfl, show Try.prog.cellsOf 22 = 1 from by kernel_rfl] at s9
  obtain ⟨z9, e9, _, w9⟩ := DataW.trod_int Try.underlying22 s9
  simp [Value.cells] at e9
  obtain ⟨b10, hb10⟩ : ∃ y, ax0[10]? = some y := ⟨_, List.getElem?_eq_getElem (by rw [al0]; decide)⟩
  have s10 := (ah0 10 (by decide)).trans hb10
  rw [show Try.prog.cellsOf 23 = 16 from by kernel_rfl, show Try.prog.cellsOf 22 = 1 from by kernel_rfl] at s10
  obtain ⟨z10, e10, _, w10⟩ := DataW.trod_int Try.underlying22 s10
  simp [Value.cells] at e10
  obtain ⟨b11, hb11⟩ : ∃ y, ax0[11]? = some y := ⟨_, List.getElem?_eq_getElem (by rw [al0]; decide)⟩
  have s11 := (ah0 11 (by decide)).trans hb11
  rw [show Try.prog.cellsOf 23 = 16 from by kernel_rfl, show Try.prog.cellsOf 22 = 1 from by kernel_rfl] at s11
  obtain ⟨z11, e11, _, w11⟩ := DataW.trod_int Try.underlying22 s11
  simp [Value.cells] at e11
  obtain ⟨b12, hb12⟩ : ∃ y, ax0[12]? = some y := ⟨_, List.getElem?_eq_getElem (by rw [al0]; decide)⟩
  have s12 := (ah0 12 (by decide)).trans hb12
  rw [show Try.prog.cellsOf 23 = 16 from by kernel_rfl, show Try.prog.cellsOf 22 = 1 from by kernel_rfl] at s12
  obtain ⟨z12, e12, _, w12⟩ := DataW.trod_int Try.underlying22 s12
  simp [Value.cells] at e12
  obtain ⟨b13, hb13⟩ : ∃ y, ax0[13]? = some y := ⟨_, List.getElem?_eq_getElem (by rw [al0]; decide)⟩
  have s13 := (ah0 13 (by decide)).trans hb13
  rw [show Try.prog.cellsOf 23 = 16 from by kernel_rfl, show Try.prog.cellsOf 22 = 1 from by kernel_rfl] at s13
  obtain ⟨z13, e13, _, w13⟩ := DataW.trod_int Try.underlying22 s13
  simp [Value.cells] at e13
  obtain ⟨b14, hb14⟩ : ∃ y, ax0[14]? = some y := ⟨_, List.getElem?_eq_getElem (by rw [al0]; decide)⟩
  have s14 := (ah0 14 (by decide)).trans hb14
  rw [show Try.prog.cellsOf 23 = 16 from by kernel_rfl, show Try.prog.cellsOf 22 = 1 from by kernel_rfl] at s14
  obtain ⟨z14, e14, _, w14⟩ := DataW.trod_int Try.underlying22 s14
  simp [Value.cells] at e14
  obtain ⟨b15, hb15⟩ : ∃ y, ax0[15]? = some y := ⟨_, List.getElem?_eq_getElem (by rw [al0]; decide)⟩
  have s15 := (ah0 15 (by decide)).trans hb15
  rw [show Try.prog.cellsOf 23 = 16 from by kernel_rfl, show Try.prog.cellsOf 22 = 1 from by kernel_rfl] at s15
  obtain ⟨z15, e15, _, w15⟩ := DataW.trod_int Try.underlying22 s15
  simp [Value.cells] at e15
  obtain ⟨y1, hy1⟩ : ∃ y, xs[1]? = some y := ⟨_, List.getElem?_eq_getElem (by rw [hlen]; decide)⟩
  have t1 : DataW.trod enc Try.prog w base spare held m 22 (List.take (Try.prog.cellsOf 22) (List.drop 16 (Value.agg #[c0, c1, c2, c3, c4, c5, c6, c7, c8, c9, c10, c11, c12, c13, c14, c15, c16, c17, c18, c19, c20, c21, c22, c23, c24, c25]).cells.toList)) = some y1 := (hall 1 _ rfl).trans hy1
  rw [show Try.prog.cellsOf 22 = 1 from by kernel_rfl] at t1
  obtain ⟨z16, e16, _, w16⟩ := DataW.trod_int Try.underlying22 t1
  simp [Value.cells] at e16
  obtain ⟨y2, hy2⟩ : ∃ y, xs[2]? = some y := ⟨_, List.getElem?_eq_getElem (by rw [hlen]; decide)⟩
  have t2 : DataW.trod enc Try.prog w base spare held m 22 (List.take (Try.prog.cellsOf 22) (List.drop 17 (Value.agg #[c0, c1, c2, c3, c4, c5, c6, c7, c8, c9, c10, c11, c12, c13, c14, c15, c16, c17, c18, c19, c20, c21, c22, c23, c24, c25]).cells.toList)) = some y2 := (hall 2 _ rfl).trans hy2
  rw [show Try.prog.cellsOf 22 = 1 from by kernel_rfl] at t2
  obtain ⟨z17, e17, _, w17⟩ := DataW.trod_int Try.underlying22 t2
  simp [Value.cells] at e17
  obtain ⟨y3, hy3⟩ : ∃ y, xs[3]? = some y := ⟨_, List.getElem?_eq_getElem (by rw [hlen]; decide)⟩
  have t3 : DataW.trod enc Try.prog w base spare held m 22 (List.take (Try.prog.cellsOf 22) (List.drop 18 (Value.agg #[c0, c1, c2, c3, c4, c5, c6, c7, c8, c9, c10, c11, c12, c13, c14, c15, c16, c17, c18, c19, c20, c21, c22, c23, c24, c25]).cells.toList)) = some y3 := (hall 3 _ rfl).trans hy3
  rw [show Try.prog.cellsOf 22 = 1 from by kernel_rfl] at t3
  obtain ⟨z18, e18, _, w18⟩ := DataW.trod_int Try.underlying22 t3
  simp [Value.cells] at e18
  obtain ⟨y4, hy4⟩ : ∃ y, xs[4]? = some y := ⟨_, List.getElem?_eq_getElem (by rw [hlen]; decide)⟩
  have t4 : DataW.trod enc Try.prog w base spare held m 22 (List.take (Try.prog.cellsOf 22) (List.drop 19 (Value.agg #[c0, c1, c2, c3, c4, c5, c6, c7, c8, c9, c10, c11, c12, c13, c14, c15, c16, c17, c18, c19, c20, c21, c22, c23, c24, c25]).cells.toList)) = some y4 := (hall 4 _ rfl).trans hy4
  rw [show Try.prog.cellsOf 22 = 1 from by kernel_rfl] at t4
  obtain ⟨z19, e19, _, w19⟩ := DataW.trod_int Try.underlying22 t4
  simp [Value.cells] at e19
  obtain ⟨y5, hy5⟩ : ∃ y, xs[5]? = some y := ⟨_, List.getElem?_eq_getElem (by rw [hlen]; decide)⟩
  have t5 : DataW.trod enc Try.prog w base spare held m 22 (List.take (Try.prog.cellsOf 22) (List.drop 20 (Value.agg #[c0, c1, c2, c3, c4, c5, c6, c7, c8, c9, c10, c11, c12, c13, c14, c15, c16, c17, c18, c19, c20, c21, c22, c23, c24, c25]).cells.toList)) = some y5 := (hall 5 _ rfl).trans hy5
  rw [show Try.prog.cellsOf 22 = 1 from by kernel_rfl] at t5
  obtain ⟨z20, e20, _, w20⟩ := DataW.trod_int Try.underlying22 t5
  simp [Value.cells] at e20
  obtain ⟨y6, hy6⟩ : ∃ y, xs[6]? = some y := ⟨_, List.getElem?_eq_getElem (by rw [hlen]; decide)⟩
  have t6 : DataW.trod enc Try.prog w base spare held m 22 (List.take (Try.prog.cellsOf 22) (List.drop 21 (Value.agg #[c0, c1, c2, c3, c4, c5, c6, c7, c8, c9, c10, c11, c12, c13, c14, c15, c16, c17, c18, c19, c20, c21, c22, c23, c24, c25]).cells.toList)) = some y6 := (hall 6 _ rfl).trans hy6
  rw [show Try.prog.cellsOf 22 = 1 from by kernel_rfl] at t6
  obtain ⟨z21, e21, _, w21⟩ := DataW.trod_int Try.underlying22 t6
  simp [Value.cells] at e21
  obtain ⟨y7, hy7⟩ : ∃ y, xs[7]? = some y := ⟨_, List.getElem?_eq_getElem (by rw [hlen]; decide)⟩
  have t7 : DataW.trod enc Try.prog w base spare held m 4 (List.take (Try.prog.cellsOf 4) (List.drop 22 (Value.agg #[c0, c1, c2, c3, c4, c5, c6, c7, c8, c9, c10, c11, c12, c13, c14, c15, c16, c17, c18, c19, c20, c21, c22, c23, c24, c25]).cells.toList)) = some y7 := (hall 7 _ rfl).trans hy7
  rw [show Try.prog.cellsOf 4 = 1 from by kernel_rfl] at t7
  obtain ⟨z22, e22, _⟩ := DataW.trod_bool Try.underlying4 t7
  simp [Value.cells] at e22
  obtain ⟨y8, hy8⟩ : ∃ y, xs[8]? = some y := ⟨_, List.getElem?_eq_getElem (by rw [hlen]; decide)⟩
  have t8 : DataW.trod enc Try.prog w base spare held m 5 (List.take (Try.prog.cellsOf 5) (List.drop 23 (Value.agg #[c0, c1, c2, c3, c4, c5, c6, c7, c8, c9, c10, c11, c12, c13, c14, c15, c16, c17, c18, c19, c20, c21, c22, c23, c24, c25]).cells.toList)) = some y8 := (hall 8 _ rfl).trans hy8
  rw [show Try.prog.cellsOf 5 = 1 from by kernel_rfl] at t8
  obtain ⟨z23, e23, _, w23⟩ := DataW.trod_int Try.underlying5 t8
  simp [Value.cells] at e23
  obtain ⟨y9, hy9⟩ : ∃ y, xs[9]? = some y := ⟨_, List.getElem?_eq_getElem (by rw [hlen]; decide)⟩
  have t9 : DataW.trod enc Try.prog w base spare held m 24 (List.take (Try.prog.cellsOf 24) (List.drop 24 (Value.agg #[c0, c1, c2, c3, c4, c5, c6, c7, c8, c9, c10, c11, c12, c13, c14, c15, c16, c17, c18, c19, c20, c21, c22, c23, c24, c25]).cells.toList)) = some y9 := (hall 9 _ rfl).trans hy9
  rw [show Try.prog.cellsOf 24 = 1 from by kernel_rfl] at t9
  obtain ⟨z24, e24, _, w24⟩ := DataW.trod_int Try.underlying24 t9
  simp [Value.cells] at e24
  obtain ⟨y10, hy10⟩ : ∃ y, xs[10]? = some y := ⟨_, List.getElem?_eq_getElem (by rw [hlen]; decide)⟩
  have t10 : DataW.trod enc Try.prog w base spare held m 24 (List.take (Try.prog.cellsOf 24) (List.drop 25 (Value.agg #[c0, c1, c2, c3, c4, c5, c6, c7, c8, c9, c10, c11, c12, c13, c14, c15, c16, c17, c18, c19, c20, c21, c22, c23, c24, c25]).cells.toList)) = some y10 := (hall 10 _ rfl).trans hy10
  rw [show Try.prog.cellsOf 24 = 1 from by kernel_rfl] at t10
  obtain ⟨z25, e25, _, w25⟩ := DataW.trod_int Try.underlying24 t10
  simp [Value.cells] at e25
  subst e0 e1 e2 e3 e4 e5 e6 e7 e8 e9 e10 e11 e12 e13 e14 e15 e16 e17 e18 e19 e20 e21 e22 e23 e24 e25
  exact ⟨z0, z1, z2, z3, z4, z5, z6, z7, z8, z9, z10, z11, z12, z13, z14, z15, z16, z17, z18, z19, z20, z21, z22, z23, z24, z25, rfl, w0, w1, w2, w3, w4, w5, w6, w7, w8, w9, w10, w11, w12, w13, w14, w15, w16, w17, w18, w19, w20, w21, w23, w24, w25⟩

/-! ### the walk -/
set_option maxRecDepth 100000
theorem regs_ok {a0 a1 a2 a3 a4 a5 a6 a7 a8 a9 a10 a11 a12 a13 a14 a15 : Nat} (ha0 : a0 < 18446744073709551616) (ha1 : a1 < 18446744073709551616) (ha2 : a2 < 18446744073709551616) (ha3 : a3 < 18446744073709551616) (ha4 : a4 < 18446744073709551616) (ha5 : a5 < 18446744073709551616) (ha6 : a6 < 18446744073709551616) (ha7 : a7 < 18446744073709551616) (ha8 : a8 < 18446744073709551616) (ha9 : a9 < 18446744073709551616) (ha10 : a10 < 18446744073709551616) (ha11 : a11 < 18446744073709551616) (ha12 : a12 < 18446744073709551616) (ha13 : a13 < 18446744073709551616) (ha14 : a14 < 18446744073709551616) (ha15 : a15 < 18446744073709551616) (i : Nat) (hi : i < 16) : [a0, a1, a2, a3, a4, a5, a6, a7, a8, a9, a10, a11, a12, a13, a14, a15].getD i 0 < 18446744073709551616 := by
  have h16 : i = 0 ∨ i = 1 ∨ i = 2 ∨ i = 3 ∨ i = 4 ∨ i = 5 ∨ i = 6 ∨ i = 7 ∨ i = 8 ∨ i = 9 ∨ i = 10 ∨ i = 11 ∨ i = 12 ∨ i = 13 ∨ i = 14 ∨ i = 15 := by omega
  rcases h16 with rfl | rfl | rfl | rfl | rfl | rfl | rfl | rfl | rfl | rfl | rfl | rfl | rfl | rfl | rfl | rfl <;> assumption
theorem walk (p_l : Option Addr) (p_l_len p_l_cap : Nat) (p_l_z : List Int) (p_s_R_0 : Nat) (hp_s_R_0 : p_s_R_0 < 18446744073709551616) (p_s_R_1 : Nat) (hp_s_R_1 : p_s_R_1 < 18446744073709551616) (p_s_R_2 : Nat) (hp_s_R_2 : p_s_R_2 < 18446744073709551616) (p_s_R_3 : Nat) (hp_s_R_3 : p_s_R_3 < 18446744073709551616) (p_s_R_4 : Nat) (hp_s_R_4 : p_s_R_4 < 18446744073709551616) (p_s_R_5 : Nat) (hp_s_R_5 : p_s_R_5 < 18446744073709551616) (p_s_R_6 : Nat) (hp_s_R_6 : p_s_R_6 < 18446744073709551616) (p_s_R_7 : Nat) (hp_s_R_7 : p_s_R_7 < 18446744073709551616) (p_s_R_8 : Nat) (hp_s_R_8 : p_s_R_8 < 18446744073709551616) (p_s_R_9 : Nat) (hp_s_R_9 : p_s_R_9 < 18446744073709551616) (p_s_R_10 : Nat) (hp_s_R_10 : p_s_R_10 < 18446744073709551616) (p_s_R_11 : Nat) (hp_s_R_11 : p_s_R_11 < 18446744073709551616) (p_s_R_12 : Nat) (hp_s_R_12 : p_s_R_12 < 18446744073709551616) (p_s_R_13 : Nat) (hp_s_R_13 : p_s_R_13 < 18446744073709551616) (p_s_R_14 : Nat) (hp_s_R_14 : p_s_R_14 < 18446744073709551616) (p_s_R_15 : Nat) (hp_s_R_15 : p_s_R_15 < 18446744073709551616) (p_s_PC : Nat) (hp_s_PC : p_s_PC < 18446744073709551616) (p_s_Base : Nat) (hp_s_Base : p_s_Base < 18446744073709551616) (p_s_Vec : Nat) (hp_s_Vec : p_s_Vec < 18446744073709551616) (p_s_EPC : Nat) (hp_s_EPC : p_s_EPC < 18446744073709551616) (p_s_Cause : Nat) (hp_s_Cause : p_s_Cause < 18446744073709551616) (p_s_Addr : Nat) (hp_s_Addr : p_s_Addr < 18446744073709551616) (p_s_Open : Bool) (p_s_State : Nat) (hp_s_State : p_s_State < 256) (p_s_Pend : Nat) (hp_s_Pend : p_s_Pend < 4294967296) (p_s_Mask : Nat) (hp_s_Mask : p_s_Mask < 4294967296) (p_at : Nat) (hp_at : p_at < 256) (p_w : Nat) (hp_w : p_w < 18446744073709551616) (w : World) (hp_l : IsRow .u64 w p_l p_l_len p_l_cap p_l_z) :
    Calls Try.prog 4 #[.slice p_l p_l_len p_l_cap, .agg #[.int .u64 p_s_R_0, .int .u64 p_s_R_1, .int .u64 p_s_R_2, .int .u64 p_s_R_3, .int .u64 p_s_R_4, .int .u64 p_s_R_5, .int .u64 p_s_R_6, .int .u64 p_s_R_7, .int .u64 p_s_R_8, .int .u64 p_s_R_9, .int .u64 p_s_R_10, .int .u64 p_s_R_11, .int .u64 p_s_R_12, .int .u64 p_s_R_13, .int .u64 p_s_R_14, .int .u64 p_s_R_15, .int .u64 p_s_PC, .int .u64 p_s_Base, .int .u64 p_s_Vec, .int .u64 p_s_EPC, .int .u64 p_s_Cause, .int .u64 p_s_Addr, .bool p_s_Open, .int .u8 p_s_State, .int .u32 p_s_Pend, .int .u32 p_s_Mask], .int .u8 p_at, .int .u64 p_w] w fun e w' => e = .returned (.bool true) ∧ Below w.heap.size w w' := by
  obtain ⟨hl1, f, hl2, hl3⟩ := IsRow.words hp_l
  have hm : p_l_len ≤ 9223372036854775807 := by unfold maxLen at hl1; omega
  exact seatReads_core p_l p_l_len p_l_cap f ⟨fun i => [p_s_R_0, p_s_R_1, p_s_R_2, p_s_R_3, p_s_R_4, p_s_R_5, p_s_R_6, p_s_R_7, p_s_R_8, p_s_R_9, p_s_R_10, p_s_R_11, p_s_R_12, p_s_R_13, p_s_R_14, p_s_R_15].getD i 0, p_s_PC, p_s_Base, p_s_Vec, p_s_EPC, p_s_Cause, p_s_Addr, p_s_Open, p_s_State, p_s_Pend, p_s_Mask⟩ (near_ok _ (regs_ok hp_s_R_0 hp_s_R_1 hp_s_R_2 hp_s_R_3 hp_s_R_4 hp_s_R_5 hp_s_R_6 hp_s_R_7 hp_s_R_8 hp_s_R_9 hp_s_R_10 hp_s_R_11 hp_s_R_12 hp_s_R_13 hp_s_R_14 hp_s_R_15) hp_s_PC hp_s_Base hp_s_Vec hp_s_EPC hp_s_Cause hp_s_Addr) p_at hp_at p_w hp_w w (xs_of hm hl3 hl2)

/-! ### the row's step -/
set_option maxRecDepth 100000 in
theorem lifted (os : Os) (started : os.Started) (H : Type) (enc : TypeId × Value → H) :
    ReturnsInHanded {} Try.checked os 4 .any (Rows.seatReadsSpec.pre6 enc Try.prog Try.f4 Rows.seatReadsRow.domain false) (Rows.seatReadsSpec.post enc Try.prog Try.f4 false true false false) := by
  refine returnsInHanded_of_change (C := Try.checked) own started (by kernel_rfl) Try.func4
    (ChangeSpec.witness6 (enc := enc) (C := Try.checked) false ⟨#[], #[.slice none 0 0, .agg #[.int .u64 0, .int .u64 0, .int .u64 0, .int .u64 0, .int .u64 0, .int .u64 0, .int .u64 0, .int .u64 0, .int .u64 0, .int .u64 0, .int .u64 0, .int .u64 0, .int .u64 0, .int .u64 0, .int .u64 0, .int .u64 0, .int .u64 0, .int .u64 0, .int .u64 0, .int .u64 0, .int .u64 0, .int .u64 0, .bool false, .int .u8 0, .int .u32 0, .int .u32 0], .int .u8 0, .int .u64 0], []⟩ 8 (by kernel_rfl) (by kernel_rfl) (by kernel_rfl) (by kernel_rfl)) ?_
  intro W base args ds gs before hval0 hW hcnd _
  have hval : ∀ (j : Nat) t v, Try.f4.params[j]? = some t → args[j]? = some v → Value.okWide Try.prog W .any base t v := hval0
  have hW' := hW
  obtain ⟨p, q, hA0, hV, rfl, hfz, hnd⟩ := hW
  have hA : DataW.TrodAll enc Try.prog W 0 (fun _ => true) true Try.f4.params.toList args.toList ds p := hA0
  rw [Try.params4] at hA hval
  obtain ⟨v0, vs0, d0, ds0, p0, q0, hargs, rfl, rfl, h0, r0⟩ := trodAll_cons hA
  obtain ⟨v1, vs1, d1, ds1, p1, q1, rfl, rfl, rfl, h1, r1⟩ := trodAll_cons r0
  obtain ⟨v2, vs2, d2, ds2, p2, q2, rfl, rfl, rfl, h2, r2⟩ := trodAll_cons r1
  obtain ⟨v3, vs3, d3, ds3, p3, q3, rfl, rfl, rfl, h3, r3⟩ := trodAll_cons r2
  obtain ⟨rfl, rfl, rfl⟩ := trodAll_nil r3
  obtain rfl : args = #[v0, v1, v2, v3] := by cases args; simp_all
  obtain ⟨rfl, rfl⟩ := trodVars_none hV
  obtain ⟨a0, len0, cap0, rfl⟩ := okWide_slice Try.underlying28 (hval 0 28 v0 rfl rfl)
  have k0 := h0
  have lt0 : ∀ x ∈ p0, x.block < W.heap.size := by obtain ⟨m, hm⟩ := k0; exact DataW.trod_lt m _ _ _ hm
  obtain ⟨z0, w0⟩ : ∃ zs, IsRow .u64 W a0 len0 cap0 zs := by
    obtain ⟨fuel, hf⟩ := h0
    rcases open_ints Try.underlying28 Try.underlying22 (by kernel_rfl) hf with ⟨hcs, _⟩ | ⟨x, l, c, zs, hcs, _, hl, hm, hz, _, hcell, hwz⟩
    · simp [Value.cells] at hcs
      obtain ⟨rfl, rfl, rfl⟩ := hcs
      exact ⟨[], .inl ⟨rfl, rfl, rfl, rfl⟩⟩
    · simp [Value.cells] at hcs
      obtain ⟨rfl, rfl, rfl⟩ := hcs
      exact ⟨zs, .inr ⟨_, rfl, hl, hm, by simpa using hz, hcell, hwz⟩⟩
  have k1 := h1
  have lt1 : ∀ x ∈ p1, x.block < W.heap.size := by obtain ⟨m, hm⟩ := k1; exact DataW.trod_lt m _ _ _ hm
  obtain ⟨x1_0, x1_1, x1_2, x1_3, x1_4, x1_5, x1_6, x1_7, x1_8, x1_9, x1_10, x1_11, x1_12, x1_13, x1_14, x1_15, x1_16, x1_17, x1_18, x1_19, x1_20, x1_21, x1_22, x1_23, x1_24, x1_25, rfl, w1_0, w1_1, w1_2, w1_3, w1_4, w1_5, w1_6, w1_7, w1_8, w1_9, w1_10, w1_11, w1_12, w1_13, w1_14, w1_15, w1_16, w1_17, w1_18, w1_19, w1_20, w1_21, w1_23, w1_24, w1_25⟩ := open26 (hval 1 26 v1 rfl rfl) h1
  obtain ⟨n1_0, rfl, b1_0⟩ := wf_u64 w1_0
  obtain ⟨n1_1, rfl, b1_1⟩ := wf_u64 w1_1
  obtain ⟨n1_2, rfl, b1_2⟩ := wf_u64 w1_2
  obtain ⟨n1_3, rfl, b1_3⟩ := wf_u64 w1_3
  obtain ⟨n1_4, rfl, b1_4⟩ := wf_u64 w1_4
  obtain ⟨n1_5, rfl, b1_5⟩ := wf_u64 w1_5
  obtain ⟨n1_6, rfl, b1_6⟩ := wf_u64 w1_6
  obtain ⟨n1_7, rfl, b1_7⟩ := wf_u64 w1_7
  obtain ⟨n1_8, rfl, b1_8⟩ := wf_u64 w1_8
  obtain ⟨n1_9, rfl, b1_9⟩ := wf_u64 w1_9
  obtain ⟨n1_10, rfl, b1_10⟩ := wf_u64 w1_10
  obtain ⟨n1_11, rfl, b1_11⟩ := wf_u64 w1_11
  obtain ⟨n1_12, rfl, b1_12⟩ := wf_u64 w1_12
  obtain ⟨n1_13, rfl, b1_13⟩ := wf_u64 w1_13
  obtain ⟨n1_14, rfl, b1_14⟩ := wf_u64 w1_14
  obtain ⟨n1_15, rfl, b1_15⟩ := wf_u64 w1_15
  obtain ⟨n1_16, rfl, b1_16⟩ := wf_u64 w1_16
  obtain ⟨n1_17, rfl, b1_17⟩ := wf_u64 w1_17
  obtain ⟨n1_18, rfl, b1_18⟩ := wf_u64 w1_18
  obtain ⟨n1_19, rfl, b1_19⟩ := wf_u64 w1_19
  obtain ⟨n1_20, rfl, b1_20⟩ := wf_u64 w1_20
  obtain ⟨n1_21, rfl, b1_21⟩ := wf_u64 w1_21
  obtain ⟨n1_23, rfl, b1_23⟩ := wf_u8 w1_23
  obtain ⟨n1_24, rfl, b1_24⟩ := wf_u32 w1_24
  obtain ⟨n1_25, rfl, b1_25⟩ := wf_u32 w1_25
  obtain ⟨a2, rfl, rfl, rfl, w2⟩ := open_int Try.underlying5 (hval 2 5 v2 rfl rfl) h2
  obtain ⟨n2, rfl, b2⟩ := wf_u8 w2
  obtain ⟨a3, rfl, rfl, rfl, w3⟩ := open_int Try.underlying22 (hval 3 22 v3 rfl rfl) h3
  obtain ⟨n3, rfl, b3⟩ := wf_u64 w3
  clear hA0 hval0
  refine (walk a0 len0 cap0 z0 n1_0 b1_0 n1_1 b1_1 n1_2 b1_2 n1_3 b1_3 n1_4 b1_4 n1_5 b1_5 n1_6 b1_6 n1_7 b1_7 n1_8 b1_8 n1_9 b1_9 n1_10 b1_10 n1_11 b1_11 n1_12 b1_12 n1_13 b1_13 n1_14 b1_14 n1_15 b1_15 n1_16 b1_16 n1_17 b1_17 n1_18 b1_18 n1_19 b1_19 n1_20 b1_20 n1_21 b1_21 x1_22 n1_23 b1_23 n1_24 b1_24 n1_25 b1_25 n2 b2 n3 b3 W w0).mono fun e W' ⟨he, bel⟩ => ?_
  subst he
  exact ⟨_, rfl, _, _, _, [], _, [], hW', trodAll_mk1 (shut_bool Try.underlying4 _), (trodAll_cons_mk (Below.trod laidOut (by kernel_rfl) (of_decide_eq_true (by kernel_rfl)) k0 bel lt0) (trodAll_cons_mk (Below.trod laidOut (by kernel_rfl) (of_decide_eq_true (by kernel_rfl)) k1 bel lt1) (trodAll_cons_mk (shut_int Try.underlying5 w2) (trodAll_cons_mk (shut_int Try.underlying22 w3) trodAll_mk0)))), rfl, bel.frame _, fun h => by cases h⟩

theorem over : Rows.seatReadsRow.holds Try.pinned (OpenSpec.ofChange Rows.seatReadsSpec) :=
  OpenClaim.holds_of_wide 4 Try.f4 rfl rfl rfl rfl rfl rfl rfl ⟨rfl, rfl, rfl, rfl, rfl⟩ rfl rfl rfl rfl rfl (by kernel_rfl) Try.func4 (by kernel_rfl)
    (of_decide_eq_true (by kernel_rfl)) (by unfold Func.isWrapper; first | (rw [if_pos (by decide +kernel)]; kernel_rfl) | (rw [if_neg (by decide +kernel)]; exact ⟨rfl, rfl⟩))
    (fun os started H enc _ => lifted os started H enc)

/-- THE STATEMENT -/
theorem proved : Rows.SeatReadsSaid := over
#print axioms proved
end Go.Proofs.Ytjhiapailgbmkaa.seatReads
