/-
  PROVED: for every seat, time and number of a seat the law CpuIdle returns true: a seat that isn't ready does nothing, nor does a nil seat, or one without memory; and the arguments read as they did. Condition (tied to the program's text by the card): math/bits' table deBruijn64tab reads as its initialiser lays it.
-/
import Derived.Test.YtpbjfjedgcabhaaDoorRows
import Derived.Test.YtpbjfjedgcabhaaDoorLT
import Derived.Test.YtpbjfjedgcabhaaDoorLA
import Derived.Test.YtpbjfjedgcabhaaDoorWM
import Derived.Test.YtpbjfjedgcabhaaDoorWC
import Derived.Test.YtpbjfjedgcabhaaDoorWB
import Derived.Test.YtpbjfjedgcabhaaDoorVA
import Derived.Test.YtpbjfjedgcabhaaDoorGP
import Derived.Test.YtpbjfjedgcabhaaDoorSM
import Derived.Test.YtpbjfjedgcabhaaDoorRQ
import Derived.Test.YtpbjfjedgcabhaaDoorYA
import Derived.Test.YtpbjfjedgcabhaaDoorLB
import Derived.Test.YtpbjfjedgcabhaaDoorYF
import Derived.Test.YtpbjfjedgcabhaaDoorCM
import Derived.Test.YtpbjfjedgcabhaaDoorCC
import Derived.Test.YtpbjfjedgcabhaaDoorCD
import Derived.Test.YtpbjfjedgcabhaaDoorCE
import Derived.Test.YtpbjfjedgcabhaaDoorCR
import Derived.Test.YtpbjfjedgcabhaaDoorZA
import Derived.Test.YtpbjfjedgcabhaaDoorZB
import Derived.Test.YtpbjfjedgcabhaaDoorZR
import Derived.Test.YtpbjfjedgcabhaaDoorZC
import Derived.Test.YtpbjfjedgcabhaaDoorZD
import Derived.Test.YtpbjfjedgcabhaaDoorZE
import Derived.Test.YtpbjfjedgcabhaaDoorZF
import Derived.Test.YtpbjfjedgcabhaaDoorZG
import Derived.Test.YtpbjfjedgcabhaaDoorZH
import Derived.Test.YtpbjfjedgcabhaaDoorZI
import Derived.Test.YtpbjfjedgcabhaaDoorZJ
import Derived.Test.YtpbjfjedgcabhaaDoorZK
import Derived.Test.YtpbjfjedgcabhaaDoorZL
import Derived.Test.YtpbjfjedgcabhaaDoorZM
import Derived.Test.YtpbjfjedgcabhaaDoorZN
import Derived.Test.YtpbjfjedgcabhaaDoorZO
import Derived.Test.YtpbjfjedgcabhaaDoorZP
import Derived.WalkKit
import Derived.ProofKit
import Derived.OpenShut
import Derived.ShutString
import Derived.ChangeOld
import Derived.Below
import Derived.Deep.CutBlock
import Derived.Deep.RegionHeld3
import Derived.Deep.Slices
import Derived.Deep.Fields
import Derived.Test.YtpbjfjedgcabhaaDoorCards
import Derived.Test.YtpbjfjedgcabhaaDoorTie
import Derived.Deep.DeepHandedRow
import Derived.Deep.DeepWitnessRowRef
import Derived.LaidMore
import Derived.Stop.Joined
import Derived.SevenTiedAt
namespace Go.Proofs.YtpbjfjedgcabhaaDoor.cpuIdle
open Go.Proofs.YtpbjfjedgcabhaaDoor Go.Proofs.YtpbjfjedgcabhaaDoor.WM Go.Proofs.YtpbjfjedgcabhaaDoor.CM
open Go.ChangeShapes Go.WideShapes Go.ChangeAt Go.RowKit
open Go.ChangeMaps (open_string shut_string)
set_option linter.unusedVariables false
set_option maxRecDepth 100000

theorem own : ownKnob Tryd.prog.godebug = none := by kernel_rfl
theorem laidOut : laidOutB Tryd.prog = true := by kernel_rfl
theorem wf_u64 {a : Int} (h : (Lit.int .u64 a).wf = true) : ∃ n : Nat, a = n ∧ n < 18446744073709551616 := by
  simp only [Lit.wf, IntKind.min, IntKind.max, IntKind.signed, IntKind.bits, Bool.and_eq_true] at h
  simp at h
  exact ⟨a.toNat, by omega, by omega⟩
theorem wf_u8 {a : Int} (h : (Lit.int .u8 a).wf = true) : ∃ n : Nat, a = n ∧ n < 256 := by
  simp only [Lit.wf, IntKind.min, IntKind.max, IntKind.signed, IntKind.bits, Bool.and_eq_true] at h
  simp at h
  exact ⟨a.toNat, by omega, by omega⟩
theorem wf_u32 {a : Int} (h : (Lit.int .u32 a).wf = true) : ∃ n : Nat, a = n ∧ n < 4294967296 := by
  simp only [Lit.wf, IntKind.min, IntKind.max, IntKind.signed, IntKind.bits, Bool.and_eq_true] at h
  simp at h
  exact ⟨a.toNat, by omega, by omega⟩
theorem wf_i64 {a : Int} (h : (Lit.int .i64 a).wf = true) : -9223372036854775808 ≤ a ∧ a ≤ 9223372036854775807 := by
  simp only [Lit.wf, IntKind.min, IntKind.max, IntKind.signed, IntKind.bits, Bool.and_eq_true, decide_eq_true_eq] at h
  simp at h
  omega
theorem array26 {α : Type} {cs : Array α} (h : cs.size = 26) : ∃ v0 v1 v2 v3 v4 v5 v6 v7 v8 v9 v10 v11 v12 v13 v14 v15 v16 v17 v18 v19 v20 v21 v22 v23 v24 v25, cs = #[v0, v1, v2, v3, v4, v5, v6, v7, v8, v9, v10, v11, v12, v13, v14, v15, v16, v17, v18, v19, v20, v21, v22, v23, v24, v25] := by
  obtain ⟨l⟩ := cs
  match l, h with
  | [v0, v1, v2, v3, v4, v5, v6, v7, v8, v9, v10, v11, v12, v13, v14, v15, v16, v17, v18, v19, v20, v21, v22, v23, v24, v25], _ => exact ⟨v0, v1, v2, v3, v4, v5, v6, v7, v8, v9, v10, v11, v12, v13, v14, v15, v16, v17, v18, v19, v20, v21, v22, v23, v24, v25, rfl⟩
theorem open26 {H : Type} {enc : TypeId × Value → H} {w : World} {base : Nat} {spare : Nat → Bool} {held : Bool} {r : Reach} {b0 : Nat} {v : Value} {d : DataW H} {p : List MemPlace}
    (hv : Value.okWide Tryd.prog w r b0 26 v) (h : DataW.Trod enc Tryd.prog w base spare held 26 v d p) :
    ∃ (v0 : Int) (v1 : Int) (v2 : Int) (v3 : Int) (v4 : Int) (v5 : Int) (v6 : Int) (v7 : Int) (v8 : Int) (v9 : Int) (v10 : Int) (v11 : Int) (v12 : Int) (v13 : Int) (v14 : Int) (v15 : Int) (v16 : Int) (v17 : Int) (v18 : Int) (v19 : Int) (v20 : Int) (v21 : Int) (v22 : Bool) (v23 : Int) (v24 : Int) (v25 : Int), v = .agg #[.int .u64 v0, .int .u64 v1, .int .u64 v2, .int .u64 v3, .int .u64 v4, .int .u64 v5, .int .u64 v6, .int .u64 v7, .int .u64 v8, .int .u64 v9, .int .u64 v10, .int .u64 v11, .int .u64 v12, .int .u64 v13, .int .u64 v14, .int .u64 v15, .int .u64 v16, .int .u64 v17, .int .u64 v18, .int .u64 v19, .int .u64 v20, .int .u64 v21, .bool v22, .int .u8 v23, .int .u32 v24, .int .u32 v25] ∧ (Lit.int .u64 v0).wf = true ∧ (Lit.int .u64 v1).wf = true ∧ (Lit.int .u64 v2).wf = true ∧ (Lit.int .u64 v3).wf = true ∧ (Lit.int .u64 v4).wf = true ∧ (Lit.int .u64 v5).wf = true ∧ (Lit.int .u64 v6).wf = true ∧ (Lit.int .u64 v7).wf = true ∧ (Lit.int .u64 v8).wf = true ∧ (Lit.int .u64 v9).wf = true ∧ (Lit.int .u64 v10).wf = true ∧ (Lit.int .u64 v11).wf = true ∧ (Lit.int .u64 v12).wf = true ∧ (Lit.int .u64 v13).wf = true ∧ (Lit.int .u64 v14).wf = true ∧ (Lit.int .u64 v15).wf = true ∧ (Lit.int .u64 v16).wf = true ∧ (Lit.int .u64 v17).wf = true ∧ (Lit.int .u64 v18).wf = true ∧ (Lit.int .u64 v19).wf = true ∧ (Lit.int .u64 v20).wf = true ∧ (Lit.int .u64 v21).wf = true ∧ (Lit.int .u8 v23).wf = true ∧ (Lit.int .u32 v24).wf = true ∧ (Lit.int .u32 v25).wf = true := by
  obtain ⟨cs, rfl, hsz⟩ := okWide_struct Tryd.underlying26 hv
  obtain ⟨c0, c1, c2, c3, c4, c5, c6, c7, c8, c9, c10, c11, c12, c13, c14, c15, c16, c17, c18, c19, c20, c21, c22, c23, c24, c25, rfl⟩ := array26 (hsz.trans (by kernel_rfl))
  obtain ⟨fuel, hf⟩ := h
  obtain ⟨xs, m, _, _, _, hlen, hall⟩ := DataW.trod_struct Tryd.underlying26 hf
  obtain ⟨y0, hy0⟩ : ∃ y, xs[0]? = some y := ⟨_, List.getElem?_eq_getElem (by rw [hlen]; decide)⟩
  have t0 : DataW.trod enc Tryd.prog w base spare held m 23 (List.take (Tryd.prog.cellsOf 23) (List.drop 0 (Value.agg #[c0, c1, c2, c3, c4, c5, c6, c7, c8, c9, c10, c11, c12, c13, c14, c15, c16, c17, c18, c19, c20, c21, c22, c23, c24, c25]).cells.toList)) = some y0 := (hall 0 _ rfl).trans hy0
  obtain ⟨ax0, am0, _, _, _, al0, ah0⟩ := DataW.trod_array Tryd.underlying23 t0
  obtain ⟨b0, hb0⟩ : ∃ y, ax0[0]? = some y := ⟨_, List.getElem?_eq_getElem (by rw [al0]; decide)⟩
  have s0 := (ah0 0 (by decide)).trans hb0
  rw [show Tryd.prog.cellsOf 23 = 16 from by kernel_rfl, show Tryd.prog.cellsOf 22 = 1 from by kernel_rfl] at s0
  obtain ⟨z0, e0, _, w0⟩ := DataW.trod_int Tryd.underlying22 s0
  simp [Value.cells] at e0
  obtain ⟨b1, hb1⟩ : ∃ y, ax0[1]? = some y := ⟨_, List.getElem?_eq_getElem (by rw [al0]; decide)⟩
  have s1 := (ah0 1 (by decide)).trans hb1
  rw [show Tryd.prog.cellsOf 23 = 16 from by kernel_rfl, show Tryd.prog.cellsOf 22 = 1 from by kernel_rfl] at s1
  obtain ⟨z1, e1, _, w1⟩ := DataW.trod_int Tryd.underlying22 s1
  simp [Value.cells] at e1
  obtain ⟨b2, hb2⟩ : ∃ y, ax0[2]? = some y := ⟨_, List.getElem?_eq_getElem (by rw [al0]; decide)⟩
  have s2 := (ah0 2 (by decide)).trans hb2
  rw [show Tryd.prog.cellsOf 23 = 16 from by kernel_rfl, show Tryd.prog.cellsOf 22 = 1 from by kernel_rfl] at s2
  obtain ⟨z2, e2, _, w2⟩ := DataW.trod_int Tryd.underlying22 s2
  simp [Value.cells] at e2
  obtain ⟨b3, hb3⟩ : ∃ y, ax0[3]? = some y := ⟨_, List.getElem?_eq_getElem (by rw [al0]; decide)⟩
  have s3 := (ah0 3 (by decide)).trans hb3
  rw [show Tryd.prog.cellsOf 23 = 16 from by kernel_rfl, show Tryd.prog.cellsOf 22 = 1 from by kernel_rfl] at s3
  obtain ⟨z3, e3, _, w3⟩ := DataW.trod_int Tryd.underlying22 s3
  simp [Value.cells] at e3
  obtain ⟨b4, hb4⟩ : ∃ y, ax0[4]? = some y := ⟨_, List.getElem?_eq_getElem (by rw [al0]; decide)⟩
  have s4 := (ah0 4 (by decide)).trans hb4
  rw [show Tryd.prog.cellsOf 23 = 16 from by kernel_rfl, show Tryd.prog.cellsOf 22 = 1 from by kernel_rfl] at s4
  obtain ⟨z4, e4, _, w4⟩ := DataW.trod_int Tryd.underlying22 s4
  simp [Value.cells] at e4
  obtain ⟨b5, hb5⟩ : ∃ y, ax0[5]? = some y := ⟨_, List.getElem?_eq_getElem (by rw [al0]; decide)⟩
  have s5 := (ah0 5 (by decide)).trans hb5
  rw [show Tryd.prog.cellsOf 23 = 16 from by kernel_rfl, show Tryd.prog.cellsOf 22 = 1 from by kernel_rfl] at s5
  obtain ⟨z5, e5, _, w5⟩ := DataW.trod_int Tryd.underlying22 s5
  simp [Value.cells] at e5
  obtain ⟨b6, hb6⟩ : ∃ y, ax0[6]? = some y := ⟨_, List.getElem?_eq_getElem (by rw [al0]; decide)⟩
  have s6 := (ah0 6 (by decide)).trans hb6
  rw [show Tryd.prog.cellsOf 23 = 16 from by kernel_rfl, show Tryd.prog.cellsOf 22 = 1 from by kernel_rfl] at s6
  obtain ⟨z6, e6, _, w6⟩ := DataW.trod_int Tryd.underlying22 s6
  simp [Value.cells] at e6
  obtain ⟨b7, hb7⟩ : ∃ y, ax0[7]? = some y := ⟨_, List.getElem?_eq_getElem (by rw [al0]; decide)⟩
  have s7 := (ah0 7 (by decide)).trans hb7
  rw [show Tryd.prog.cellsOf 23 = 16 from by kernel_rfl, show Tryd.prog.cellsOf 22 = 1 from by kernel_rfl] at s7
  obtain ⟨z7, e7, _, w7⟩ := DataW.trod_int Tryd.underlying22 s7
  simp [Value.cells] at e7
  obtain ⟨b8, hb8⟩ : ∃ y, ax0[8]? = some y := ⟨_, List.getElem?_eq_getElem (by rw [al0]; decide)⟩
  have s8 := (ah0 8 (by decide)).trans hb8
  rw [show Tryd.prog.cellsOf 23 = 16 from by kernel_rfl, show Tryd.prog.cellsOf 22 = 1 from by kernel_rfl] at s8
  obtain ⟨z8, e8, _, w8⟩ := DataW.trod_int Tryd.underlying22 s8
  simp [Value.cells] at e8
  obtain ⟨b9, hb9⟩ : ∃ y, ax0[9]? = some y := ⟨_, List.getElem?_eq_getElem (by rw [al0]; decide)⟩
  have s9 := (ah0 9 (by decide)).trans hb9
  rw [show Tryd.prog.cellsOf 23 = 16 from by kernel_rfl, show Tryd.prog.cellsOf 22 = 1 from by kernel_rfl] at s9
  obtain ⟨z9, e9, _, w9⟩ := DataW.trod_int Tryd.underlying22 s9
  simp [Value.cells] at e9
  obtain ⟨b10, hb10⟩ : ∃ y, ax0[10]? = some y := ⟨_, List.getElem?_eq_getElem (by rw [al0]; decide)⟩
  have s10 := (ah0 10 (by decide)).trans hb10
  rw [show Tryd.prog.cellsOf 23 = 16 from by kernel_rfl, show Tryd.prog.cellsOf 22 = 1 from by kernel_rfl] at s10
  obtain ⟨z10, e10, _, w10⟩ := DataW.trod_int Tryd.underlying22 s10
  simp [Value.cells] at e10
  obtain ⟨b11, hb11⟩ : ∃ y, ax0[11]? = some y := ⟨_, List.getElem?_eq_getElem (by rw [al0]; decide)⟩
  have s11 := (ah0 11 (by decide)).trans hb11
  rw [show Tryd.prog.cellsOf 23 = 16 from by kernel_rfl, show Tryd.prog.cellsOf 22 = 1 from by kernel_rfl] at s11
  obtain ⟨z11, e11, _, w11⟩ := DataW.trod_int Tryd.underlying22 s11
  simp [Value.cells] at e11
  obtain ⟨b12, hb12⟩ : ∃ y, ax0[12]? = some y := ⟨_, List.getElem?_eq_getElem (by rw [al0]; decide)⟩
  have s12 := (ah0 12 (by decide)).trans hb12
  rw [show Tryd.prog.cellsOf 23 = 16 from by kernel_rfl, show Tryd.prog.cellsOf 22 = 1 from by kernel_rfl] at s12
  obtain ⟨z12, e12, _, w12⟩ := DataW.trod_int Tryd.underlying22 s12
  simp [Value.cells] at e12
  obtain ⟨b13, hb13⟩ : ∃ y, ax0[13]? = some y := ⟨_, List.getElem?_eq_getElem (by rw [al0]; decide)⟩
  have s13 := (ah0 13 (by decide)).trans hb13
  rw [show Tryd.prog.cellsOf 23 = 16 from by kernel_rfl, show Tryd.prog.cellsOf 22 = 1 from by kernel_rfl] at s13
  obtain ⟨z13, e13, _, w13⟩ := DataW.trod_int Tryd.underlying22 s13
  simp [Value.cells] at e13
  obtain ⟨b14, hb14⟩ : ∃ y, ax0[14]? = some y := ⟨_, List.getElem?_eq_getElem (by rw [al0]; decide)⟩
  have s14 := (ah0 14 (by decide)).trans hb14
  rw [show Tryd.prog.cellsOf 23 = 16 from by kernel_rfl, show Tryd.prog.cellsOf 22 = 1 from by kernel_rfl] at s14
  obtain ⟨z14, e14, _, w14⟩ := DataW.trod_int Tryd.underlying22 s14
  simp [Value.cells] at e14
  obtain ⟨b15, hb15⟩ : ∃ y, ax0[15]? = some y := ⟨_, List.getElem?_eq_getElem (by rw [al0]; decide)⟩
  have s15 := (ah0 15 (by decide)).trans hb15
  rw [show Tryd.prog.cellsOf 23 = 16 from by kernel_rfl, show Tryd.prog.cellsOf 22 = 1 from by kernel_rfl] at s15
  obtain ⟨z15, e15, _, w15⟩ := DataW.trod_int Tryd.underlying22 s15
  simp [Value.cells] at e15
  obtain ⟨y1, hy1⟩ : ∃ y, xs[1]? = some y := ⟨_, List.getElem?_eq_getElem (by rw [hlen]; decide)⟩
  have t1 : DataW.trod enc Tryd.prog w base spare held m 22 (List.take (Tryd.prog.cellsOf 22) (List.drop 16 (Value.agg #[c0, c1, c2, c3, c4, c5, c6, c7, c8, c9, c10, c11, c12, c13, c14, c15, c16, c17, c18, c19, c20, c21, c22, c23, c24, c25]).cells.toList)) = some y1 := (hall 1 _ rfl).trans hy1
  rw [show Tryd.prog.cellsOf 22 = 1 from by kernel_rfl] at t1
  obtain ⟨z16, e16, _, w16⟩ := DataW.trod_int Tryd.underlying22 t1
  simp [Value.cells] at e16
  obtain ⟨y2, hy2⟩ : ∃ y, xs[2]? = some y := ⟨_, List.getElem?_eq_getElem (by rw [hlen]; decide)⟩
  have t2 : DataW.trod enc Tryd.prog w base spare held m 22 (List.take (Tryd.prog.cellsOf 22) (List.drop 17 (Value.agg #[c0, c1, c2, c3, c4, c5, c6, c7, c8, c9, c10, c11, c12, c13, c14, c15, c16, c17, c18, c19, c20, c21, c22, c23, c24, c25]).cells.toList)) = some y2 := (hall 2 _ rfl).trans hy2
  rw [show Tryd.prog.cellsOf 22 = 1 from by kernel_rfl] at t2
  obtain ⟨z17, e17, _, w17⟩ := DataW.trod_int Tryd.underlying22 t2
  simp [Value.cells] at e17
  obtain ⟨y3, hy3⟩ : ∃ y, xs[3]? = some y := ⟨_, List.getElem?_eq_getElem (by rw [hlen]; decide)⟩
  have t3 : DataW.trod enc Tryd.prog w base spare held m 22 (List.take (Tryd.prog.cellsOf 22) (List.drop 18 (Value.agg #[c0, c1, c2, c3, c4, c5, c6, c7, c8, c9, c10, c11, c12, c13, c14, c15, c16, c17, c18, c19, c20, c21, c22, c23, c24, c25]).cells.toList)) = some y3 := (hall 3 _ rfl).trans hy3
  rw [show Tryd.prog.cellsOf 22 = 1 from by kernel_rfl] at t3
  obtain ⟨z18, e18, _, w18⟩ := DataW.trod_int Tryd.underlying22 t3
  simp [Value.cells] at e18
  obtain ⟨y4, hy4⟩ : ∃ y, xs[4]? = some y := ⟨_, List.getElem?_eq_getElem (by rw [hlen]; decide)⟩
  have t4 : DataW.trod enc Tryd.prog w base spare held m 22 (List.take (Tryd.prog.cellsOf 22) (List.drop 19 (Value.agg #[c0, c1, c2, c3, c4, c5, c6, c7, c8, c9, c10, c11, c12, c13, c14, c15, c16, c17, c18, c19, c20, c21, c22, c23, c24, c25]).cells.toList)) = some y4 := (hall 4 _ rfl).trans hy4
  rw [show Tryd.prog.cellsOf 22 = 1 from by kernel_rfl] at t4
  obtain ⟨z19, e19, _, w19⟩ := DataW.trod_int Tryd.underlying22 t4
  simp [Value.cells] at e19
  obtain ⟨y5, hy5⟩ : ∃ y, xs[5]? = some y := ⟨_, List.getElem?_eq_getElem (by rw [hlen]; decide)⟩
  have t5 : DataW.trod enc Tryd.prog w base spare held m 22 (List.take (Tryd.prog.cellsOf 22) (List.drop 20 (Value.agg #[c0, c1, c2, c3, c4, c5, c6, c7, c8, c9, c10, c11, c12, c13, c14, c15, c16, c17, c18, c19, c20, c21, c22, c23, c24, c25]).cells.toList)) = some y5 := (hall 5 _ rfl).trans hy5
  rw [show Tryd.prog.cellsOf 22 = 1 from by kernel_rfl] at t5
  obtain ⟨z20, e20, _, w20⟩ := DataW.trod_int Tryd.underlying22 t5
  simp [Value.cells] at e20
  obtain ⟨y6, hy6⟩ : ∃ y, xs[6]? = some y := ⟨_, List.getElem?_eq_getElem (by rw [hlen]; decide)⟩
  have t6 : DataW.trod enc Tryd.prog w base spare held m 22 (List.take (Tryd.prog.cellsOf 22) (List.drop 21 (Value.agg #[c0, c1, c2, c3, c4, c5, c6, c7, c8, c9, c10, c11, c12, c13, c14, c15, c16, c17, c18, c19, c20, c21, c22, c23, c24, c25]).cells.toList)) = some y6 := (hall 6 _ rfl).trans hy6
  rw [show Tryd.prog.cellsOf 22 = 1 from by kernel_rfl] at t6
  obtain ⟨z21, e21, _, w21⟩ := DataW.trod_int Tryd.underlying22 t6
  simp [Value.cells] at e21
  obtain ⟨y7, hy7⟩ : ∃ y, xs[7]? = some y := ⟨_, List.getElem?_eq_getElem (by rw [hlen]; decide)⟩
  have t7 : DataW.trod enc Tryd.prog w base spare held m 4 (List.take (Tryd.prog.cellsOf 4) (List.drop 22 (Value.agg #[c0, c1, c2, c3, c4, c5, c6, c7, c8, c9, c10, c11, c12, c13, c14, c15, c16, c17, c18, c19, c20, c21, c22, c23, c24, c25]).cells.toList)) = some y7 := (hall 7 _ rfl).trans hy7
  rw [show Tryd.prog.cellsOf 4 = 1 from by kernel_rfl] at t7
  obtain ⟨z22, e22, _⟩ := DataW.trod_bool Tryd.underlying4 t7
  simp [Value.cells] at e22
  obtain ⟨y8, hy8⟩ : ∃ y, xs[8]? = some y := ⟨_, List.getElem?_eq_getElem (by rw [hlen]; decide)⟩
  have t8 : DataW.trod enc Tryd.prog w base spare held m 5 (List.take (Tryd.prog.cellsOf 5) (List.drop 23 (Value.agg #[c0, c1, c2, c3, c4, c5, c6, c7, c8, c9, c10, c11, c12, c13, c14, c15, c16, c17, c18, c19, c20, c21, c22, c23, c24, c25]).cells.toList)) = some y8 := (hall 8 _ rfl).trans hy8
  rw [show Tryd.prog.cellsOf 5 = 1 from by kernel_rfl] at t8
  obtain ⟨z23, e23, _, w23⟩ := DataW.trod_int Tryd.underlying5 t8
  simp [Value.cells] at e23
  obtain ⟨y9, hy9⟩ : ∃ y, xs[9]? = some y := ⟨_, List.getElem?_eq_getElem (by rw [hlen]; decide)⟩
  have t9 : DataW.trod enc Tryd.prog w base spare held m 24 (List.take (Tryd.prog.cellsOf 24) (List.drop 24 (Value.agg #[c0, c1, c2, c3, c4, c5, c6, c7, c8, c9, c10, c11, c12, c13, c14, c15, c16, c17, c18, c19, c20, c21, c22, c23, c24, c25]).cells.toList)) = some y9 := (hall 9 _ rfl).trans hy9
  rw [show Tryd.prog.cellsOf 24 = 1 from by kernel_rfl] at t9
  obtain ⟨z24, e24, _, w24⟩ := DataW.trod_int Tryd.underlying24 t9
  simp [Value.cells] at e24
  obtain ⟨y10, hy10⟩ : ∃ y, xs[10]? = some y := ⟨_, List.getElem?_eq_getElem (by rw [hlen]; decide)⟩
  have t10 : DataW.trod enc Tryd.prog w base spare held m 24 (List.take (Tryd.prog.cellsOf 24) (List.drop 25 (Value.agg #[c0, c1, c2, c3, c4, c5, c6, c7, c8, c9, c10, c11, c12, c13, c14, c15, c16, c17, c18, c19, c20, c21, c22, c23, c24, c25]).cells.toList)) = some y10 := (hall 10 _ rfl).trans hy10
  rw [show Tryd.prog.cellsOf 24 = 1 from by kernel_rfl] at t10
  obtain ⟨z25, e25, _, w25⟩ := DataW.trod_int Tryd.underlying24 t10
  simp [Value.cells] at e25
  subst e0 e1 e2 e3 e4 e5 e6 e7 e8 e9 e10 e11 e12 e13 e14 e15 e16 e17 e18 e19 e20 e21 e22 e23 e24 e25
  exact ⟨z0, z1, z2, z3, z4, z5, z6, z7, z8, z9, z10, z11, z12, z13, z14, z15, z16, z17, z18, z19, z20, z21, z22, z23, z24, z25, rfl, w0, w1, w2, w3, w4, w5, w6, w7, w8, w9, w10, w11, w12, w13, w14, w15, w16, w17, w18, w19, w20, w21, w23, w24, w25⟩

/-! ### the walk -/
set_option maxRecDepth 100000
theorem walk (p_s_R_0 : Nat) (hp_s_R_0 : p_s_R_0 < 18446744073709551616) (p_s_R_1 : Nat) (hp_s_R_1 : p_s_R_1 < 18446744073709551616) (p_s_R_2 : Nat) (hp_s_R_2 : p_s_R_2 < 18446744073709551616) (p_s_R_3 : Nat) (hp_s_R_3 : p_s_R_3 < 18446744073709551616) (p_s_R_4 : Nat) (hp_s_R_4 : p_s_R_4 < 18446744073709551616) (p_s_R_5 : Nat) (hp_s_R_5 : p_s_R_5 < 18446744073709551616) (p_s_R_6 : Nat) (hp_s_R_6 : p_s_R_6 < 18446744073709551616) (p_s_R_7 : Nat) (hp_s_R_7 : p_s_R_7 < 18446744073709551616) (p_s_R_8 : Nat) (hp_s_R_8 : p_s_R_8 < 18446744073709551616) (p_s_R_9 : Nat) (hp_s_R_9 : p_s_R_9 < 18446744073709551616) (p_s_R_10 : Nat) (hp_s_R_10 : p_s_R_10 < 18446744073709551616) (p_s_R_11 : Nat) (hp_s_R_11 : p_s_R_11 < 18446744073709551616) (p_s_R_12 : Nat) (hp_s_R_12 : p_s_R_12 < 18446744073709551616) (p_s_R_13 : Nat) (hp_s_R_13 : p_s_R_13 < 18446744073709551616) (p_s_R_14 : Nat) (hp_s_R_14 : p_s_R_14 < 18446744073709551616) (p_s_R_15 : Nat) (hp_s_R_15 : p_s_R_15 < 18446744073709551616) (p_s_PC : Nat) (hp_s_PC : p_s_PC < 18446744073709551616) (p_s_Base : Nat) (hp_s_Base : p_s_Base < 18446744073709551616) (p_s_Vec : Nat) (hp_s_Vec : p_s_Vec < 18446744073709551616) (p_s_EPC : Nat) (hp_s_EPC : p_s_EPC < 18446744073709551616) (p_s_Cause : Nat) (hp_s_Cause : p_s_Cause < 18446744073709551616) (p_s_Addr : Nat) (hp_s_Addr : p_s_Addr < 18446744073709551616) (p_s_Open : Bool) (p_s_State : Nat) (hp_s_State : p_s_State < 256) (p_s_Pend : Nat) (hp_s_Pend : p_s_Pend < 4294967296) (p_s_Mask : Nat) (hp_s_Mask : p_s_Mask < 4294967296) (p_time : Nat) (hp_time : p_time < 18446744073709551616) (p_me : Int) (hp_me : -9223372036854775808 ≤ p_me ∧ p_me ≤ 9223372036854775807) (w : World)  (hT : TW w) :
    Calls Tryd.prog 7 #[.agg #[.int .u64 p_s_R_0, .int .u64 p_s_R_1, .int .u64 p_s_R_2, .int .u64 p_s_R_3, .int .u64 p_s_R_4, .int .u64 p_s_R_5, .int .u64 p_s_R_6, .int .u64 p_s_R_7, .int .u64 p_s_R_8, .int .u64 p_s_R_9, .int .u64 p_s_R_10, .int .u64 p_s_R_11, .int .u64 p_s_R_12, .int .u64 p_s_R_13, .int .u64 p_s_R_14, .int .u64 p_s_R_15, .int .u64 p_s_PC, .int .u64 p_s_Base, .int .u64 p_s_Vec, .int .u64 p_s_EPC, .int .u64 p_s_Cause, .int .u64 p_s_Addr, .bool p_s_Open, .int .u8 p_s_State, .int .u32 p_s_Pend, .int .u32 p_s_Mask], .int .u64 p_time, .int .i64 p_me] w fun e w' => e = .returned (.bool true) ∧ Below w.heap.size w w' := by
  exact cpuIdle_core ⟨fun i => [p_s_R_0, p_s_R_1, p_s_R_2, p_s_R_3, p_s_R_4, p_s_R_5, p_s_R_6, p_s_R_7, p_s_R_8, p_s_R_9, p_s_R_10, p_s_R_11, p_s_R_12, p_s_R_13, p_s_R_14, p_s_R_15].getD i 0, p_s_PC, p_s_Base, p_s_Vec, p_s_EPC, p_s_Cause, p_s_Addr, p_s_Open, p_s_State, p_s_Pend, p_s_Mask⟩ p_time p_me w hT

/-! ### the row's step -/
set_option maxRecDepth 100000 in
theorem contract (H : Type) (enc : TypeId × Value → H) (W : World) (base : Nat) (args : Array Value) (ds gs : List (DataW H)) (before : List MemPlace)
    (hval0 : ∀ (j : Nat) t v, Tryd.f7.params[j]? = some t → args[j]? = some v → Value.okWide Tryd.prog W .any base t v)
    (hW : DataW.Whole enc Tryd.prog Tryd.f7.params.toList Rows.cpuIdleSpec.vars false W args.toList ds gs before) (hT : TW W) :
    Calls Tryd.prog 7 args W fun e W' => ∃ v, e = .returned v ∧ Rows.cpuIdleSpec.post enc Tryd.prog Tryd.f7 false true false false W args v W' := by
  have hval : ∀ (j : Nat) t v, Tryd.f7.params[j]? = some t → args[j]? = some v → Value.okWide Tryd.prog W .any base t v := hval0
  have hW' := hW
  obtain ⟨p, q, hA0, hV, rfl, hfz, hnd⟩ := hW
  have hA : DataW.TrodAll enc Tryd.prog W 0 (fun _ => true) true Tryd.f7.params.toList args.toList ds p := hA0
  rw [Tryd.params7] at hA hval
  obtain ⟨v0, vs0, d0, ds0, p0, q0, hargs, rfl, rfl, h0, r0⟩ := trodAll_cons hA
  obtain ⟨v1, vs1, d1, ds1, p1, q1, rfl, rfl, rfl, h1, r1⟩ := trodAll_cons r0
  obtain ⟨v2, vs2, d2, ds2, p2, q2, rfl, rfl, rfl, h2, r2⟩ := trodAll_cons r1
  obtain ⟨rfl, rfl, rfl⟩ := trodAll_nil r2
  obtain rfl : args = #[v0, v1, v2] := by cases args; simp_all
  obtain ⟨rfl, rfl⟩ := trodVars_none hV
  have k0 := h0
  have lt0 : ∀ x ∈ p0, x.block < W.heap.size := by obtain ⟨m, hm⟩ := k0; exact DataW.trod_lt m _ _ _ hm
  obtain ⟨x0_0, x0_1, x0_2, x0_3, x0_4, x0_5, x0_6, x0_7, x0_8, x0_9, x0_10, x0_11, x0_12, x0_13, x0_14, x0_15, x0_16, x0_17, x0_18, x0_19, x0_20, x0_21, x0_22, x0_23, x0_24, x0_25, rfl, w0_0, w0_1, w0_2, w0_3, w0_4, w0_5, w0_6, w0_7, w0_8, w0_9, w0_10, w0_11, w0_12, w0_13, w0_14, w0_15, w0_16, w0_17, w0_18, w0_19, w0_20, w0_21, w0_23, w0_24, w0_25⟩ := open26 (hval 0 26 v0 rfl rfl) h0
  obtain ⟨n0_0, rfl, b0_0⟩ := wf_u64 w0_0
  obtain ⟨n0_1, rfl, b0_1⟩ := wf_u64 w0_1
  obtain ⟨n0_2, rfl, b0_2⟩ := wf_u64 w0_2
  obtain ⟨n0_3, rfl, b0_3⟩ := wf_u64 w0_3
  obtain ⟨n0_4, rfl, b0_4⟩ := wf_u64 w0_4
  obtain ⟨n0_5, rfl, b0_5⟩ := wf_u64 w0_5
  obtain ⟨n0_6, rfl, b0_6⟩ := wf_u64 w0_6
  obtain ⟨n0_7, rfl, b0_7⟩ := wf_u64 w0_7
  obtain ⟨n0_8, rfl, b0_8⟩ := wf_u64 w0_8
  obtain ⟨n0_9, rfl, b0_9⟩ := wf_u64 w0_9
  obtain ⟨n0_10, rfl, b0_10⟩ := wf_u64 w0_10
  obtain ⟨n0_11, rfl, b0_11⟩ := wf_u64 w0_11
  obtain ⟨n0_12, rfl, b0_12⟩ := wf_u64 w0_12
  obtain ⟨n0_13, rfl, b0_13⟩ := wf_u64 w0_13
  obtain ⟨n0_14, rfl, b0_14⟩ := wf_u64 w0_14
  obtain ⟨n0_15, rfl, b0_15⟩ := wf_u64 w0_15
  obtain ⟨n0_16, rfl, b0_16⟩ := wf_u64 w0_16
  obtain ⟨n0_17, rfl, b0_17⟩ := wf_u64 w0_17
  obtain ⟨n0_18, rfl, b0_18⟩ := wf_u64 w0_18
  obtain ⟨n0_19, rfl, b0_19⟩ := wf_u64 w0_19
  obtain ⟨n0_20, rfl, b0_20⟩ := wf_u64 w0_20
  obtain ⟨n0_21, rfl, b0_21⟩ := wf_u64 w0_21
  obtain ⟨n0_23, rfl, b0_23⟩ := wf_u8 w0_23
  obtain ⟨n0_24, rfl, b0_24⟩ := wf_u32 w0_24
  obtain ⟨n0_25, rfl, b0_25⟩ := wf_u32 w0_25
  obtain ⟨a1, rfl, rfl, rfl, w1⟩ := open_int Tryd.underlying22 (hval 1 22 v1 rfl rfl) h1
  obtain ⟨n1, rfl, b1⟩ := wf_u64 w1
  obtain ⟨a2, rfl, rfl, rfl, w2⟩ := open_int Tryd.underlying3 (hval 2 3 v2 rfl rfl) h2
  have b2 := wf_i64 w2
  clear hA0 hval0
  refine (walk n0_0 b0_0 n0_1 b0_1 n0_2 b0_2 n0_3 b0_3 n0_4 b0_4 n0_5 b0_5 n0_6 b0_6 n0_7 b0_7 n0_8 b0_8 n0_9 b0_9 n0_10 b0_10 n0_11 b0_11 n0_12 b0_12 n0_13 b0_13 n0_14 b0_14 n0_15 b0_15 n0_16 b0_16 n0_17 b0_17 n0_18 b0_18 n0_19 b0_19 n0_20 b0_20 n0_21 b0_21 x0_22 n0_23 b0_23 n0_24 b0_24 n0_25 b0_25 n1 b1 a2 b2 W  hT).mono fun e W' ⟨he, bel⟩ => ?_
  subst he
  exact ⟨_, rfl, _, _, _, [], _, [], hW', trodAll_mk1 (shut_bool Tryd.underlying4 _), (trodAll_cons_mk (Below.trod laidOut (by kernel_rfl) (of_decide_eq_true (by kernel_rfl)) k0 bel lt0) (trodAll_cons_mk (shut_int Tryd.underlying22 w1) (trodAll_cons_mk (shut_int Tryd.underlying3 w2) trodAll_mk0))), rfl, bel.frame _, fun h => by cases h⟩

theorem laid_met (os : Os) : laidMet Tryd.prog Rows.cpuIdleRow.laid ((World.doorLaid Tryd.prog 400 os).forCall (fun _ _ => 0) ⟨#[], #[.agg #[.int .u64 0, .int .u64 0, .int .u64 0, .int .u64 0, .int .u64 0, .int .u64 0, .int .u64 0, .int .u64 0, .int .u64 0, .int .u64 0, .int .u64 0, .int .u64 0, .int .u64 0, .int .u64 0, .int .u64 0, .int .u64 0, .int .u64 0, .int .u64 0, .int .u64 0, .int .u64 0, .int .u64 0, .int .u64 0, .bool false, .int .u8 0, .int .u32 0, .int .u32 0], .int .u64 0, .int .i64 0], []⟩).memory :=
  laidMet_of_run' 8 (by kernel_rfl) (by kernel_rfl)
theorem reads (os : Os) {H : Type} (enc : TypeId × Value → H) : ∃ places, DataW.whole enc Tryd.prog ((World.doorLaid Tryd.prog 400 os).forCall (fun _ _ => 0) ⟨#[], #[.agg #[.int .u64 0, .int .u64 0, .int .u64 0, .int .u64 0, .int .u64 0, .int .u64 0, .int .u64 0, .int .u64 0, .int .u64 0, .int .u64 0, .int .u64 0, .int .u64 0, .int .u64 0, .int .u64 0, .int .u64 0, .int .u64 0, .int .u64 0, .int .u64 0, .int .u64 0, .int .u64 0, .int .u64 0, .int .u64 0, .bool false, .int .u8 0, .int .u32 0, .int .u32 0], .int .u64 0, .int .i64 0], []⟩).memory Tryd.f7.params.toList Rows.cpuIdleSpec.vars false #[Value.agg #[.int .u64 0, .int .u64 0, .int .u64 0, .int .u64 0, .int .u64 0, .int .u64 0, .int .u64 0, .int .u64 0, .int .u64 0, .int .u64 0, .int .u64 0, .int .u64 0, .int .u64 0, .int .u64 0, .int .u64 0, .int .u64 0, .int .u64 0, .int .u64 0, .int .u64 0, .int .u64 0, .int .u64 0, .int .u64 0, .bool false, .int .u8 0, .int .u32 0, .int .u32 0], .int .u64 0, .int .i64 0].toList 8 = some ([.agg [.agg [.lit (.int .u64 0), .lit (.int .u64 0), .lit (.int .u64 0), .lit (.int .u64 0), .lit (.int .u64 0), .lit (.int .u64 0), .lit (.int .u64 0), .lit (.int .u64 0), .lit (.int .u64 0), .lit (.int .u64 0), .lit (.int .u64 0), .lit (.int .u64 0), .lit (.int .u64 0), .lit (.int .u64 0), .lit (.int .u64 0), .lit (.int .u64 0)], .lit (.int .u64 0), .lit (.int .u64 0), .lit (.int .u64 0), .lit (.int .u64 0), .lit (.int .u64 0), .lit (.int .u64 0), .lit (.bool false), .lit (.int .u8 0), .lit (.int .u32 0), .lit (.int .u32 0)], .lit (.int .u64 0), .lit (.int .i64 0)], [], places) :=
  ⟨[], by kernel_rfl⟩
set_option maxRecDepth 100000 in
theorem lifted (os : Os) (started : os.Started) (H : Type) (enc : TypeId × Value → H) (F : Stop.Interp) :
    ReturnsInHanded {} Tryd.checked os 7 .any ((OpenSpec.ofChange Rows.cpuIdleSpec).preRow enc Tryd.prog Tryd.f7 Rows.cpuIdleRow.domain false Rows.cpuIdleRow.laid) (((OpenSpec.ofChange Rows.cpuIdleSpec).at F).post enc Tryd.prog Tryd.f7 false true false false) := by
  obtain ⟨places, hx⟩ := reads os enc
  refine returnsInHanded_of_row (C := Tryd.checked) (s := OpenSpec.ofChange Rows.cpuIdleSpec) own started (by kernel_rfl) Tryd.func7
    (witness_row_atRef (enc := enc) (C := Tryd.checked) false (World.doorLaid Tryd.prog 400 os) #[.agg #[.int .u64 0, .int .u64 0, .int .u64 0, .int .u64 0, .int .u64 0, .int .u64 0, .int .u64 0, .int .u64 0, .int .u64 0, .int .u64 0, .int .u64 0, .int .u64 0, .int .u64 0, .int .u64 0, .int .u64 0, .int .u64 0, .int .u64 0, .int .u64 0, .int .u64 0, .int .u64 0, .int .u64 0, .int .u64 0, .bool false, .int .u8 0, .int .u32 0, .int .u32 0], .int .u64 0, .int .i64 0] rfl (by kernel_rfl) (by kernel_rfl) (by kernel_rfl)
      (OpenSpec.preRow_of_cond 8 hx (by kernel_rfl) (fun k hk => by cases hk) (by kernel_rfl) (laid_met os))) ?_
  intro W base args ds gs before hval hW _ _ _ hL hS _
  exact contract H enc W base args ds gs before hval hW (tw_of hL hS)
theorem said : Rows.CpuIdleSaid :=
  OpenClaim.holds_of_cond 7 Tryd.f7 rfl rfl rfl rfl rfl rfl rfl ⟨rfl, rfl, rfl, rfl, rfl⟩ rfl rfl rfl rfl rfl (by kernel_rfl) Tryd.func7 (by kernel_rfl)
    (of_decide_eq_true (by kernel_rfl)) (by unfold Func.isWrapper; first | (rw [if_pos (by decide +kernel)]; kernel_rfl) | (rw [if_neg (by decide +kernel)]; exact ⟨rfl, rfl⟩))
    (fun os started H enc _ F => by rw [OpenClaim.pre_eq_preRow]; exact lifted os started H enc F)
theorem plain (f : FuncId) (fn : Func) (hf : Tryd.pinned.checked.prog.funcNamed Rows.cpuIdleRow.func = some f) (hfn : Tryd.pinned.checked.prog.funcs[f]? = some fn) :
    Rows.cpuIdleCard.stood.looks = Tryd.pinned.checked.prog.looks [] ∧ ∀ (j : Nat) t, fn.params[j]? = some t → Tryd.pinned.checked.prog.wantsStandIn t = false := by
  obtain rfl : f = 7 := Option.some.inj ((show Tryd.prog.funcNamed Rows.cpuIdleRow.func = some 7 by kernel_rfl).symm.trans hf) |>.symm
  obtain rfl : fn = Tryd.f7 := (Option.some.inj (Tryd.func7.symm.trans hfn)).symm
  refine ⟨by kernel_rfl, fun j t ht => ?_⟩
  rw [Tryd.params7] at ht
  have hm : t ∈ [26, 22, 3] := by simpa using Array.mem_of_getElem? ht
  have hall : ([26, 22, 3].all fun u => !Tryd.prog.wantsStandIn u) = true := by kernel_rfl
  exact (show Tryd.prog.wantsStandIn t = false by simpa using List.all_eq_true.1 hall t hm)
/-- THE TIED CARD. -/
theorem proved : Rows.CpuIdleCardSaid :=
  Claim7.holds_tied_plain_at .later [] _ _ _ _ said (fun _ h => by cases h) (by kernel_rfl) (fun _ h => by cases h) cpuIdle_row_tie rfl ⟨rfl, rfl⟩ (by kernel_rfl) rfl plain (by kernel_rfl)
#print axioms proved
end Go.Proofs.YtpbjfjedgcabhaaDoor.cpuIdle
