/-
  One instruction: what cpu's small functions leave of a seat: next, trap, number, wait, goes, branch, jump, reckon.
-/
import Derived.Test.YtpbjfjedgcabhaaDoorZB
import Derived.Test.YtpbjfjedgcabhaaDoorYF
import Derived.Test.YtpbjfjedgcabhaaDoorCE
import Derived.Test.YtpbjfjedgcabhaaDoorRQ
namespace Go.Proofs.YtpbjfjedgcabhaaDoor
open Go.ChangeShapes Go.WideShapes Go.ChangeAt Go.RowKit
open WM CM
set_option maxRecDepth 100000
set_option linter.unusedVariables false

/-! ### small blocks of two cells -/
structure X2 (w : World) (N : Nat) (a b : Value) : Prop where
  k0 : w.cell? ⟨N, 0, none⟩ = some a
  k1 : w.cell? ⟨N, 1, none⟩ = some b
  lt : N < w.heap.size
  fz : ∀ i, w.frozen? ⟨N, i, none⟩ = false
theorem x2_new (w : World) (a b : Value) (t : TypeId) : X2 (w.alloc (.cells #[a, b] t)) w.heap.size a b := ⟨by simp, by simp, by simp, fun i => by simp⟩
theorem X2.later {w w' : World} {N : Nat} {a b : Value} (h : X2 w N a b) (hb : Below w.heap.size w w') : X2 w' N a b :=
  ⟨(hb.cell (p := ⟨N, 0, none⟩) h.lt).trans h.k0, (hb.cell (p := ⟨N, 1, none⟩) h.lt).trans h.k1, Nat.lt_of_lt_of_le h.lt hb.size, fun i => (hb.frozen (p := ⟨N, i, none⟩) h.lt).trans (h.fz i)⟩
theorem X2.kept {w w' : World} {N : Nat} {a b : Value} {row : Option Nat} (h : X2 w N a b) (hg : w.grownBy w' row) (hr : some N ≠ row) : X2 w' N a b :=
  have hb := hg.block N h.lt hr
  ⟨(World.cell?_of_block (a := ⟨N, 0, none⟩) hb).trans h.k0, (World.cell?_of_block (a := ⟨N, 1, none⟩) hb).trans h.k1, Nat.lt_of_lt_of_le h.lt hg.size, fun i => (World.frozen?_of_block (a := ⟨N, i, none⟩) hb).trans (h.fz i)⟩
theorem load2 (W : World) (N : Nat) (v0 v1 : Value) (h0 : W.cell? ⟨N, 0, none⟩ = some v0) (h1 : W.cell? ⟨N, 1, none⟩ = some v1) :
    (loadVar 50 ⟨N, 0, none⟩).run Tryd.prog W = .ok (.agg #[v0, v1]) W := by
  simp [go_sem, h0, h1]
theorem results2c {fn : Func} {p : Tmp} (hr : fn.results = #[.cell p 50]) {tmps : Array Value} {W : World} {N : Nat} {v0 v1 : Value} (hp : tmps.getD p undef = .pointer (some ⟨N, 0, none⟩))
    (h0 : W.cell? ⟨N, 0, none⟩ = some v0) (h1 : W.cell? ⟨N, 1, none⟩ = some v1) : (results fn tmps).run Tryd.prog W = .ok (.agg #[v0, v1]) W := by
  have hl := load2 W N v0 v1 h0 h1
  clear h0 h1
  have hp' : tmps[p]?.getD undef = .pointer (some ⟨N, 0, none⟩) := by simpa using hp
  simp only [results, hr]
  simp [hp', asAddr, hl]
/-- The end of a function whose Exit was stored into its own block. -/
theorem retX {fn : Func} {p : Tmp} {R : Ending → World → Prop} {tmps : Array Value} {U : World} {N : Nat} {v0 v1 a b : Value} (hr : fn.results = #[.cell p 50]) (hp : tmps.getD p undef = .pointer (some ⟨N, 0, none⟩))
    (hx : X2 U N a b) (hR : R (.returned (.agg #[v0, v1])) ((U.setCell ⟨N, 0, none⟩ v0).setCell ⟨N, 1, none⟩ v1)) : bodyPost Tryd.prog fn R .ret ⟨tmps, []⟩ ((U.setCell ⟨N, 0, none⟩ v0).setCell ⟨N, 1, none⟩ v1) := by
  have h0 := hx.k0
  have h1 := hx.k1
  exact bodyPost_ret (results2c (v0 := v0) (v1 := v1) hr hp (by simp [set_other, set_same, h0]) (by simp [set_other, set_same, h1])) rfl hR

/-! ### a seat that is turned, beside new memory -/
theorem Sn.grow {w w1 w2 : World} {B : Nat} {s : SV} (h : Sn w w1 B s) (hb : Below w1.heap.size w1 w2) : Sn w w2 B s := ⟨h.ls.below hb, grown_trans h.gr (grown_below hb _)⟩
theorem Sn.far {w w1 : World} {B : Nat} {s : SV} (h : Sn w w1 B s) (hB : B < w.heap.size) (N i : Nat) (v : Value) (hN : w.heap.size ≤ N) : Sn w (w1.setCell ⟨N, i, none⟩ v) B s := by
  have hne : B ≠ N := by omega
  refine ⟨h.ls.kept (grown_setCellS w1 ⟨N, i, none⟩ v) (by simpa using hne), ⟨h.gr.os, h.gr.tape, h.gr.output, by simpa [World.setCell] using h.gr.size, fun k hk hs => ?_⟩⟩
  rw [Below.heap_setCell w1 ⟨N, i, none⟩ v k (by simp; omega)]
  exact h.gr.block k hk hs
theorem Sn.far2 {w w1 : World} {B : Nat} {s : SV} (h : Sn w w1 B s) (hB : B < w.heap.size) (N : Nat) (v0 v1 : Value) (hN : w.heap.size ≤ N) : Sn w ((w1.setCell ⟨N, 0, none⟩ v0).setCell ⟨N, 1, none⟩ v1) B s :=
  (h.far hB N 0 v0 hN).far hB N 1 v1 hN

/-! ### next, trap -/
def nextV (s : SV) : SV := { s with pc := (s.pc + 4) % 18446744073709551616 }
def exV (k n : Int) : Value := .agg #[.int .u8 k, .int .u64 n]
theorem next_in {w : World} {B : Nat} {s : SV} (h : LS w B s) (k n : Int) :
    Calls Tryd.prog 42 #[.pointer (some ⟨B, 0, none⟩), exV k n] w fun e w' => e = .returned (exV k n) ∧ Sn w w' B (nextV s) := by
  have c1 := h.pc'
  have f1 := h.fz 16
  have HU := Lib.hid (show IntKind.u64.wrap ((s.pc : Int) + 4) = (((s.pc + 4) % 18446744073709551616 : Nat) : Int) by rw [IntKind.wrap_u64]; omega)
  have S3 := Lib.hid (((Sn.self h).cell (t := nextV s) 16 (.int .u64 (((s.pc + 4) % 18446744073709551616 : Nat) : Int)) rfl))
  have hlt := h.lt
  clear h
  unfold exV
  generalize (s.pc + 4) % 18446744073709551616 = p' at *
  have hne : ¬ B = w.heap.size := by omega
  have hne2 : ¬ w.heap.size = B := by omega
  have hne3 : ¬ B = w.heap.size + 1 := by omega
  go_enter Tryd.func42, Tryd.ntmps42
  go_wp2
  rw [HU.out]
  refine bodyPost_ret (v := .agg #[.int .u8 k, .int .u64 n]) (by simp [results, Tryd.results42, go_sem]) rfl ⟨rfl, ?_⟩
  exact ((S3.out).grow (below_new _ _)).grow (below_new _ _)
def exT (s : SV) (c d : Nat) : Int := if (trapV s c d).st = 2 then 4 else 1
theorem ctrap_in {w : World} {B : Nat} {s : SV} (h : LS w B s) (c d : Nat) :
    Calls Tryd.prog 21 #[.pointer (some ⟨B, 0, none⟩), .int .u64 c, .int .u64 d] w fun e w' => e = .returned (exV (exT s c d) c) ∧ Sn w w' B (trapV s c d) := by
  have S2 := (Sn.self h).grow (below_new w (.cells #[.int .u8 0, .int .u64 0] 50))
  have HT := Lib.hid (trap_in S2.ls c d)
  have X := Lib.hid (x2_new w (.int .u8 0) (.int .u64 0) 50)
  have HS2 := Lib.hid S2
  have hlt := h.lt
  clear S2 h
  unfold exV exT
  generalize trapV s c d = t at *
  obtain ⟨k, hk⟩ : ∃ k : Int, (if t.st = 2 then 4 else 1 : Int) = k := ⟨_, rfl⟩
  rw [hk]
  have HK := Lib.hid hk
  clear hk
  go_enter Tryd.func21, Tryd.ntmps21
  go_wp2_with fail
  refine (HT.out).mono ?_
  rintro e w1 ⟨rfl, h1⟩
  have c1 := h1.ls.st'
  have X1 := (X.out).kept h1.gr (by simp; omega)
  have F := Lib.hid (fun a b => ((HS2.out).trans h1).far2 hlt w.heap.size a b (Nat.le_refl _))
  have hX := Lib.hid X1
  have k0 := X1.k0
  have k1 := X1.k1
  have kf := X1.fz
  clear X1 h1 HS2
  by_cases h2 : t.st = 2
  · obtain rfl : 4 = k := by have := HK.out; rwa [if_pos h2] at this
    rw [h2] at c1
    go_wp2
    refine retX (hr := rfl) (hp := rfl) (hx := hX.out) (hR := ⟨rfl, F.out _ _⟩)
  · obtain rfl : 1 = k := by have := HK.out; rwa [if_neg h2] at this
    have z : ((t.st : Int) == 2) = false := by simp; omega
    go_wp2
    refine retX (hr := rfl) (hp := rfl) (hx := hX.out) (hR := ⟨rfl, F.out _ _⟩)
theorem cnumber_in (c a b d : Nat) (n : Int) (w : World) :
    Calls Tryd.prog 43 #[opV c a b d n] w fun e w' => e = .returned (.int .u64 ((n % 18446744073709551616).toNat : Nat)) ∧ Below w.heap.size w w' := by
  have HU := Lib.hid (show IntKind.u64.wrap n = (((n % 18446744073709551616).toNat : Nat) : Int) by rw [IntKind.wrap_u64]; omega)
  generalize (n % 18446744073709551616).toNat = k at *
  unfold opV
  go_enter Tryd.func43, Tryd.ntmps43
  go_wp2
  rw [HU.out]
  go_ret
  exact ⟨rfl, below_new _ _⟩
end Go.Proofs.YtpbjfjedgcabhaaDoor
