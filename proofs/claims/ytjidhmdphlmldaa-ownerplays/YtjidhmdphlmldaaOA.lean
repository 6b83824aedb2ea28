/-
  Memory of package owner: rows of four cells in a block, a book that points at them; which blocks a call turns. Contracts of New, Get, isVM.
-/
import Derived.Test.YtjidhmdphlmldaaRows
import Derived.Test.YtjidhmdphlmldaaLT
import Derived.WalkKit
import Derived.ProofKit
import Derived.OpenShut
import Derived.Outline
import Derived.WalkLawsBesides
import Derived.Deep.QuietTactic
import Derived.BigQuiet
import Derived.BigRegion
import Derived.RegionTactic
import Derived.Deep.RegionLaw
import Derived.Deep.AppendLies
import Derived.Maps.AppendAt
import Derived.Laws.CopyOwn
import Derived.Laws.MakeOwn
import Derived.Laws.OwnMore
import Derived.Lib.Hide
namespace Go.Proofs.Ytjidhmdphlmldaa
open Go.ChangeShapes Go.WideShapes Go.ChangeAt Go.RowKit
set_option maxRecDepth 100000

theorem of_u8 {a : Int} (h : (Lit.int .u8 a).wf = true) : ∃ n : Nat, a = n ∧ n < 256 := by
  simp only [Lit.wf, IntKind.min, IntKind.max, IntKind.signed, IntKind.bits, Bool.and_eq_true] at h
  simp at h
  exact ⟨a.toNat, by omega, by omega⟩
theorem of_i64 {a : Int} (h : (Lit.int .i64 a).wf = true) : -9223372036854775808 ≤ a ∧ a ≤ 9223372036854775807 := by
  simp only [Lit.wf, IntKind.min, IntKind.max, IntKind.signed, IntKind.bits, Bool.and_eq_true, decide_eq_true_eq] at h
  simp at h
  omega
theorem grown_of_below {w w' : World} (h : Below w.heap.size w w') : w.grownBy w' none := ⟨h.os, h.tape, h.output, h.size, fun k hk _ => h.block k hk⟩
theorem grown_setCell (w : World) (p : Addr) (u : Value) : w.grownBy (w.setCell p u) (some p.block) :=
  ⟨rfl, rfl, rfl, by simp [World.setCell], fun k _ hk => Below.heap_setCell w p u k (fun e => hk (by rw [e]))⟩
theorem grown_trans {a b c : World} {r : Option Nat} (h : a.grownBy b r) (k : b.grownBy c r) : a.grownBy c r :=
  ⟨k.os.trans h.os, k.tape.trans h.tape, k.output.trans h.output, Nat.le_trans h.size k.size, fun i hi hs => (k.block i (Nat.lt_of_lt_of_le hi h.size) hs).trans (h.block i hi hs)⟩
theorem grown_drewN {a b : World} {r : Option Nat} (h : a.grownBy b r) (n : Nat) : a.grownBy (b.drewN n) r := ⟨h.os, h.tape, h.output, h.size, h.block⟩
theorem grown_drew {a b : World} {r : Option Nat} (h : a.grownBy b r) : a.grownBy b.drew r := ⟨h.os, h.tape, h.output, h.size, h.block⟩
theorem grown_any {a b : World} {r : Option Nat} (h : a.grownBy b none) : a.grownBy b r := ⟨h.os, h.tape, h.output, h.size, fun i hi _ => h.block i hi (by simp)⟩
theorem grown_below {a b : World} (h : Below a.heap.size a b) (r : Option Nat) : a.grownBy b r := grown_any (grown_of_below h)
theorem set_other' (U : World) (B i j : Nat) (v : Value) (h : i ≠ j) : (U.setCell ⟨B, i, none⟩ v).cell? ⟨B, j, none⟩ = U.cell? ⟨B, j, none⟩ := World.cell?_setCell_other _ _ _ _ (by simp)
theorem set_same' (U : World) (B i : Nat) (v : Value) (h : (U.cell? ⟨B, i, none⟩).isSome = true) : (U.setCell ⟨B, i, none⟩ v).cell? ⟨B, i, none⟩ = some v := World.cell?_setCell_same' U _ v h

/-- A row of a book. -/
structure R4 where
  k : Nat
  vm : Int
  pg : Int
  sh : Int
def R4.zero : R4 := ⟨0, 0, 0, 0⟩
def R4.agg (r : R4) : Value := .agg #[.int .u8 (r.k : Nat), .int .i64 r.vm, .int .i64 r.pg, .int .i64 r.sh]
def upd4 (L : Nat → R4) (i : Nat) (r : R4) : Nat → R4 := fun j => if j = i then r else L j
theorem upd4_same (L : Nat → R4) (i : Nat) (r : R4) : upd4 L i r i = r := if_pos rfl
theorem upd4_other (L : Nat → R4) (i : Nat) (r : R4) (j : Nat) (h : j ≠ i) : upd4 L i r j = L j := if_neg h

/-! ### small blocks, cell by cell -/
structure L4 (w : World) (B : Nat) (a b c d : Value) : Prop where
  k0 : w.cell? ⟨B, 0, none⟩ = some a
  k1 : w.cell? ⟨B, 1, none⟩ = some b
  k2 : w.cell? ⟨B, 2, none⟩ = some c
  k3 : w.cell? ⟨B, 3, none⟩ = some d
  lt : B < w.heap.size
  fz : ∀ i, w.frozen? ⟨B, i, none⟩ = false
theorem l4_new (w : World) (a b c d : Value) (t : TypeId) : L4 (w.alloc (.cells #[a, b, c, d] t)) w.heap.size a b c d := ⟨by simp, by simp, by simp, by simp, by simp, fun i => by simp⟩
theorem L4.later {w w' : World} {B : Nat} {a b c d : Value} (h : L4 w B a b c d) (hb : Below w.heap.size w w') : L4 w' B a b c d :=
  ⟨(hb.cell h.lt).trans h.k0, (hb.cell h.lt).trans h.k1, (hb.cell h.lt).trans h.k2, (hb.cell h.lt).trans h.k3, Nat.lt_of_lt_of_le h.lt hb.size, fun i => (hb.frozen h.lt).trans (h.fz i)⟩
theorem L4.kept {w w' : World} {B : Nat} {a b c d : Value} {row : Option Nat} (h : L4 w B a b c d) (hg : w.grownBy w' row) (hr : some B ≠ row) : L4 w' B a b c d :=
  have hb := hg.block B h.lt hr
  ⟨(World.cell?_of_block (a := ⟨B, 0, none⟩) hb).trans h.k0, (World.cell?_of_block (a := ⟨B, 1, none⟩) hb).trans h.k1, (World.cell?_of_block (a := ⟨B, 2, none⟩) hb).trans h.k2, (World.cell?_of_block (a := ⟨B, 3, none⟩) hb).trans h.k3, Nat.lt_of_lt_of_le h.lt hg.size, fun i => (World.frozen?_of_block (a := ⟨B, i, none⟩) hb).trans (h.fz i)⟩

/-! ### rows in a block -/
structure RW (w : World) (g n : Nat) (L : Nat → R4) : Prop where
  lt : g < w.heap.size
  fz : ∀ i, w.frozen? ⟨g, i, none⟩ = false
  c0 : ∀ p, p < n → w.cell? ⟨g, p * 4, none⟩ = some (.int .u8 ((L p).k : Nat))
  c1 : ∀ p, p < n → w.cell? ⟨g, p * 4 + 1, none⟩ = some (.int .i64 (L p).vm)
  c2 : ∀ p, p < n → w.cell? ⟨g, p * 4 + 2, none⟩ = some (.int .i64 (L p).pg)
  c3 : ∀ p, p < n → w.cell? ⟨g, p * 4 + 3, none⟩ = some (.int .i64 (L p).sh)
theorem RW.kept {w w' : World} {g n : Nat} {L : Nat → R4} {row : Option Nat} (H : RW w g n L) (hg : w.grownBy w' row) (hr : some g ≠ row) : RW w' g n L :=
  have hb := hg.block g H.lt hr
  ⟨Nat.lt_of_lt_of_le H.lt hg.size, fun i => (World.frozen?_of_block (a := ⟨g, i, none⟩) hb).trans (H.fz i), fun p hp => (World.cell?_of_block (a := ⟨g, p * 4, none⟩) hb).trans (H.c0 p hp),
    fun p hp => (World.cell?_of_block (a := ⟨g, p * 4 + 1, none⟩) hb).trans (H.c1 p hp), fun p hp => (World.cell?_of_block (a := ⟨g, p * 4 + 2, none⟩) hb).trans (H.c2 p hp), fun p hp => (World.cell?_of_block (a := ⟨g, p * 4 + 3, none⟩) hb).trans (H.c3 p hp)⟩
theorem RW.below {w w' : World} {g n : Nat} {L : Nat → R4} (H : RW w g n L) (hb : Below w.heap.size w w') : RW w' g n L := H.kept (grown_of_below hb) (by simp)
theorem RW.congr {w : World} {g n : Nat} {L M : Nat → R4} (H : RW w g n L) (h : ∀ p, p < n → L p = M p) : RW w g n M :=
  ⟨H.lt, H.fz, fun p hp => by rw [← h p hp]; exact H.c0 p hp, fun p hp => by rw [← h p hp]; exact H.c1 p hp, fun p hp => by rw [← h p hp]; exact H.c2 p hp, fun p hp => by rw [← h p hp]; exact H.c3 p hp⟩
/-- A row is written. -/
def put4 (w : World) (g p : Nat) (r : R4) : World :=
  (((w.setCell ⟨g, p * 4, none⟩ (.int .u8 (r.k : Nat))).setCell ⟨g, p * 4 + 1, none⟩ (.int .i64 r.vm)).setCell ⟨g, p * 4 + 2, none⟩ (.int .i64 r.pg)).setCell ⟨g, p * 4 + 3, none⟩ (.int .i64 r.sh)
theorem put4_grown (w : World) (g p : Nat) (r : R4) : w.grownBy (put4 w g p r) (some g) :=
  grown_trans (grown_trans (grown_trans (grown_setCell w ⟨g, p * 4, none⟩ _) (grown_setCell _ ⟨g, p * 4 + 1, none⟩ _)) (grown_setCell _ ⟨g, p * 4 + 2, none⟩ _)) (grown_setCell _ ⟨g, p * 4 + 3, none⟩ _)
theorem RW.put {w : World} {g n : Nat} {L : Nat → R4} (H : RW w g n L) (p : Nat) (hp : p < n) (r : R4) : RW (put4 w g p r) g n (upd4 L p r) := by
  have e0 : (w.cell? ⟨g, p * 4, none⟩).isSome = true := by rw [H.c0 p hp]; rfl
  have e1 : ((w.setCell ⟨g, p * 4, none⟩ (.int .u8 (r.k : Nat))).cell? ⟨g, p * 4 + 1, none⟩).isSome = true := by rw [set_other' _ _ _ _ _ (by omega), H.c1 p hp]; rfl
  have e2 : (((w.setCell ⟨g, p * 4, none⟩ (.int .u8 (r.k : Nat))).setCell ⟨g, p * 4 + 1, none⟩ (.int .i64 r.vm)).cell? ⟨g, p * 4 + 2, none⟩).isSome = true := by rw [set_other' _ _ _ _ _ (by omega), set_other' _ _ _ _ _ (by omega), H.c2 p hp]; rfl
  have e3 : ((((w.setCell ⟨g, p * 4, none⟩ (.int .u8 (r.k : Nat))).setCell ⟨g, p * 4 + 1, none⟩ (.int .i64 r.vm)).setCell ⟨g, p * 4 + 2, none⟩ (.int .i64 r.pg)).cell? ⟨g, p * 4 + 3, none⟩).isSome = true := by rw [set_other' _ _ _ _ _ (by omega), set_other' _ _ _ _ _ (by omega), set_other' _ _ _ _ _ (by omega), H.c3 p hp]; rfl
  have far : ∀ j, j ≠ p * 4 → j ≠ p * 4 + 1 → j ≠ p * 4 + 2 → j ≠ p * 4 + 3 → (put4 w g p r).cell? ⟨g, j, none⟩ = w.cell? ⟨g, j, none⟩ := fun j h0 h1 h2 h3 => by
    unfold put4; rw [set_other' _ _ _ _ _ (by omega), set_other' _ _ _ _ _ (by omega), set_other' _ _ _ _ _ (by omega), set_other' _ _ _ _ _ (by omega)]
  have fz : ∀ (U : World) (a : Addr) (v : Value) (i : Nat), (U.setCell a v).frozen? ⟨g, i, none⟩ = U.frozen? ⟨g, i, none⟩ := fun U a v i => by simp
  refine ⟨Nat.lt_of_lt_of_le H.lt (put4_grown w g p r).size, fun i => ?_, fun q hq => ?_, fun q hq => ?_, fun q hq => ?_, fun q hq => ?_⟩
  · unfold put4; rw [fz, fz, fz, fz]; exact H.fz i
  · by_cases e : q = p
    · subst e
      unfold put4
      rw [set_other' _ _ _ _ _ (by omega), set_other' _ _ _ _ _ (by omega), set_other' _ _ _ _ _ (by omega), set_same' _ _ _ _ e0, upd4_same]
    · rw [far _ (by omega) (by omega) (by omega) (by omega), H.c0 q hq, upd4_other _ _ _ _ e]
  · by_cases e : q = p
    · subst e
      unfold put4
      rw [set_other' _ _ _ _ _ (by omega), set_other' _ _ _ _ _ (by omega), set_same' _ _ _ _ e1, upd4_same]
    · rw [far _ (by omega) (by omega) (by omega) (by omega), H.c1 q hq, upd4_other _ _ _ _ e]
  · by_cases e : q = p
    · subst e
      unfold put4
      rw [set_other' _ _ _ _ _ (by omega), set_same' _ _ _ _ e2, upd4_same]
    · rw [far _ (by omega) (by omega) (by omega) (by omega), H.c2 q hq, upd4_other _ _ _ _ e]
  · by_cases e : q = p
    · subst e
      unfold put4
      rw [set_same' _ _ _ _ e3, upd4_same]
    · rw [far _ (by omega) (by omega) (by omega) (by omega), H.c3 q hq, upd4_other _ _ _ _ e]

/-- A book: it points at block g with k rows. -/
structure Bk (w : World) (B g cap k : Nat) (L : Nat → R4) : Prop where
  c : w.cell? ⟨B, 0, none⟩ = some (.slice (some ⟨g, 0, none⟩) k cap)
  ne : B ≠ g
  row : RW w g k L
  le : k ≤ 512
theorem Bk.lt {w : World} {B g cap k : Nat} {L : Nat → R4} (H : Bk w B g cap k L) : B < w.heap.size := World.block_lt_of_cell? _ _ H.c
theorem Bk.kept {w w' : World} {B g cap k : Nat} {L : Nat → R4} {r : Option Nat} (H : Bk w B g cap k L) (hg : w.grownBy w' r) (h1 : some B ≠ r) (h2 : some g ≠ r) : Bk w' B g cap k L :=
  ⟨(World.cell?_of_block (a := ⟨B, 0, none⟩) (hg.block B H.lt h1)).trans H.c, H.ne, H.row.kept hg h2, H.le⟩
theorem Bk.below {w w' : World} {B g cap k : Nat} {L : Nat → R4} (H : Bk w B g cap k L) (hb : Below w.heap.size w w') : Bk w' B g cap k L := H.kept (grown_of_below hb) (by simp) (by simp)
theorem Bk.put {w : World} {B g cap k : Nat} {L : Nat → R4} (H : Bk w B g cap k L) (p : Nat) (hp : p < k) (r : R4) : Bk (put4 w g p r) B g cap k (upd4 L p r) :=
  ⟨(World.cell?_of_block (a := ⟨B, 0, none⟩) ((put4_grown w g p r).block B H.lt (by have := H.ne; simpa using this))).trans H.c, H.ne, H.row.put p hp r, H.le⟩

/-! ### a row that lies in a block of four cells, as the first of two results -/
theorem set4 (U : World) (B : Nat) (v0 v1 v2 v3 : Value) (h0 : (U.cell? ⟨B, 0, none⟩).isSome = true) (h1 : (U.cell? ⟨B, 1, none⟩).isSome = true) (h2 : (U.cell? ⟨B, 2, none⟩).isSome = true) (h3 : (U.cell? ⟨B, 3, none⟩).isSome = true) :
    ∀ W, W = (((U.setCell ⟨B, 0, none⟩ v0).setCell ⟨B, 1, none⟩ v1).setCell ⟨B, 2, none⟩ v2).setCell ⟨B, 3, none⟩ v3 → W.cell? ⟨B, 0, none⟩ = some v0 ∧ W.cell? ⟨B, 1, none⟩ = some v1 ∧ W.cell? ⟨B, 2, none⟩ = some v2 ∧ W.cell? ⟨B, 3, none⟩ = some v3 := by
  rintro _ rfl
  simp [set_other', set_same', h0, h1, h2, h3]
theorem load4 (W : World) (B : Nat) (v0 v1 v2 v3 : Value) (h0 : W.cell? ⟨B, 0, none⟩ = some v0) (h1 : W.cell? ⟨B, 1, none⟩ = some v1) (h2 : W.cell? ⟨B, 2, none⟩ = some v2) (h3 : W.cell? ⟨B, 3, none⟩ = some v3) :
    (loadVar 53 ⟨B, 0, none⟩).run Try.prog W = .ok (.agg #[v0, v1, v2, v3]) W := by
  simp [go_sem, h0, h1, h2, h3]
theorem results42 {fn : Func} {p u : Tmp} (hr : fn.results = #[.cell p 53, .tmp u]) {tmps : Array Value} {W : World} {B : Nat} {v0 v1 v2 v3 : Value} (hp : tmps.getD p undef = .pointer (some ⟨B, 0, none⟩))
    (h0 : W.cell? ⟨B, 0, none⟩ = some v0) (h1 : W.cell? ⟨B, 1, none⟩ = some v1) (h2 : W.cell? ⟨B, 2, none⟩ = some v2) (h3 : W.cell? ⟨B, 3, none⟩ = some v3) :
    (results fn tmps).run Try.prog W = .ok (.tuple #[.agg #[v0, v1, v2, v3], tmps.getD u undef]) W := by
  have hl := load4 W B v0 v1 v2 v3 h0 h1 h2 h3
  clear h0 h1 h2 h3
  have hp' : tmps[p]?.getD undef = .pointer (some ⟨B, 0, none⟩) := by simpa using hp
  simp only [results, hr]
  simp [hp', asAddr, hl]
theorem ret42 {fn : Func} {p u : Tmp} {R : Ending → World → Prop} {tmps : Array Value} {U : World} {B : Nat} {v0 v1 v2 v3 : Value} (hr : fn.results = #[.cell p 53, .tmp u]) (hp : tmps.getD p undef = .pointer (some ⟨B, 0, none⟩))
    (h0 : (U.cell? ⟨B, 0, none⟩).isSome = true) (h1 : (U.cell? ⟨B, 1, none⟩).isSome = true) (h2 : (U.cell? ⟨B, 2, none⟩).isSome = true) (h3 : (U.cell? ⟨B, 3, none⟩).isSome = true)
    (hR : R (.returned (.tuple #[.agg #[v0, v1, v2, v3], tmps.getD u undef])) ((((U.setCell ⟨B, 0, none⟩ v0).setCell ⟨B, 1, none⟩ v1).setCell ⟨B, 2, none⟩ v2).setCell ⟨B, 3, none⟩ v3)) :
    bodyPost Try.prog fn R .ret ⟨tmps, []⟩ ((((U.setCell ⟨B, 0, none⟩ v0).setCell ⟨B, 1, none⟩ v1).setCell ⟨B, 2, none⟩ v2).setCell ⟨B, 3, none⟩ v3) := by
  obtain ⟨r0, r1, r2, r3⟩ := set4 U B v0 v1 v2 v3 h0 h1 h2 h3 _ rfl
  exact bodyPost_ret (results42 hr hp r0 r1 r2 r3) rfl hR
theorem ret42a {fn : Func} {p u : Tmp} {R : Ending → World → Prop} {tmps : Array Value} {U : World} {B : Nat} {v0 v1 v2 v3 : Value} {o : Obj} (hr : fn.results = #[.cell p 53, .tmp u]) (hp : tmps.getD p undef = .pointer (some ⟨B, 0, none⟩))
    (h0 : (U.cell? ⟨B, 0, none⟩).isSome = true) (h1 : (U.cell? ⟨B, 1, none⟩).isSome = true) (h2 : (U.cell? ⟨B, 2, none⟩).isSome = true) (h3 : (U.cell? ⟨B, 3, none⟩).isSome = true) (hl : B < U.heap.size)
    (hR : R (.returned (.tuple #[.agg #[v0, v1, v2, v3], tmps.getD u undef])) (((((U.setCell ⟨B, 0, none⟩ v0).setCell ⟨B, 1, none⟩ v1).setCell ⟨B, 2, none⟩ v2).setCell ⟨B, 3, none⟩ v3).alloc o)) :
    bodyPost Try.prog fn R .ret ⟨tmps, []⟩ (((((U.setCell ⟨B, 0, none⟩ v0).setCell ⟨B, 1, none⟩ v1).setCell ⟨B, 2, none⟩ v2).setCell ⟨B, 3, none⟩ v3).alloc o) := by
  obtain ⟨r0, r1, r2, r3⟩ := set4 U B v0 v1 v2 v3 h0 h1 h2 h3 _ rfl
  have hz : B < ((((U.setCell ⟨B, 0, none⟩ v0).setCell ⟨B, 1, none⟩ v1).setCell ⟨B, 2, none⟩ v2).setCell ⟨B, 3, none⟩ v3).heap.size := by simpa [World.setCell] using hl
  exact bodyPost_ret (results42 hr hp ((World.cell?_alloc_past _ B 0 hz).trans r0) ((World.cell?_alloc_past _ B 1 hz).trans r1) ((World.cell?_alloc_past _ B 2 hz).trans r2) ((World.cell?_alloc_past _ B 3 hz).trans r3)) rfl hR

/-! ### isVM, Get -/
def isVMb (n : Int) : Bool := decide (0 ≤ n) && decide (n < 6)
theorem isVM_in (n : Int) (w : World) : Calls Try.prog 38 #[.int .i64 n] w fun e w' => e = .returned (.bool (isVMb n)) ∧ w = w' := by
  obtain ⟨b, hb⟩ : ∃ b, isVMb n = b := ⟨_, rfl⟩
  rw [hb]
  have HB := Lib.hid hb
  clear hb
  by_cases h0 : 0 ≤ n
  · go_enter Try.func38, Try.ntmps38
    go_wp2
    go_ret
    exact ⟨by rw [← HB.out]; simp [isVMb, h0], rfl⟩
  · go_enter Try.func38, Try.ntmps38
    go_wp2
    go_ret
    exact ⟨by rw [← HB.out]; unfold isVMb; rw [decide_eq_false (by omega)]; rfl, rfl⟩
theorem get_yes {w : World} {B g cap k : Nat} {L : Nat → R4} (H : Bk w B g cap k L) (f : Nat) (hf : f < k) :
    Calls Try.prog 28 #[.pointer (some ⟨B, 0, none⟩), .int .i64 f] w fun e w' => e = .returned (.tuple #[(L f).agg, .int .i64 0]) ∧ Below w.heap.size w w' := by
  have b1 := below_new w (.cells #[.int .u8 0, .int .i64 0, .int .i64 0, .int .i64 0] 53)
  have H1 := H.below b1
  have l1 := l4_new w (.int .u8 0) (.int .i64 0) (.int .i64 0) (.int .i64 0) 53
  have c := H1.c
  have d0 := H1.row.c0 f hf
  have d1 := H1.row.c1 f hf
  have d2 := H1.row.c2 f hf
  have d3 := H1.row.c3 f hf
  unfold R4.agg
  generalize L f = r at *
  obtain ⟨rk, rv, rp, rs⟩ := r
  simp only at d0 d1 d2 d3
  show Calls _ _ _ _ fun e w' => e = .returned (.tuple #[.agg #[.int .u8 (rk : Nat), .int .i64 rv, .int .i64 rp, .int .i64 rs], .int .i64 0]) ∧ Below w.heap.size w w'
  obtain ⟨e0, e1, e2, e3, el, ef⟩ := l1
  have f0 : ¬ (f : Int) < 0 := by omega
  have f1 : ¬ (k : Int) ≤ (f : Int) := by omega
  have B1 := Lib.hid b1
  clear H H1 b1
  go_enter Try.func28, Try.ntmps28
  go_wp2
  refine bodyPost_ret (v := _) (by simp [results, Try.results28, go_sem]) rfl ⟨rfl, ?_⟩
  repeat (first | with_reducible exact B1.out | with_reducible exact Below.refl _ _ | with_reducible refine Below.setCell ?_ (by simp) _ | with_reducible refine below_more ?_ _)
theorem get_no {w : World} {B g cap k : Nat} {L : Nat → R4} (H : Bk w B g cap k L) (f : Int) (hf : ¬ (0 ≤ f ∧ f < k)) :
    Calls Try.prog 28 #[.pointer (some ⟨B, 0, none⟩), .int .i64 f] w fun e w' => e = .returned (.tuple #[R4.zero.agg, .int .i64 1]) ∧ Below w.heap.size w w' := by
  have b1 := below_new w (.cells #[.int .u8 0, .int .i64 0, .int .i64 0, .int .i64 0] 53)
  have H1 := H.below b1
  have l1 := l4_new w (.int .u8 0) (.int .i64 0) (.int .i64 0) (.int .i64 0) 53
  have c := H1.c
  unfold R4.agg R4.zero
  obtain ⟨e0, e1, e2, e3, el, ef⟩ := l1
  have B1 := Lib.hid b1
  clear H H1 b1
  by_cases f0 : f < 0
  · clear hf
    go_enter Try.func28, Try.ntmps28
    go_wp2
    refine bodyPost_ret (v := _) (by simp [results, Try.results28, go_sem]) rfl ⟨rfl, ?_⟩
    repeat (first | with_reducible exact B1.out | with_reducible exact Below.refl _ _ | with_reducible refine Below.setCell ?_ (by simp) _ | with_reducible refine below_more ?_ _)
  · have f1 : (k : Int) ≤ f := by omega
    clear hf
    go_enter Try.func28, Try.ntmps28
    go_wp2
    refine bodyPost_ret (v := _) (by simp [results, Try.results28, go_sem]) rfl ⟨rfl, ?_⟩
    repeat (first | with_reducible exact B1.out | with_reducible exact Below.refl _ _ | with_reducible refine Below.setCell ?_ (by simp) _ | with_reducible refine below_more ?_ _)
theorem get_nil (w : World) (f : Int) :
    Calls Try.prog 28 #[.pointer none, .int .i64 f] w fun e w' => e = .returned (.tuple #[R4.zero.agg, .int .i64 1]) ∧ Below w.heap.size w w' := by
  have b1 := below_new w (.cells #[.int .u8 0, .int .i64 0, .int .i64 0, .int .i64 0] 53)
  have l1 := l4_new w (.int .u8 0) (.int .i64 0) (.int .i64 0) (.int .i64 0) 53
  unfold R4.agg R4.zero
  obtain ⟨e0, e1, e2, e3, el, ef⟩ := l1
  have B1 := Lib.hid b1
  clear b1
  go_enter Try.func28, Try.ntmps28
  go_wp2
  refine bodyPost_ret (v := _) (by simp [results, Try.results28, go_sem]) rfl ⟨rfl, ?_⟩
  repeat (first | with_reducible exact B1.out | with_reducible exact Below.refl _ _ | with_reducible refine Below.setCell ?_ (by simp) _ | with_reducible refine below_more ?_ _)
end Go.Proofs.Ytjidhmdphlmldaa
