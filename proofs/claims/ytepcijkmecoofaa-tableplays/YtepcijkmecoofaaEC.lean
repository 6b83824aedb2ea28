/-
  Contracts of package table's entries (layoutOf, Pack, Unpack): each returns what the plain text names; what was there is left alone.
-/
import Derived.Test.YtepcijkmecoofaaEM
import Derived.Test.YtepcijkmecoofaaWC
import Derived.Test.YtepcijkmecoofaaLT
import Derived.Deep.RegionHeld3
namespace Go.Proofs.Ytepcijkmecoofaa
open Go.ChangeShapes Go.WideShapes Go.ChangeAt Go.RowKit
open WM EM
set_option maxRecDepth 100000

/-! ### small blocks, cell by cell -/
structure L3 (w : World) (B : Nat) (a b c : Value) : Prop where
  k0 : w.cell? ⟨B, 0, none⟩ = some a
  k1 : w.cell? ⟨B, 1, none⟩ = some b
  k2 : w.cell? ⟨B, 2, none⟩ = some c
  lt : B < w.heap.size
  fz : ∀ i, w.frozen? ⟨B, i, none⟩ = false
theorem l3_new (w : World) (a b c : Value) (t : TypeId) : L3 (w.alloc (.cells #[a, b, c] t)) w.heap.size a b c := ⟨by simp, by simp, by simp, by simp, fun i => by simp⟩
theorem L3.later {w w' : World} {B : Nat} {a b c : Value} (h : L3 w B a b c) (hb : Below w.heap.size w w') : L3 w' B a b c :=
  ⟨(hb.cell h.lt).trans h.k0, (hb.cell h.lt).trans h.k1, (hb.cell h.lt).trans h.k2, Nat.lt_of_lt_of_le h.lt hb.size, fun i => (hb.frozen h.lt).trans (h.fz i)⟩
structure L4 (w : World) (B : Nat) (a b c d : Value) : Prop where
  k0 : w.cell? ⟨B, 0, none⟩ = some a
  k1 : w.cell? ⟨B, 1, none⟩ = some b
  k2 : w.cell? ⟨B, 2, none⟩ = some c
  k3 : w.cell? ⟨B, 3, none⟩ = some d
  lt : B < w.heap.size
  fz : ∀ i, w.frozen? ⟨B, i, none⟩ = false
theorem l4_new (w : World) (a b c d : Value) (t : TypeId) : L4 (w.alloc (.cells #[a, b, c, d] t)) w.heap.size a b c d := ⟨by simp, by simp, by simp, by simp, by simp, fun i => by simp⟩
theorem L4.later {w w' : World} {B : Nat} {a b c d : Value} (h : L4 w B a b c d) (hb : Below w.heap.size w w') : L4 w' B a b c d :=
  ⟨(hb.cell h.lt).trans h.k0, (hb.cell h.lt).trans h.k1, (hb.cell h.lt).trans h.k2, (hb.cell h.lt).trans h.k3, Nat.lt_of_lt_of_le h.lt hb.size, fun i => (hb.frozen h.lt).trans (h.fz i)⟩

/-! ### an entry that lies in a block of three cells, as the first of two results -/
theorem set_other' (U : World) (B i j : Nat) (v : Value) (h : i ≠ j) : (U.setCell ⟨B, i, none⟩ v).cell? ⟨B, j, none⟩ = U.cell? ⟨B, j, none⟩ := World.cell?_setCell_other _ _ _ _ (by simp)
theorem set_same' (U : World) (B i : Nat) (v : Value) (h : (U.cell? ⟨B, i, none⟩).isSome = true) : (U.setCell ⟨B, i, none⟩ v).cell? ⟨B, i, none⟩ = some v := World.cell?_setCell_same' U _ v h
theorem set3 (U : World) (B : Nat) (v0 v1 v2 : Value) (h0 : (U.cell? ⟨B, 0, none⟩).isSome = true) (h1 : (U.cell? ⟨B, 1, none⟩).isSome = true) (h2 : (U.cell? ⟨B, 2, none⟩).isSome = true) :
    (((U.setCell ⟨B, 0, none⟩ v0).setCell ⟨B, 1, none⟩ v1).setCell ⟨B, 2, none⟩ v2).cell? ⟨B, 0, none⟩ = some v0 ∧ (((U.setCell ⟨B, 0, none⟩ v0).setCell ⟨B, 1, none⟩ v1).setCell ⟨B, 2, none⟩ v2).cell? ⟨B, 1, none⟩ = some v1 ∧ (((U.setCell ⟨B, 0, none⟩ v0).setCell ⟨B, 1, none⟩ v1).setCell ⟨B, 2, none⟩ v2).cell? ⟨B, 2, none⟩ = some v2 := by
  simp [set_other', set_same', h0, h1, h2]
theorem load3 (W : World) (B : Nat) (v0 v1 v2 : Value) (h0 : W.cell? ⟨B, 0, none⟩ = some v0) (h1 : W.cell? ⟨B, 1, none⟩ = some v1) (h2 : W.cell? ⟨B, 2, none⟩ = some v2) :
    (loadVar 31 ⟨B, 0, none⟩).run Try.prog W = .ok (.agg #[v0, v1, v2]) W := by
  simp [go_sem, h0, h1, h2]
theorem results32 {fn : Func} {p u : Tmp} (hr : fn.results = #[.cell p 31, .tmp u]) {tmps : Array Value} {W : World} {B : Nat} {v0 v1 v2 : Value} (hp : tmps.getD p undef = .pointer (some ⟨B, 0, none⟩))
    (h0 : W.cell? ⟨B, 0, none⟩ = some v0) (h1 : W.cell? ⟨B, 1, none⟩ = some v1) (h2 : W.cell? ⟨B, 2, none⟩ = some v2) :
    (results fn tmps).run Try.prog W = .ok (.tuple #[.agg #[v0, v1, v2], tmps.getD u undef]) W := by
  have hl := load3 W B v0 v1 v2 h0 h1 h2
  clear h0 h1 h2
  have hp' : tmps[p]?.getD undef = .pointer (some ⟨B, 0, none⟩) := by simpa using hp
  simp only [results, hr]
  simp [hp', asAddr, hl]
theorem ret32 {fn : Func} {p u : Tmp} {R : Ending → World → Prop} {tmps : Array Value} {U : World} {B : Nat} {v0 v1 v2 : Value} (hr : fn.results = #[.cell p 31, .tmp u]) (hp : tmps.getD p undef = .pointer (some ⟨B, 0, none⟩))
    (h0 : (U.cell? ⟨B, 0, none⟩).isSome = true) (h1 : (U.cell? ⟨B, 1, none⟩).isSome = true) (h2 : (U.cell? ⟨B, 2, none⟩).isSome = true)
    (hR : R (.returned (.tuple #[.agg #[v0, v1, v2], tmps.getD u undef])) (((U.setCell ⟨B, 0, none⟩ v0).setCell ⟨B, 1, none⟩ v1).setCell ⟨B, 2, none⟩ v2)) :
    bodyPost Try.prog fn R .ret ⟨tmps, []⟩ (((U.setCell ⟨B, 0, none⟩ v0).setCell ⟨B, 1, none⟩ v1).setCell ⟨B, 2, none⟩ v2) := by
  obtain ⟨r0, r1, r2⟩ := set3 U B v0 v1 v2 h0 h1 h2
  exact bodyPost_ret (results32 hr hp r0 r1 r2) rfl hR

/-! ### layoutOf -/
theorem layout1 (w : World) : Calls Try.prog 23 #[.int .i64 1] w fun e w' =>
    e = .returned (.tuple #[.agg #[.int .i64 0, .int .i64 1, .int .i64 8, .int .u64 0], .bool true]) ∧ Below w.heap.size w w' := by
  go_enter Try.func23, Try.ntmps23
  go_wp2
  refine bodyPost_ret (v := .tuple #[.agg #[.int .i64 0, .int .i64 1, .int .i64 8, .int .u64 0], .bool true]) (by simp [results, Try.results23, go_sem]) rfl ⟨rfl, ?_⟩
  repeat (first | with_reducible exact Below.refl _ _ | with_reducible refine Below.setCell ?_ (by simp) _ | with_reducible refine below_more ?_ _ | with_reducible refine below_draws ?_ _)
theorem layout2 (w : World) : Calls Try.prog 23 #[.int .i64 2] w fun e w' =>
    e = .returned (.tuple #[.agg #[.int .i64 63, .int .i64 62, .int .i64 0, .int .u64 65535], .bool true]) ∧ Below w.heap.size w w' := by
  go_enter Try.func23, Try.ntmps23
  go_wp2
  refine bodyPost_ret (v := .tuple #[.agg #[.int .i64 63, .int .i64 62, .int .i64 0, .int .u64 65535], .bool true]) (by simp [results, Try.results23, go_sem]) rfl ⟨rfl, ?_⟩
  repeat (first | with_reducible exact Below.refl _ _ | with_reducible refine Below.setCell ?_ (by simp) _ | with_reducible refine below_more ?_ _ | with_reducible refine below_draws ?_ _)
theorem layoutX (k : Int) (h1 : k ≠ 1) (h2 : k ≠ 2) (w : World) : Calls Try.prog 23 #[.int .i64 k] w fun e w' =>
    e = .returned (.tuple #[.agg #[.int .i64 0, .int .i64 0, .int .i64 0, .int .u64 0], .bool false]) ∧ Below w.heap.size w w' := by
  have t1 : (k == 1) = false := by simpa using h1
  have t2 : (k == 2) = false := by simpa using h2
  go_enter Try.func23, Try.ntmps23
  go_wp2
  refine bodyPost_ret (v := .tuple #[.agg #[.int .i64 0, .int .i64 0, .int .i64 0, .int .u64 0], .bool false]) (by simp [results, Try.results23, go_sem]) rfl ⟨rfl, ?_⟩
  repeat (first | with_reducible exact Below.refl _ _ | with_reducible refine Below.setCell ?_ (by simp) _ | with_reducible refine below_more ?_ _ | with_reducible refine below_draws ?_ _)
end Go.Proofs.Ytepcijkmecoofaa
