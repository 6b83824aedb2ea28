/-
  Contract of table.Make: the frames are cleared, the root is written; or why not.
-/
import Derived.Test.YtepcijkmecoofaaEK
namespace Go.Proofs.Ytepcijkmecoofaa
open Go.ChangeShapes Go.WideShapes Go.ChangeAt Go.RowKit
open WM EM
set_option maxRecDepth 100000

/-! ### a table that lies in a block of two cells, as the first of two results -/
theorem set2 (U : World) (B : Nat) (v0 v1 : Value) (h0 : (U.cell? ⟨B, 0, none⟩).isSome = true) (h1 : (U.cell? ⟨B, 1, none⟩).isSome = true) :
    ((U.setCell ⟨B, 0, none⟩ v0).setCell ⟨B, 1, none⟩ v1).cell? ⟨B, 0, none⟩ = some v0 ∧ ((U.setCell ⟨B, 0, none⟩ v0).setCell ⟨B, 1, none⟩ v1).cell? ⟨B, 1, none⟩ = some v1 := by
  simp [set_other', set_same', h0, h1]
theorem load2 (W : World) (B : Nat) (v0 v1 : Value) (h0 : W.cell? ⟨B, 0, none⟩ = some v0) (h1 : W.cell? ⟨B, 1, none⟩ = some v1) :
    (loadVar 27 ⟨B, 0, none⟩).run Try.prog W = .ok (.agg #[v0, v1]) W := by
  simp [go_sem, h0, h1]
theorem results22 {fn : Func} {p u : Tmp} (hr : fn.results = #[.cell p 27, .tmp u]) {tmps : Array Value} {W : World} {B : Nat} {v0 v1 : Value} (hp : tmps.getD p undef = .pointer (some ⟨B, 0, none⟩))
    (h0 : W.cell? ⟨B, 0, none⟩ = some v0) (h1 : W.cell? ⟨B, 1, none⟩ = some v1) :
    (results fn tmps).run Try.prog W = .ok (.tuple #[.agg #[v0, v1], tmps.getD u undef]) W := by
  have hl := load2 W B v0 v1 h0 h1
  clear h0 h1
  have hp' : tmps[p]?.getD undef = .pointer (some ⟨B, 0, none⟩) := by simpa using hp
  simp only [results, hr]
  simp [hp', asAddr, hl]
theorem ret22 {fn : Func} {p u : Tmp} {R : Ending → World → Prop} {tmps : Array Value} {U : World} {B : Nat} {v0 v1 : Value} (hr : fn.results = #[.cell p 27, .tmp u]) (hp : tmps.getD p undef = .pointer (some ⟨B, 0, none⟩))
    (h0 : (U.cell? ⟨B, 0, none⟩).isSome = true) (h1 : (U.cell? ⟨B, 1, none⟩).isSome = true)
    (hR : R (.returned (.tuple #[.agg #[v0, v1], tmps.getD u undef])) ((U.setCell ⟨B, 0, none⟩ v0).setCell ⟨B, 1, none⟩ v1)) :
    bodyPost Try.prog fn R .ret ⟨tmps, []⟩ ((U.setCell ⟨B, 0, none⟩ v0).setCell ⟨B, 1, none⟩ v1) := by
  obtain ⟨r0, r1⟩ := set2 U B v0 v1 h0 h1
  exact bodyPost_ret (results22 hr hp r0 r1) rfl hR
theorem ret22a {fn : Func} {p u : Tmp} {R : Ending → World → Prop} {tmps : Array Value} {U : World} {B : Nat} {v0 v1 : Value} {o : Obj} (hr : fn.results = #[.cell p 27, .tmp u]) (hp : tmps.getD p undef = .pointer (some ⟨B, 0, none⟩))
    (h0 : (U.cell? ⟨B, 0, none⟩).isSome = true) (h1 : (U.cell? ⟨B, 1, none⟩).isSome = true) (hl : B < U.heap.size)
    (hR : R (.returned (.tuple #[.agg #[v0, v1], tmps.getD u undef])) (((U.setCell ⟨B, 0, none⟩ v0).setCell ⟨B, 1, none⟩ v1).alloc o)) :
    bodyPost Try.prog fn R .ret ⟨tmps, []⟩ (((U.setCell ⟨B, 0, none⟩ v0).setCell ⟨B, 1, none⟩ v1).alloc o) := by
  obtain ⟨r0, r1⟩ := set2 U B v0 v1 h0 h1
  have hz : B < ((U.setCell ⟨B, 0, none⟩ v0).setCell ⟨B, 1, none⟩ v1).heap.size := by simpa [World.setCell] using hl
  exact bodyPost_ret (results22 hr hp ((World.cell?_alloc_past _ B 0 hz).trans r0) ((World.cell?_alloc_past _ B 1 hz).trans r1)) rfl hR
structure L2 (w : World) (B : Nat) (a b : Value) : Prop where
  k0 : w.cell? ⟨B, 0, none⟩ = some a
  k1 : w.cell? ⟨B, 1, none⟩ = some b
  lt : B < w.heap.size
  fz : ∀ i, w.frozen? ⟨B, i, none⟩ = false
theorem l2_mk (w : World) (a b : Value) (t : TypeId) : L2 (w.alloc (.cells #[a, b] t)) w.heap.size a b := ⟨by simp, by simp, by simp, fun i => by simp⟩
theorem L2.later {w w' : World} {B : Nat} {a b : Value} (h : L2 w B a b) (hb : Below w.heap.size w w') : L2 w' B a b :=
  ⟨(hb.cell h.lt).trans h.k0, (hb.cell h.lt).trans h.k1, Nat.lt_of_lt_of_le h.lt hb.size, fun i => (hb.frozen h.lt).trans (h.fz i)⟩
theorem L2.kept {w w' : World} {B : Nat} {a b : Value} {row : Option Nat} (h : L2 w B a b) (hg : w.grownBy w' row) (hr : some B ≠ row) : L2 w' B a b :=
  ⟨(World.cell?_of_block (a := ⟨B, 0, none⟩) (hg.block B h.lt hr)).trans h.k0, (World.cell?_of_block (a := ⟨B, 1, none⟩) (hg.block B h.lt hr)).trans h.k1, Nat.lt_of_lt_of_le h.lt hg.size, fun i => (World.frozen?_of_block (a := ⟨B, i, none⟩) (hg.block B h.lt hr)).trans (h.fz i)⟩

/-! ### what Make refuses -/
theorem make_form {w : World} (s : Value) (form : Int) (h1 : form ≠ 1) (h2 : form ≠ 2) (a : Option Addr) (len cap : Nat) :
    Calls Try.prog 18 #[s, .int .i64 form, .slice a len cap] w fun e w' => e = .returned (.tuple #[.agg #[.int .i64 0, .slice none 0 0], .int .i64 1]) ∧ Below w.heap.size w w' := by
  have b1 := below_new w (.cells #[.int .i64 0, .slice none 0 0] 27)
  have l2 := l2_mk w (.int .i64 0) (.slice none 0 0) 27
  have HL := Lib.hid (fun W => layoutX form h1 h2 W)
  clear h1 h2
  go_enter Try.func18, Try.ntmps18
  go_wp2_with fail
  refine (HL.out _).mono ?_
  rintro e W1 ⟨rfl, hb1⟩
  have b2 := below_up b1 hb1
  obtain ⟨e0, e1, el, ef⟩ := l2.later hb1
  clear hb1 b1 l2
  go_wp2
  refine ret22a (hr := rfl) (hp := rfl) (by simp [e0]) (by simp [e1]) el ⟨rfl, ?_⟩
  repeat (first | with_reducible exact b2 | with_reducible refine Below.setCell ?_ (by simp) _ | with_reducible refine below_more ?_ _)
theorem layout_any (form : Int) (h : form = 1 ∨ form = 2) : ∃ a b c d, ∀ W, Calls Try.prog 23 #[.int .i64 form] W fun e w' => e = .returned (.tuple #[.agg #[.int .i64 a, .int .i64 b, .int .i64 c, .int .u64 d], .bool true]) ∧ Below W.heap.size W w' := by
  rcases h with rfl | rfl
  · exact ⟨_, _, _, _, layout1⟩
  · exact ⟨_, _, _, _, layout2⟩
theorem make_len {w : World} (s : Value) (form : Int) (hform : form = 1 ∨ form = 2) (a : Option Addr) (len cap : Nat) (hl : len ≠ 5) :
    Calls Try.prog 18 #[s, .int .i64 form, .slice a len cap] w fun e w' => e = .returned (.tuple #[.agg #[.int .i64 0, .slice none 0 0], .int .i64 1]) ∧ Below w.heap.size w w' := by
  have b1 := below_new w (.cells #[.int .i64 0, .slice none 0 0] 27)
  have l2 := l2_mk w (.int .i64 0) (.slice none 0 0) 27
  obtain ⟨p, q, r, t, hL⟩ := layout_any form hform
  have HL := Lib.hid hL
  have t1 : ((len : Int) != 5) = true := by simp; omega
  clear hL hform hl
  go_enter Try.func18, Try.ntmps18
  go_wp2_with fail
  refine (HL.out _).mono ?_
  rintro e W1 ⟨rfl, hb1⟩
  have b2 := below_up b1 hb1
  obtain ⟨e0, e1, el, ef⟩ := l2.later hb1
  clear hb1 b1 l2
  go_wp2
  refine ret22a (hr := rfl) (hp := rfl) (by simp [e0]) (by simp [e1]) el ⟨rfl, ?_⟩
  repeat (first | with_reducible exact b2 | with_reducible refine Below.setCell ?_ (by simp) _ | with_reducible refine below_more ?_ _)
theorem make_out {w : World} {s h n : Nat} {f : Nat → Nat} (H : St w s h n f) (form : Int) (hform : form = 1 ∨ form = 2) (a : Option Addr) (cap : Nat) (l : Nat → Int) (hl : IntsAt w a 5 l) (hno : ¬ ∀ i, i < 5 → 0 ≤ l i ∧ l i < n) :
    Calls Try.prog 18 #[.pointer (some ⟨s, 0, none⟩), .int .i64 form, .slice a 5 cap] w fun e w' => e = .returned (.tuple #[.agg #[.int .i64 0, .slice none 0 0], .int .i64 1]) ∧ Below w.heap.size w w' := by
  have b1 := below_new w (.cells #[.int .i64 0, .slice none 0 0] 27)
  have l2 := l2_mk w (.int .i64 0) (.slice none 0 0) 27
  obtain ⟨p, q, r, t, hL⟩ := layout_any form hform
  have HL := Lib.hid hL
  have HA := Lib.hid (fun W (hb : Below w.heap.size w W) => allIn_no (H.below hb) a 5 cap l (hl.below hb) (by omega) hno)
  clear hL hform hl hno H
  go_enter Try.func18, Try.ntmps18
  go_wp2_with fail
  refine (HL.out _).mono ?_
  rintro e W1 ⟨rfl, hb1⟩
  have b2 := below_up b1 hb1
  obtain ⟨e0, e1, el, ef⟩ := l2.later hb1
  have HA' := Lib.hid ((HA.out) _ (below_more b2 (.cells #[.int .i64 p, .int .i64 q, .int .i64 r, .int .u64 t] 64)))
  clear hb1 b1 l2
  go_wp2_with (go_at_call 28; refine (HA'.out).mono ?_; rintro e w' ⟨rfl, rfl⟩)
  refine ret22a (hr := rfl) (hp := rfl) (by simp [e0]) (by simp [e1]) el ⟨rfl, ?_⟩
  repeat (first | with_reducible exact b2 | with_reducible refine Below.setCell ?_ (by simp) _ | with_reducible refine below_more ?_ _)
end Go.Proofs.Ytepcijkmecoofaa
