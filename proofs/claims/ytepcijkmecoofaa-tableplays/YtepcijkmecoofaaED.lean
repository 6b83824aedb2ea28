/-
  Contracts of package table's tables (in, load, below, save, Map, Unmap, Walk): where pages are, by what the store says.
-/
import Derived.Test.YtepcijkmecoofaaEU
import Derived.Test.YtepcijkmecoofaaSD
namespace Go.Proofs.Ytepcijkmecoofaa
open Go.ChangeShapes Go.WideShapes Go.ChangeAt Go.RowKit
open WM EM
set_option maxRecDepth 100000

/-- Word i of frame k. -/
def wd (f : Nat → Nat) (k i : Nat) : Nat := ofN (fun j => f (k * 256 + i * 8 + j)) 8
theorem wd_lt {f : Nat → Nat} (hf : ∀ i, f i < 256) (k i : Nat) : wd f k i < 18446744073709551616 := ofN_lt _ (fun _ => hf _) 8
theorem l2_new (w : World) (a b : Value) (t : TypeId) : (w.alloc (.cells #[a, b] t)).cell? ⟨w.heap.size, 0, none⟩ = some a ∧ (w.alloc (.cells #[a, b] t)).cell? ⟨w.heap.size, 1, none⟩ = some b := ⟨by simp, by simp⟩

/-- The end of a function whose first result, an entry, was stored into its block before another block was made. -/
theorem ret32a {fn : Func} {p u : Tmp} {R : Ending → World → Prop} {tmps : Array Value} {U : World} {B : Nat} {v0 v1 v2 : Value} {o : Obj} (hr : fn.results = #[.cell p 31, .tmp u]) (hp : tmps.getD p undef = .pointer (some ⟨B, 0, none⟩))
    (h0 : (U.cell? ⟨B, 0, none⟩).isSome = true) (h1 : (U.cell? ⟨B, 1, none⟩).isSome = true) (h2 : (U.cell? ⟨B, 2, none⟩).isSome = true) (hl : B < U.heap.size)
    (hR : R (.returned (.tuple #[.agg #[v0, v1, v2], tmps.getD u undef])) ((((U.setCell ⟨B, 0, none⟩ v0).setCell ⟨B, 1, none⟩ v1).setCell ⟨B, 2, none⟩ v2).alloc o)) :
    bodyPost Try.prog fn R .ret ⟨tmps, []⟩ ((((U.setCell ⟨B, 0, none⟩ v0).setCell ⟨B, 1, none⟩ v1).setCell ⟨B, 2, none⟩ v2).alloc o) := by
  obtain ⟨r0, r1, r2⟩ := set3 U B v0 v1 v2 h0 h1 h2
  have hz : B < (((U.setCell ⟨B, 0, none⟩ v0).setCell ⟨B, 1, none⟩ v1).setCell ⟨B, 2, none⟩ v2).heap.size := by simpa [World.setCell] using hl
  exact bodyPost_ret (results32 hr hp ((World.cell?_alloc_past _ B 0 hz).trans r0) ((World.cell?_alloc_past _ B 1 hz).trans r1) ((World.cell?_alloc_past _ B 2 hz).trans r2)) rfl hR

/-! ### in -/
theorem in_yes {w : World} {s h n : Nat} {f : Nat → Nat} (H : St w s h n f) (k : Int) (h0 : 0 ≤ k) (h1 : k < n) :
    Calls Try.prog 20 #[.pointer (some ⟨s, 0, none⟩), .int .i64 k] w fun e w' => e = .returned (.bool true) ∧ w = w' := by
  have HF := Lib.hid (frames_in H)
  clear H
  go_enter Try.func20, Try.ntmps20
  go_wp2_with (go_at_call 32; refine (HF.out).mono ?_; rintro e w' ⟨rfl, rfl⟩)
  go_ret
  exact ⟨rfl, rfl⟩
theorem in_no {w : World} {s h n : Nat} {f : Nat → Nat} (H : St w s h n f) (k : Int) (hn : ¬ (0 ≤ k ∧ k < n)) :
    Calls Try.prog 20 #[.pointer (some ⟨s, 0, none⟩), .int .i64 k] w fun e w' => e = .returned (.bool false) ∧ w = w' := by
  have HF := Lib.hid (frames_in H)
  clear H
  by_cases h0 : 0 ≤ k
  · have h1 : ¬ k < n := fun h1 => hn ⟨h0, h1⟩
    clear hn
    go_enter Try.func20, Try.ntmps20
    go_wp2_with (go_at_call 32; refine (HF.out).mono ?_; rintro e w' ⟨rfl, rfl⟩)
    go_ret
    exact ⟨by simp; omega, rfl⟩
  · clear hn
    go_enter Try.func20, Try.ntmps20
    go_wp2_with (go_at_call 32; refine (HF.out).mono ?_; rintro e w' ⟨rfl, rfl⟩)
    go_ret
    exact ⟨rfl, rfl⟩

/-! ### load -/
set_option maxHeartbeats 1000000 in
theorem load_way {w : World} {s h n : Nat} {f : Nat → Nat} (H : St w s h n f) (form : Int) (A : Option Addr) (len cap k i x : Nat) (hk : k < n) (hi : i < 32) (hx : wd f k i = x) (t ok : Bool) (fv : Int) (wr : Bool) (out : Value) (err : Int)
    (HU : ∀ W, Calls Try.prog 14 #[.int .i64 form, .int .u64 x] W fun e w' => e = .returned (.tuple #[.agg #[.bool t, .int .i64 fv, .bool wr], .bool ok]) ∧ Below W.heap.size W w')
    (hc : (ok = true ∧ t = true ∧ out = .agg #[.bool true, .int .i64 fv, .bool wr] ∧ err = 0) ∨ (ok = false ∧ out = .agg #[.bool false, .int .i64 0, .bool false] ∧ err = 11) ∨ (ok = true ∧ t = false ∧ out = .agg #[.bool false, .int .i64 0, .bool false] ∧ err = 11)) :
    Calls Try.prog 22 #[.agg #[.int .i64 form, .slice A len cap], .pointer (some ⟨s, 0, none⟩), .int .i64 k, .int .i64 i] w fun e w' =>
      e = .returned (.tuple #[out, .int .i64 err]) ∧ Below w.heap.size w w' := by
  have hb1 := below_new w (.cells #[.int .i64 form, .slice A len cap] 27)
  have hc1 := (l2_new w (.int .i64 form) (.slice A len cap) 27).1
  have hb2 := below_more hb1 (.cells #[.bool false, .int .i64 0, .bool false] 31)
  have hl2 := l3_new (w.alloc (.cells #[.int .i64 form, .slice A len cap] 27)) (.bool false) (.int .i64 0) (.bool false) 31
  have hld := load_ok (H.below hb2) k i hk hi
  rw [show ofN (fun j => f (k * 256 + i * 8 + j)) 8 = x from hx] at hld
  have HLD := Lib.hid hld
  have HU' := Lib.hid HU
  clear H hld HU hk hi hx
  rcases hc with ⟨rfl, rfl, rfl, rfl⟩ | ⟨rfl, rfl, rfl⟩ | ⟨rfl, rfl, rfl, rfl⟩
  all_goals
    go_enter Try.func22, Try.ntmps22
    go_wp2_with fail
    refine (HLD.out).mono ?_
    rintro e w' ⟨rfl, rfl⟩
    go_wp2_with fail
    refine (HU'.out _).mono ?_
    rintro e W1 ⟨rfl, hb3⟩
    obtain ⟨d0, d1, d2, dl, df⟩ := hl2.later hb3
    have hD := below_up hb2 hb3
    clear hb3 hb2 hb1 hl2 hc1
    rw [World.size_alloc] at d0 d1 d2 dl df
    go_wp2
    refine ret32a (hr := rfl) (hp := rfl) (by simp [d0]) (by simp [d1]) (by simp [d2]) dl ⟨rfl, ?_⟩
    repeat (first | with_reducible exact hD | with_reducible refine Below.setCell ?_ (by simp) _ | with_reducible refine below_more ?_ _)
/-- load of a word that is that of an entry. -/
theorem tload_yes {w : World} {s h n : Nat} {f : Nat → Nat} (H : St w s h n f) (form : Nat) (hform : form = 1 ∨ form = 2) (A : Option Addr) (len cap k i : Nat) (hk : k < n) (hi : i < 32) (ht : isT form (wd f k i) = true) :
    Calls Try.prog 22 #[.agg #[.int .i64 form, .slice A len cap], .pointer (some ⟨s, 0, none⟩), .int .i64 k, .int .i64 i] w fun e w' =>
      e = .returned (.tuple #[.agg #[.bool true, .int .i64 (fr form (wd f k i) : Nat), .bool (wrB form (wd f k i))], .int .i64 0]) ∧ Below w.heap.size w w' :=
  load_way H form A len cap k i _ hk hi rfl true true _ _ _ _ (fun W => unpack_yes form _ W hform (wd_lt H.byte _ _) ht) (.inl ⟨rfl, rfl, rfl, rfl⟩)
/-- load of any other word. -/
theorem tload_no {w : World} {s h n : Nat} {f : Nat → Nat} (H : St w s h n f) (form : Nat) (hform : form = 1 ∨ form = 2) (A : Option Addr) (len cap k i : Nat) (hk : k < n) (hi : i < 32) (ht : isT form (wd f k i) = false) :
    Calls Try.prog 22 #[.agg #[.int .i64 form, .slice A len cap], .pointer (some ⟨s, 0, none⟩), .int .i64 k, .int .i64 i] w fun e w' =>
      e = .returned (.tuple #[.agg #[.bool false, .int .i64 0, .bool false], .int .i64 11]) ∧ Below w.heap.size w w' := by
  by_cases h0 : wd f k i = 0
  · exact load_way H form A len cap k i 0 hk hi h0 false true _ _ _ _ (fun W => unpack_zero form W hform) (.inr (.inr ⟨rfl, rfl, rfl, rfl⟩))
  · have hE : isE form (wd f k i) = false := by unfold isE; rw [ht]; simpa using h0
    exact load_way H form A len cap k i _ hk hi rfl false false _ _ _ _ (fun W => unpack_no form _ W hform (wd_lt H.byte _ _) hE) (.inr (.inl ⟨rfl, rfl, rfl⟩))
end Go.Proofs.Ytepcijkmecoofaa
