/-
  Contracts of package table's tables (below, save, Map, Unmap, Walk): where pages are, by what the store says.
-/
import Derived.Test.YtepcijkmecoofaaED
namespace Go.Proofs.Ytepcijkmecoofaa
open Go.ChangeShapes Go.WideShapes Go.ChangeAt Go.RowKit
open WM EM
set_option maxRecDepth 100000

/-- The first of a table's frames. -/
def Root (w : World) (A : Option Addr) (len r : Nat) : Prop :=
  ∃ b off, A = some ⟨b, off, none⟩ ∧ b < w.heap.size ∧ w.cell? ⟨b, off, none⟩ = some (.int .i64 r) ∧ 0 < len ∧ len ≤ 9223372036854775807
theorem Root.below {w w' : World} {A : Option Addr} {len r : Nat} (h : Root w A len r) (hb : Below w.heap.size w w') : Root w' A len r := by
  obtain ⟨b, off, h1, h2, h3, h4⟩ := h
  exact ⟨b, off, h1, Nat.lt_of_lt_of_le h2 hb.size, (hb.cell h2).trans h3, h4⟩

theorem below_page {w : World} (form : Int) (A : Option Addr) (len cap : Nat) (s : Value) (page : Int) (hp : ¬ (0 ≤ page ∧ page < 32)) :
    Calls Try.prog 21 #[.agg #[.int .i64 form, .slice A len cap], s, .int .i64 page] w fun e w' => e = .returned (.tuple #[.int .i64 0, .int .i64 1]) ∧ Below w.heap.size w w' := by
  have hb := below_new w (.cells #[.int .i64 form, .slice A len cap] 27)
  by_cases h0 : page < 0
  · clear hp
    go_enter Try.func21, Try.ntmps21
    go_wp2
    go_ret2
    exact ⟨rfl, hb⟩
  · have h1 : ¬ page < 32 := by omega
    have h2 : (32 : Int) ≤ page := by omega
    clear hp
    go_enter Try.func21, Try.ntmps21
    go_wp2
    go_ret2
    exact ⟨rfl, hb⟩
theorem below_none {w : World} (form : Int) (A : Option Addr) (cap : Nat) (s : Value) (page : Int) :
    Calls Try.prog 21 #[.agg #[.int .i64 form, .slice A 0 cap], s, .int .i64 page] w fun e w' => e = .returned (.tuple #[.int .i64 0, .int .i64 1]) ∧ Below w.heap.size w w' := by
  have hb := below_new w (.cells #[.int .i64 form, .slice A 0 cap] 27)
  by_cases hp : 0 ≤ page ∧ page < 32
  · obtain ⟨h0, h1⟩ := hp
    go_enter Try.func21, Try.ntmps21
    go_wp2
    go_ret2
    exact ⟨rfl, hb⟩
  · exact below_page form A 0 cap s page hp

set_option maxHeartbeats 1000000 in
theorem below_way {w : World} {s h n : Nat} {f : Nat → Nat} (H : St w s h n f) (form : Int) (A : Option Addr) (len cap r : Nat) (hr : Root w A len r) (page : Nat) (hp : page < 32) (g : Nat) (wr : Bool) (hg : g < n)
    (HLD : ∀ W, Below w.heap.size w W → Calls Try.prog 22 #[.agg #[.int .i64 form, .slice A len cap], .pointer (some ⟨s, 0, none⟩), .int .i64 r, .int .i64 (page / 8 : Nat)] W fun e w' =>
      e = .returned (.tuple #[.agg #[.bool true, .int .i64 g, .bool wr], .int .i64 0]) ∧ Below W.heap.size W w') :
    Calls Try.prog 21 #[.agg #[.int .i64 form, .slice A len cap], .pointer (some ⟨s, 0, none⟩), .int .i64 page] w fun e w' => e = .returned (.tuple #[.int .i64 g, .int .i64 0]) ∧ Below w.heap.size w w' := by
  have hb1 := below_new w (.cells #[.int .i64 form, .slice A len cap] 27)
  obtain ⟨c0, c1⟩ := l2_new w (.int .i64 form) (.slice A len cap) 27
  obtain ⟨b, off, rfl, hlt, hc, h0, h63⟩ := hr
  have hc' := (hb1.cell (p := ⟨b, off, none⟩) hlt).trans hc
  have p0 : (0 : Int) ≤ page := by omega
  have p1 : (page : Int) < 32 := by omega
  have t0 : ((len : Int) == 0) = false := by simp; omega
  have t1 : (0 : Int) < (len : Int) := by omega
  have HI := Lib.hid (fun W (hb : Below w.heap.size w W) => in_yes (H.below hb) g (by omega) (by omega))
  obtain ⟨q, hq⟩ : ∃ q, page / 8 = q := ⟨_, rfl⟩
  rw [hq] at HLD
  have hw : IntKind.i64.wrap ((page : Int) / 8) = (q : Int) := by rw [IntWalk.i64_in _ (by omega)]; omega
  have HLD' := Lib.hid HLD
  clear H HLD hc hq
  go_enter Try.func21, Try.ntmps21
  go_wp2_with fail
  have hs1 : w.heap.size < (w.alloc (.cells #[.int .i64 form, .slice (some ⟨b, off, none⟩) len cap] 27)).heap.size := by simp
  have hb2 : b < (w.alloc (.cells #[.int .i64 form, .slice (some ⟨b, off, none⟩) len cap] 27)).heap.size := by simp; omega
  generalize w.alloc (.cells #[.int .i64 form, .slice (some ⟨b, off, none⟩) len cap] 27) = V at *
  have HB := Lib.hid hb1
  have HBd : Hid (Below w.heap.size w V.drew) := Lib.hid (below_draws hb1 1)
  have HBe : Hid (Below w.heap.size w (V.alloc (.cells #[.bool false, .int .i64 0, .bool false] 31)).drew) := Lib.hid (below_draws (below_more hb1 _) 1)
  have HVd : Hid (∀ w5, Below V.drew.heap.size V.drew w5 → Below V.heap.size V w5) := Lib.hid (fun w5 b5 => below_up (below_draws (Below.refl _ V) 1) b5)
  have HVe : Hid (∀ w5, Below (V.alloc (.cells #[.bool false, .int .i64 0, .bool false] 31)).drew.heap.size (V.alloc (.cells #[.bool false, .int .i64 0, .bool false] 31)).drew w5 → Below V.heap.size V w5 ∧ L3 w5 V.heap.size (.bool false) (.int .i64 0) (.bool false)) :=
    Lib.hid (fun w5 b5 => ⟨below_up (below_draws (below_more (Below.refl _ V) _) 1) b5, ((l3_new V (.bool false) (.int .i64 0) (.bool false) 31).later (below_draws (Below.refl _ _) 1)).later b5⟩)
  have n1 : ¬ (V.heap.size = b) := by omega
  have n2 : ¬ (V.heap.size = w.heap.size) := by omega
  have n3 : ¬ (b = V.heap.size) := by omega
  have n4 : ¬ (w.heap.size = V.heap.size) := by omega
  go_region_held3 (fun w' => w'.cell? ⟨w.heap.size, 0, none⟩ = some (.int .i64 form) ∧ w'.cell? ⟨w.heap.size, 1, none⟩ = some (.slice (some ⟨b, off, none⟩) len cap) ∧ w'.cell? ⟨b, off, none⟩ = some (.int .i64 r))
    (first
      | go_keep
      | (refine ⟨?_, ?_, ?_⟩
         · (rw [World.cell?_alloc_past _ _ _ (by omega), (bel.out).cell (p := ⟨w.heap.size, 0, none⟩) hs1]; assumption)
         · (rw [World.cell?_alloc_past _ _ _ (by omega), (bel.out).cell (p := ⟨w.heap.size, 1, none⟩) hs1]; assumption)
         · (rw [World.cell?_alloc_past _ _ _ (by omega), (bel.out).cell (p := ⟨b, off, none⟩) hb2]; assumption))
      | (refine ⟨?_, ?_, ?_⟩
         · (rw [(bel.out).cell (p := ⟨w.heap.size, 0, none⟩) hs1]; assumption)
         · (rw [(bel.out).cell (p := ⟨w.heap.size, 1, none⟩) hs1]; assumption)
         · (rw [(bel.out).cell (p := ⟨b, off, none⟩) hb2]; assumption)))
    (first
      | (go_at_call 22; with_reducible refine ((HLD'.out) _ HBd.out).mono ?_; rintro e w5 ⟨rfl, b5⟩; have bel := Lib.hid ((HVd.out) w5 b5); have z5 := (bel.out).size)
      | (go_at_call 22; with_reducible refine ((HLD'.out) _ HBe.out).mono ?_; rintro e w5 ⟨rfl, b5⟩; have bel := Lib.hid ((HVe.out) w5 b5).1; have z5 := (bel.out).size; obtain ⟨q0, q1, q2, ql, qf⟩ := ((HVe.out) w5 b5).2))
  · have hbU := below_more (below_up (HB.out) (bel.out)) (.cells #[.bool true, .int .i64 g, .bool wr] 31)
    obtain ⟨e0, e1, e2, el, ef⟩ := l3_new w5 (.bool true) (.int .i64 g) (.bool wr) 31
    clear bel HBd HBe HVd HVe
    generalize w5.alloc (.cells #[.bool true, .int .i64 g, .bool wr] 31) = U at *
    generalize w5.heap.size = Be at *
    have HI' := Lib.hid ((HI.out) U hbU)
    go_wp2_with (go_at_call 20; refine (HI'.out).mono ?_; rintro e w' ⟨rfl, rfl⟩)
    go_ret2
    exact ⟨rfl, hbU⟩
  · obtain ⟨e0, e1, e2⟩ := set3 w5 V.heap.size (.bool true) (.int .i64 g) (.bool wr) (by rw [q0]; rfl) (by rw [q1]; rfl) (by rw [q2]; rfl)
    have hbU : Below w.heap.size w (((w5.setCell ⟨V.heap.size, 0, none⟩ (.bool true)).setCell ⟨V.heap.size, 1, none⟩ (.int .i64 g)).setCell ⟨V.heap.size, 2, none⟩ (.bool wr)) := by
      have hVl : w.heap.size ≤ V.heap.size := by omega
      exact (((below_up (HB.out) (bel.out)).setCell (p := ⟨V.heap.size, 0, none⟩) hVl _).setCell (p := ⟨V.heap.size, 1, none⟩) hVl _).setCell (p := ⟨V.heap.size, 2, none⟩) hVl _
    clear bel HBd HBe HVd HVe q0 q1 q2 ql qf
    generalize ((w5.setCell ⟨V.heap.size, 0, none⟩ (.bool true)).setCell ⟨V.heap.size, 1, none⟩ (.int .i64 g)).setCell ⟨V.heap.size, 2, none⟩ (.bool wr) = U at *
    have HI' := Lib.hid ((HI.out) U hbU)
    go_wp2_with (go_at_call 20; refine (HI'.out).mono ?_; rintro e w' ⟨rfl, rfl⟩)
    go_ret2
    exact ⟨rfl, hbU⟩
end Go.Proofs.Ytepcijkmecoofaa
