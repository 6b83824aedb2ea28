/-
  What the laws of layer 11 call of their own: awake; the document's Trap; seats of a law's own.
-/
import Derived.Test.YtjhiapailgbmkaaYD
namespace Go.Proofs.Ytjhiapailgbmkaa
open Go.ChangeShapes Go.WideShapes Go.ChangeAt Go.RowKit
set_option maxRecDepth 100000
set_option linter.unusedVariables false

/-- A seat of a law's own, behind w. -/
structure Ow (w w' : World) (B : Nat) (s : SV) : Prop where
  ls : LS w' B s
  lb : w.heap.size ≤ B
  bel : Below w.heap.size w w'
theorem Ow.turn {w w1 w2 : World} {B : Nat} {s t : SV} (h : Ow w w1 B s) (k : Sn w1 w2 B t) : Ow w w2 B t :=
  ⟨k.ls, h.lb, h.bel.grown k.gr h.bel.size (fun j hj => by injection hj with hj; rw [← hj]; exact h.lb)⟩
theorem Ow.drawn {w w1 : World} {B : Nat} {s : SV} (h : Ow w w1 B s) (n : Nat) : Ow w (w1.drewN n) B s := ⟨h.ls, h.lb, below_draws h.bel n⟩
theorem Ow.below {w w1 w2 : World} {B : Nat} {s : SV} (h : Ow w w1 B s) (hb : Below w1.heap.size w1 w2) : Ow w w2 B s := ⟨h.ls.below hb, h.lb, below_up h.bel hb⟩
theorem Ow.put {w w1 : World} {B : Nat} {s : SV} (h : Ow w w1 B s) (t : SV) : Ow w (w1.setRow B t.cells) B t := h.turn ⟨h.ls.put t, grown_setRowS _ _ _⟩
theorem ow_box (w : World) (s : SV) : Ow w (w.alloc (.cells s.cells 26)) w.heap.size s := ⟨ls_new w s, Nat.le_refl _, below_new w _⟩
theorem ow_new {w0 w : World} (hb : Below w0.heap.size w0 w) (s : SV) : Ow w0 ((w.alloc (.cells SV.zero.cells 26)).setRow w.heap.size s.cells) w.heap.size s :=
  ⟨LS.put (ls_new w SV.zero) s, hb.size, (below_more hb _).grown (grown_setRowS _ _ _) (by have := hb.size; simp; omega) (fun j hj => by injection hj with hj; have := hb.size; omega)⟩
theorem Ow.kept {w w1 w2 : World} {B C : Nat} {s : SV} (h : Ow w w1 B s) (hg : w1.grownBy w2 (some C)) (hn : B ≠ C) (hc : w.heap.size ≤ C) : Ow w w2 B s :=
  ⟨h.ls.kept hg (by simpa using hn), h.lb, h.bel.grown hg h.bel.size (fun j hj => by injection hj with hj; omega)⟩
theorem zero_ok : SV.zero.ok := ⟨fun _ _ => by simp [SV.zero], by decide, by decide, by decide, by decide, by decide, by decide, by decide, by decide, by decide⟩
def deadS : SV := { SV.zero with st := 2 }
theorem dead_ok : deadS.ok := ⟨fun _ _ => by simp [deadS, SV.zero], by decide, by decide, by decide, by decide, by decide, by decide, by decide, by decide, by decide⟩
theorem sums_apart : sumS SV.zero ≠ sumS deadS := by decide +kernel
set_option maxHeartbeats 1000000 in
theorem awake11_in (w : World) : Calls Try.prog 13 #[] w fun e w' => e = .returned (.bool true) ∧ Below w.heap.size w w' := by
  have HZ := zeroS_run
  have HN := Lib.hid new_in
  have H1 := Lib.hid (sum_in SV.zero zero_ok)
  have H2 := Lib.hid (sum_in deadS dead_ok)
  have H3 := Lib.hid (pack_words deadS dead_ok)
  have H4 := Lib.hid (fun U B (h : LS U B SV.zero) => trap_dead h rfl 1 2)
  have z : ((sumS SV.zero : Nat) != ((sumS deadS : Nat) : Int)) = true := by have := sums_apart; simp; omega
  have HD : Hid (({ SV.zero with st := 2 } : SV) = deadS) := Lib.hid rfl
  unfold SV.agg at *
  go_enter Try.func13, Try.ntmps13
  go_wp2_with fail
  refine (HN.out _).mono ?_
  rintro e w1 ⟨rfl, b1⟩
  have O1 := Lib.hid (ow_new b1 SV.zero)
  go_wp2_with (first
    | (refine wpList_stS rfl (.tmp 1) (.tmp 3) rfl w1.heap.size rfl SV.zero SV.zero rfl (ls_new w1 _) ?_)
    | (refine wpList_ldS rfl (.tmp 1) rfl w1.heap.size rfl SV.zero (O1.out).ls ?_; unfold SV.agg))
  refine (H1.out _).mono ?_
  rintro e w2 ⟨rfl, b2⟩
  have O2 := Lib.hid ((O1.out).below b2)
  clear b1 b2 O1 HN H1
  generalize w1.heap.size = B at *
  go_wp2_with fail
  refine (H4.out _ _ (O2.out).ls).mono ?_
  rintro e w3 ⟨rfl, h3⟩
  rw [HD.out] at h3
  have O3 := Lib.hid ((O2.out).turn h3)
  clear h3 O2 H4
  have c1 : w3.cell? ⟨B, 23, none⟩ = some (.int .u8 2) := (O3.out).ls.st'
  go_wp2_with (first | (refine wpList_ldS rfl (.tmp 1) rfl B rfl deadS (O3.out).ls ?_; unfold SV.agg))
  refine (H3.out _).mono ?_
  rintro e w4 ⟨v, rfl, ⟨g, cap, rfl, _⟩, b4⟩
  have O4 := Lib.hid ((O3.out).below b4)
  clear b4 O3 c1 H3
  go_wp2_with (first | (refine wpList_ldS rfl (.tmp 1) rfl B rfl deadS (O4.out).ls ?_; unfold SV.agg))
  refine (H2.out _).mono ?_
  rintro e w5 ⟨rfl, b5⟩
  have O5 := Lib.hid ((O4.out).below b5)
  clear b5 O4 H2
  go_wp2
  go_ret
  exact ⟨rfl, (O5.out).bel⟩
/-! ### the document's Trap -/
theorem reftrap_dead (s : SV) (hv : s.ve = 0) (c d : Nat) (w : World) : Calls Try.prog 17 #[s.agg, .int .u64 c, .int .u64 d] w fun e w' => e = .returned ({ s with st := 2 } : SV).agg ∧ Below w.heap.size w w' := by
  have HZ := zeroS_run
  have i1 : s.cells[18]? = some (.int .u64 0) := by show some (Value.int .u64 (s.ve : Nat)) = _; rw [hv]; rfl
  have HC : Hid (s.cells.setIfInBounds 23 (.int .u8 2) = ({ s with st := 2 } : SV).cells) := Lib.hid rfl
  clear hv
  generalize ({ s with st := 2 } : SV) = t at *
  unfold SV.agg at *
  go_enter Try.func17, Try.ntmps17
  go_wp2_with (first
    | (rw [HC.out]; refine wpList_ldS rfl (.tmp 3) rfl w.heap.size rfl t (heap_alloc2_old w _ _) ?_)
    | (refine wpList_stS rfl (.tmp 6) (.tmp 11) rfl (w.heap.size + 1) rfl SV.zero t rfl (heap_alloc2_new w _ _) ?_))
  refine bodyPost_ret (v := .agg t.cells) (results_cell_row rfl _ _ (w.heap.size + 1) 26 _ (0, 0) _ rfl (setRow_heap _ (w.heap.size + 1) SV.zero.cells _ 26 (0, 0) (heap_alloc2_new w _ _)) Try.underlying26 rfl sizeS) rfl ⟨rfl, ?_⟩
  exact (below_more (below_new w _) _).grown (grown_setRowS _ _ _) (by simp; omega) (fun j hj => by injection hj with hj; omega)
theorem reftrap_goes (s : SV) (hv : s.ve ≠ 0) (c d : Nat) (w : World) : Calls Try.prog 17 #[s.agg, .int .u64 c, .int .u64 d] w
    fun e w' => e = .returned ({ s with ep := s.pc, pc := s.ve, ca := c, ad := d, op := false } : SV).agg ∧ Below w.heap.size w w' := by
  have HZ := zeroS_run
  have i1 : s.cells[18]? = some (.int .u64 s.ve) := rfl
  have i2 : s.cells[16]? = some (.int .u64 s.pc) := rfl
  have z : ((s.ve : Int) == 0) = false := by simp; omega
  have HC : Hid (((((s.cells.setIfInBounds 19 (.int .u64 s.pc)).setIfInBounds 20 (.int .u64 c)).setIfInBounds 21 (.int .u64 d)).setIfInBounds 16 (.int .u64 s.ve)).setIfInBounds 22 (.bool false) = ({ s with ep := s.pc, pc := s.ve, ca := c, ad := d, op := false } : SV).cells) := Lib.hid rfl
  clear hv
  generalize ({ s with ep := s.pc, pc := s.ve, ca := c, ad := d, op := false } : SV) = t at *
  generalize s.ve = v at *
  generalize s.pc = p at *
  unfold SV.agg at *
  go_enter Try.func17, Try.ntmps17
  go_wp2_with (first
    | (rw [HC.out]; refine wpList_ldS rfl (.tmp 3) rfl w.heap.size rfl t (heap_alloc2_old w _ _) ?_)
    | (refine wpList_stS rfl (.tmp 6) (.tmp 23) rfl (w.heap.size + 1) rfl SV.zero t rfl (heap_alloc2_new w _ _) ?_))
  refine bodyPost_ret (v := .agg t.cells) (results_cell_row rfl _ _ (w.heap.size + 1) 26 _ (0, 0) _ rfl (setRow_heap _ (w.heap.size + 1) SV.zero.cells _ 26 (0, 0) (heap_alloc2_new w _ _)) Try.underlying26 rfl sizeS) rfl ⟨rfl, ?_⟩
  exact (below_more (below_new w _) _).grown (grown_setRowS _ _ _) (by simp; omega) (fun j hj => by injection hj with hj; omega)
theorem reftrap_in (s : SV) (c d : Nat) (w : World) : Calls Try.prog 17 #[s.agg, .int .u64 c, .int .u64 d] w fun e w' => e = .returned (trapV s c d).agg ∧ Below w.heap.size w w' := by
  unfold trapV
  by_cases hv : s.ve = 0
  · rw [if_pos hv]; exact reftrap_dead s hv c d w
  · rw [if_neg hv]; exact reftrap_goes s hv c d w
theorem near_ok (s : SV) (h1 : ∀ i, i < 16 → s.r i < 18446744073709551616) (h2 : s.pc < 18446744073709551616) (h3 : s.ba < 18446744073709551616) (h4 : s.ve < 18446744073709551616) (h5 : s.ep < 18446744073709551616) (h6 : s.ca < 18446744073709551616) (h7 : s.ad < 18446744073709551616) : (nearV s).ok :=
  ⟨h1, h2, h3, h4, h5, h6, h7, Nat.mod_lt _ (by omega), Nat.mod_lt _ (by omega), Nat.mod_lt _ (by omega)⟩
end Go.Proofs.Ytjhiapailgbmkaa
