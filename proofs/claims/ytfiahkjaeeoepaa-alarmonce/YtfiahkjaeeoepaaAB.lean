/-
  A clock in memory: a block of 36 cells, known whole; isSeat, Set, Drop, DropVM, Twin, later.
-/
import Derived.Test.YtfiahkjaeeoepaaAM
import Derived.Laws.Rows
import Derived.Laws.Tables
import Derived.BigFrame
import Derived.Deep.CutBlock
namespace Go.Proofs.Ytfiahkjaeeoepaa
open Go.ChangeShapes Go.WideShapes Go.ChangeAt Go.RowKit
set_option maxRecDepth 100000
set_option linter.unusedVariables false

def upd {α : Type} (f : Nat → α) (p : Nat) (v : α) : Nat → α := fun i => if i = p then v else f i
theorem upd_same {α : Type} (f : Nat → α) (p : Nat) (v : α) : upd f p v p = v := if_pos rfl
theorem upd_other {α : Type} (f : Nat → α) (p : Nat) (v : α) (i : Nat) (h : i ≠ p) : upd f p v i = f i := if_neg h
def ckV (on : Nat → Bool) (tm : Nat → Nat) (i : Nat) : Value := if i % 2 = 0 then .bool (on (i / 2)) else .int .u64 (tm (i / 2) : Nat)
def ckA (on : Nat → Bool) (tm : Nat → Nat) : Array Value := ((List.range 36).map (ckV on tm)).toArray
theorem ckA_at (on : Nat → Bool) (tm : Nat → Nat) (i : Nat) (h : i < 36) : (ckA on tm)[i]? = some (ckV on tm i) := by simp [ckA, h]
theorem ckA_size (on : Nat → Bool) (tm : Nat → Nat) : (ckA on tm).size = 36 := by simp [ckA]
theorem ckA_one (on : Nat → Bool) (tm : Nat → Nat) : (ckA on tm).all (·.oneCell') = true := by
  rw [Array.all_eq_true_iff_forall_mem]
  intro v hv
  simp [ckA] at hv
  obtain ⟨i, _, rfl⟩ := hv
  unfold ckV; split <;> rfl
theorem ckA_set (on : Nat → Bool) (tm : Nat → Nat) (p : Nat) (hp : p < 18) (b : Bool) (t : Nat) :
    ((ckA on tm).setIfInBounds (2 * p) (.bool b)).setIfInBounds (2 * p + 1) (.int .u64 (t : Nat)) = ckA (upd on p b) (upd tm p t) := by
  apply Array.ext_getElem?
  intro i
  simp only [Array.getElem?_setIfInBounds, Array.size_setIfInBounds, ckA_size]
  by_cases hi : i < 36
  · rw [ckA_at _ _ i hi, ckA_at _ _ i hi]
    by_cases h1 : 2 * p + 1 = i
    · subst h1
      rw [if_pos rfl, if_pos hi]
      unfold ckV
      rw [if_neg (by omega), show (2 * p + 1) / 2 = p by omega, upd_same]
    · rw [if_neg h1]
      by_cases h2 : 2 * p = i
      · subst h2
        rw [if_pos rfl, if_pos (by omega)]
        unfold ckV
        rw [if_pos (by omega), show 2 * p / 2 = p by omega, upd_same]
      · rw [if_neg h2]
        unfold ckV
        split
        · rw [upd_other _ _ _ _ (by omega)]
        · rw [upd_other _ _ _ _ (by omega)]
  · rw [if_neg (by omega), if_neg (by omega), Array.getElem?_eq_none (by rw [ckA_size]; omega), Array.getElem?_eq_none (by rw [ckA_size]; omega)]
/-- The clock lies in block B. -/
def CK (w : World) (B : Nat) (on : Nat → Bool) (tm : Nat → Nat) : Prop := w.heap[B]? = some (.cells (ckA on tm) 31)
theorem CK.lt {w : World} {B : Nat} {on : Nat → Bool} {tm : Nat → Nat} (h : CK w B on tm) : B < w.heap.size := (Array.getElem?_eq_some_iff.1 h).1
theorem CK.fz {w : World} {B : Nat} {on : Nat → Bool} {tm : Nat → Nat} (h : CK w B on tm) (i : Nat) : w.frozen? ⟨B, i, none⟩ = false := by
  have h' : w.heap[B]? = some (.cells (ckA on tm) 31) := h
  simp [World.frozen?, h']
theorem CK.cell {w : World} {B : Nat} {on : Nat → Bool} {tm : Nat → Nat} (h : CK w B on tm) (i : Nat) : w.cell? ⟨B, i, none⟩ = (ckA on tm)[i]? := by
  have h' : w.heap[B]? = some (.cells (ckA on tm) 31) := h
  simp [World.cell?, h']
theorem CK.c0 {w : World} {B : Nat} {on : Nat → Bool} {tm : Nat → Nat} (h : CK w B on tm) (p : Nat) (hp : p < 18) : w.cell? ⟨B, 2 * p, none⟩ = some (.bool (on p)) := by
  rw [h.cell, ckA_at _ _ _ (by omega)]; unfold ckV; rw [if_pos (by omega), show 2 * p / 2 = p by omega]
theorem CK.c1 {w : World} {B : Nat} {on : Nat → Bool} {tm : Nat → Nat} (h : CK w B on tm) (p : Nat) (hp : p < 18) : w.cell? ⟨B, 2 * p + 1, none⟩ = some (.int .u64 (tm p : Nat)) := by
  rw [h.cell, ckA_at _ _ _ (by omega)]; unfold ckV; rw [if_neg (by omega), show (2 * p + 1) / 2 = p by omega]
theorem CK.kept {w w' : World} {B : Nat} {on : Nat → Bool} {tm : Nat → Nat} {row : Option Nat} (h : CK w B on tm) (hg : w.grownBy w' row) (hr : some B ≠ row) : CK w' B on tm := (hg.block B h.lt hr).trans h
theorem CK.below {w w' : World} {B : Nat} {on : Nat → Bool} {tm : Nat → Nat} (h : CK w B on tm) (hb : Below w.heap.size w w') : CK w' B on tm := (hb.block B h.lt).trans h
/-- What a call that turns a clock, and nothing else that was there, leaves. -/
structure Tk (w w' : World) (B : Nat) (on : Nat → Bool) (tm : Nat → Nat) : Prop where
  ck : CK w' B on tm
  gr : w.grownBy w' (some B)
theorem Tk.trans {a b c : World} {B : Nat} {on on' : Nat → Bool} {tm tm' : Nat → Nat} (h : Tk a b B on tm) (k : Tk b c B on' tm') : Tk a c B on' tm' := ⟨k.ck, grown_trans h.gr k.gr⟩
theorem Tk.below {a b c : World} {B : Nat} {on : Nat → Bool} {tm : Nat → Nat} (h : Tk a b B on tm) (k : Below b.heap.size b c) : Tk a c B on tm := ⟨h.ck.below k, grown_trans h.gr (grown_below k _)⟩
theorem Tk.self {w : World} {B : Nat} {on : Nat → Bool} {tm : Nat → Nat} (h : CK w B on tm) : Tk w w B on tm := ⟨h, ⟨rfl, rfl, rfl, Nat.le_refl _, fun _ _ _ => rfl⟩⟩
def putK (w : World) (B p : Nat) (b : Bool) (t : Nat) : World := (w.setCell ⟨B, 2 * p, none⟩ (.bool b)).setCell ⟨B, 2 * p + 1, none⟩ (.int .u64 (t : Nat))
theorem CK.put {w : World} {B : Nat} {on : Nat → Bool} {tm : Nat → Nat} (h : CK w B on tm) (p : Nat) (hp : p < 18) (b : Bool) (t : Nat) : Tk w (putK w B p b t) B (upd on p b) (upd tm p t) := by
  refine ⟨?_, grown_trans (grown_setCell w ⟨B, 2 * p, none⟩ _) (grown_setCell _ ⟨B, 2 * p + 1, none⟩ _)⟩
  unfold putK
  rw [setCell_eq_setRow w B (2 * p) (ckA on tm) 31 (0, 0) _ h]
  have h2 := setRow_heap w B (ckA on tm) ((ckA on tm).setIfInBounds (2 * p) (.bool b)) 31 (0, 0) h
  rw [setCell_eq_setRow _ B (2 * p + 1) _ 31 (0, 0) _ h2]
  unfold CK
  rw [setRow_heap _ B _ _ 31 (0, 0) h2, ckA_set on tm p hp b t]

/-! ### isSeat, later -/
theorem seat_yes (v s : Nat) (hv : v < 6) (hs : s < 3) (w : World) : Calls Try.prog 16 #[.int .i64 v, .int .i64 s] w fun e w' => e = .returned (.bool true) ∧ w = w' := by
  have z1 : (0 : Int) ≤ (v : Int) := by omega
  have z2 : (v : Int) < 6 := by omega
  have z3 : (0 : Int) ≤ (s : Int) := by omega
  have z4 : (s : Int) < 3 := by omega
  go_enter Try.func16, Try.ntmps16
  go_wp2
  go_ret
  exact ⟨by simp, rfl⟩
def okS (vm seat : Int) : Prop := 0 ≤ vm ∧ vm < 6 ∧ 0 ≤ seat ∧ seat < 3
theorem seat_no (vm seat : Int) (h : ¬ okS vm seat) (w : World) : Calls Try.prog 16 #[.int .i64 vm, .int .i64 seat] w fun e w' => e = .returned (.bool false) ∧ w = w' := by
  unfold okS at h
  by_cases z1 : 0 ≤ vm
  · by_cases z2 : vm < 6
    · by_cases z3 : 0 ≤ seat
      · have z4 : ¬ seat < 3 := fun z4 => h ⟨z1, z2, z3, z4⟩
        clear h
        go_enter Try.func16, Try.ntmps16
        go_wp2
        go_ret
        exact ⟨by simp, rfl⟩
      · clear h
        go_enter Try.func16, Try.ntmps16
        go_wp2
        go_ret
        exact ⟨by simp, rfl⟩
    · clear h
      go_enter Try.func16, Try.ntmps16
      go_wp2
      go_ret
      exact ⟨by simp, rfl⟩
  · clear h
    go_enter Try.func16, Try.ntmps16
    go_wp2
    go_ret
    exact ⟨by simp, rfl⟩
def laterN (a b : Nat) : Nat := if 18446744073709551615 - a < b then 18446744073709551615 else a + b
theorem laterN_lt (a b : Nat) (ha : a < 18446744073709551616) : laterN a b < 18446744073709551616 := by unfold laterN; split <;> omega
theorem later_in (a b : Nat) (ha : a < 18446744073709551616) (hb : b < 18446744073709551616) (w : World) : Calls Try.prog 18 #[.int .u64 a, .int .u64 b] w fun e w' => e = .returned (.int .u64 (laterN a b : Nat)) ∧ w = w' := by
  unfold laterN
  by_cases h : 18446744073709551615 - a < b
  · rw [if_pos h]
    have z : (18446744073709551615 : Int) - (a : Int) < (b : Int) := by omega
    clear h
    go_enter Try.func18, Try.ntmps18
    go_wp2
    go_ret
    exact ⟨rfl, rfl⟩
  · rw [if_neg h]
    have z : ¬ (18446744073709551615 : Int) - (a : Int) < (b : Int) := by omega
    have z2 : (a : Int) + (b : Int) ≤ 18446744073709551615 := by omega
    clear h
    go_enter Try.func18, Try.ntmps18
    go_wp2
    go_ret
    exact ⟨by simp, rfl⟩

/-! ### Set, Drop -/
theorem set_nil (vm seat : Int) (t : Nat) (w : World) : Calls Try.prog 13 #[.pointer none, .int .i64 vm, .int .i64 seat, .int .u64 t] w fun e w' => e = .returned (.int .i64 2) ∧ w = w' := by
  go_enter Try.func13, Try.ntmps13
  go_wp2
  go_ret
  exact ⟨rfl, rfl⟩
theorem set_no (B : Nat) (vm seat : Int) (h : ¬ okS vm seat) (t : Nat) (w : World) : Calls Try.prog 13 #[.pointer (some ⟨B, 0, none⟩), .int .i64 vm, .int .i64 seat, .int .u64 t] w fun e w' => e = .returned (.int .i64 1) ∧ w = w' := by
  have H := Lib.hid (seat_no vm seat h w)
  clear h
  go_enter Try.func13, Try.ntmps13
  go_wp2_with fail
  refine (H.out).mono ?_
  rintro e w1 ⟨rfl, rfl⟩
  go_wp2
  go_ret
  exact ⟨rfl, rfl⟩
set_option maxHeartbeats 400000 in
theorem set_yes {w : World} {B : Nat} {on : Nat → Bool} {tm : Nat → Nat} (h : CK w B on tm) (v s : Nat) (hv : v < 6) (hs : s < 3) (t : Nat) :
    Calls Try.prog 13 #[.pointer (some ⟨B, 0, none⟩), .int .i64 v, .int .i64 s, .int .u64 t] w fun e w' => e = .returned (.int .i64 0) ∧ Tk w w' B (upd on (v * 3 + s) true) (upd tm (v * 3 + s) t) := by
  have H := Lib.hid (seat_yes v s hv hs w)
  have c0 := h.c0 (v * 3 + s) (by omega)
  have c1 := h.c1 (v * 3 + s) (by omega)
  have f0 := h.fz (2 * (v * 3 + s))
  have f1 := h.fz (2 * (v * 3 + s) + 1)
  have HT := Lib.hid (h.put (v * 3 + s) (by omega) true t)
  unfold putK at HT
  rw [show 2 * (v * 3 + s) = v * 6 + s * 2 by omega] at c0 c1 f0 f1 HT
  have z2 : (v : Int) < 6 := by omega
  have z4 : (s : Int) < 3 := by omega
  clear h
  go_enter Try.func13, Try.ntmps13
  go_wp2_with fail
  refine (H.out).mono ?_
  rintro e w1 ⟨rfl, rfl⟩
  go_wp2
  go_ret
  exact ⟨rfl, HT.out⟩
theorem drop_nil (vm seat : Int) (w : World) : Calls Try.prog 9 #[.pointer none, .int .i64 vm, .int .i64 seat] w fun e w' => e = .returned (.tuple #[]) ∧ w = w' := by
  go_enter Try.func9, Try.ntmps9
  go_wp2
  go_end0
  exact ⟨rfl, rfl⟩
theorem drop_no (B : Nat) (vm seat : Int) (h : ¬ okS vm seat) (w : World) : Calls Try.prog 9 #[.pointer (some ⟨B, 0, none⟩), .int .i64 vm, .int .i64 seat] w fun e w' => e = .returned (.tuple #[]) ∧ w = w' := by
  have H := Lib.hid (seat_no vm seat h w)
  clear h
  go_enter Try.func9, Try.ntmps9
  go_wp2_with fail
  refine (H.out).mono ?_
  rintro e w1 ⟨rfl, rfl⟩
  go_wp2
  go_end0
  exact ⟨rfl, rfl⟩
set_option maxHeartbeats 400000 in
theorem drop_yes {w : World} {B : Nat} {on : Nat → Bool} {tm : Nat → Nat} (h : CK w B on tm) (v s : Nat) (hv : v < 6) (hs : s < 3) :
    Calls Try.prog 9 #[.pointer (some ⟨B, 0, none⟩), .int .i64 v, .int .i64 s] w fun e w' => e = .returned (.tuple #[]) ∧ Tk w w' B (upd on (v * 3 + s) false) (upd tm (v * 3 + s) 0) := by
  have H := Lib.hid (seat_yes v s hv hs w)
  have c0 := h.c0 (v * 3 + s) (by omega)
  have c1 := h.c1 (v * 3 + s) (by omega)
  have f0 := h.fz (2 * (v * 3 + s))
  have f1 := h.fz (2 * (v * 3 + s) + 1)
  have HT := Lib.hid (h.put (v * 3 + s) (by omega) false 0)
  unfold putK at HT
  rw [show 2 * (v * 3 + s) = v * 6 + s * 2 by omega] at c0 c1 f0 f1 HT
  have z2 : (v : Int) < 6 := by omega
  have z4 : (s : Int) < 3 := by omega
  clear h
  go_enter Try.func9, Try.ntmps9
  go_wp2_with fail
  refine (H.out).mono ?_
  rintro e w1 ⟨rfl, rfl⟩
  go_wp2
  go_end0
  exact ⟨rfl, HT.out⟩

/-! ### DropVM -/
theorem dropVM_still (p : Option Addr) (vm : Int) (H0 : ∀ (i : Nat), i < 3 → ∀ U, Calls Try.prog 9 #[.pointer p, .int .i64 vm, .int .i64 i] U fun e w' => e = .returned (.tuple #[]) ∧ U = w') (w : World) :
    Calls Try.prog 10 #[.pointer p, .int .i64 vm] w fun e w' => e = .returned (.tuple #[]) ∧ w = w' := by
  have H := Lib.hid H0
  clear H0
  go_enter Try.func10, Try.ntmps10
  go_wp2_with fail
  go_loopw [4, 5] (fun _ i wr => ∃ k : Nat, k ≤ 3 ∧ i = .int .i64 k ∧ wr = w) (fun _ i _ => 3 - (intOf i).toNat)
  case atStart => exact ⟨0, by omega, rfl, rfl⟩
  case round =>
    obtain ⟨k, hk, rfl, rfl⟩ := hrel
    by_cases hlt : k < 3
    · have z : (k : Int) < 3 := by omega
      have HK := Lib.hid (H.out k hlt)
      clear H
      go_wp2_with fail
      refine (HK.out _).mono ?_
      rintro e w1 ⟨rfl, rfl⟩
      go_wp2
      go_roundw
      case rel => exact ⟨k + 1, by omega, by go_num, by trivial⟩
      case measure => simp [intOf]; omega
    · obtain rfl : k = 3 := by omega
      clear H
      go_wp2
      go_end0
      exact ⟨rfl, rfl⟩
theorem dropVM_nil (vm : Int) (w : World) : Calls Try.prog 10 #[.pointer none, .int .i64 vm] w fun e w' => e = .returned (.tuple #[]) ∧ w = w' :=
  dropVM_still none vm (fun i _ U => drop_nil vm i U) w
theorem dropVM_no (B : Nat) (vm : Int) (h : ¬ (0 ≤ vm ∧ vm < 6)) (w : World) : Calls Try.prog 10 #[.pointer (some ⟨B, 0, none⟩), .int .i64 vm] w fun e w' => e = .returned (.tuple #[]) ∧ w = w' :=
  dropVM_still _ vm (fun i _ U => drop_no B vm i (fun h2 => h ⟨h2.1, h2.2.1⟩) U) w
def rowOff {α : Type} (f : Nat → α) (v i : Nat) (z : α) : Nat → α := fun p => if v * 3 ≤ p ∧ p < v * 3 + i then z else f p
theorem rowOff_zero {α : Type} (f : Nat → α) (v : Nat) (z : α) : rowOff f v 0 z = f := by funext p; unfold rowOff; rw [if_neg (by omega)]
theorem rowOff_succ {α : Type} (f : Nat → α) (v i : Nat) (z : α) : upd (rowOff f v i z) (v * 3 + i) z = rowOff f v (i + 1) z := by
  funext p
  unfold upd rowOff
  by_cases e : p = v * 3 + i
  · subst e; rw [if_pos rfl, if_pos (by omega)]
  · rw [if_neg e]
    by_cases h : v * 3 ≤ p ∧ p < v * 3 + i
    · rw [if_pos h, if_pos (by omega)]
    · rw [if_neg h, if_neg (by omega)]
set_option maxHeartbeats 400000 in
theorem dropVM_yes {w : World} {B : Nat} {on : Nat → Bool} {tm : Nat → Nat} (h : CK w B on tm) (v : Nat) (hv : v < 6) :
    Calls Try.prog 10 #[.pointer (some ⟨B, 0, none⟩), .int .i64 v] w fun e w' => e = .returned (.tuple #[]) ∧ Tk w w' B (rowOff on v 3 false) (rowOff tm v 3 0) := by
  have HT : Hid (Tk w w B (rowOff on v 0 false) (rowOff tm v 0 0)) := Lib.hid (by rw [rowOff_zero, rowOff_zero]; exact Tk.self h)
  clear h
  go_enter Try.func10, Try.ntmps10
  go_wp2_with fail
  go_loopw [4, 5] (fun _ i wr => ∃ k : Nat, k ≤ 3 ∧ i = .int .i64 k ∧ Tk w wr B (rowOff on v k false) (rowOff tm v k 0)) (fun _ i _ => 3 - (intOf i).toNat)
  case atStart => exact ⟨0, by omega, rfl, HT.out⟩
  case round =>
    clear HT
    obtain ⟨k, hk, rfl, ht⟩ := hrel
    by_cases hlt : k < 3
    · have z : (k : Int) < 3 := by omega
      have HK := Lib.hid (drop_yes ht.ck v k hv hlt)
      have HT := Lib.hid ht
      clear ht
      go_wp2_with fail
      refine (HK.out).mono ?_
      rintro e w1 ⟨rfl, h1⟩
      have H2 := (HT.out).trans h1
      rw [rowOff_succ, rowOff_succ] at H2
      have H3 := Lib.hid H2
      clear h1 H2 HK HT
      go_wp2
      go_roundw
      case rel => exact ⟨k + 1, by omega, by go_num, H3.out⟩
      case measure => simp [intOf]; omega
    · obtain rfl : k = 3 := by omega
      have HT := Lib.hid ht
      clear ht
      go_wp2
      go_end0
      exact ⟨rfl, HT.out⟩

/-! ### Twin -/
theorem sizeK : (Try.prog.info? 31).map (·.size) = some 36 := by kernel_rfl
def zeroK : Array Value := ckA (fun _ => false) (fun _ => 0)
theorem zeroK_run (W : World) : (zeroValue 31).run Try.prog W = .ok (.agg zeroK) W := by kernel_rfl
theorem ck_new (w : World) (on : Nat → Bool) (tm : Nat → Nat) : CK (w.alloc (.cells (ckA on tm) 31)) w.heap.size on tm := heap_alloc_new w _
theorem twin_nil (w : World) : Calls Try.prog 15 #[.pointer none] w fun e w' => e = .returned (.pointer none) ∧ w = w' := by
  go_enter Try.func15, Try.ntmps15
  go_wp2
  go_ret
  exact ⟨rfl, rfl⟩
theorem twin_in {w : World} {B : Nat} {on : Nat → Bool} {tm : Nat → Nat} (h : CK w B on tm) :
    Calls Try.prog 15 #[.pointer (some ⟨B, 0, none⟩)] w fun e w' => e = .returned (.pointer (some ⟨w.heap.size, 0, none⟩)) ∧ CK w' w.heap.size on tm ∧ Below w.heap.size w w' := by
  have HZ := zeroK_run
  have HL := Lib.hid h
  have HC : Hid (CK ((w.alloc (.cells zeroK 31)).setRow w.heap.size (ckA on tm)) w.heap.size on tm) := Lib.hid (by
    unfold CK
    exact setRow_heap _ w.heap.size zeroK _ 31 (0, 0) (ck_new w _ _))
  have HB : Hid (Below w.heap.size w ((w.alloc (.cells zeroK 31)).setRow w.heap.size (ckA on tm))) := Lib.hid
    ((below_new w _).grown (grown_setRow _ _ _) (by simp) (fun j hj => by injection hj with hj; omega))
  clear h
  go_enter Try.func15, Try.ntmps15
  go_wp2_with (first
    | (refine wpList_load_row rfl 31 (.tmp 7) rfl B rfl 31 (ckA on tm) (0, 0) _ HL.out Try.underlying31 rfl (by rw [sizeK, ckA_size]) ?_)
    | (refine wpList_store_row rfl 31 (.tmp 3) (.tmp 8) rfl w.heap.size (ckA on tm) rfl rfl 31 zeroK (ck_new w _ _) (by rw [sizeK, ckA_size]) (by unfold zeroK; rw [ckA_size, ckA_size]) (ckA_one on tm) ?_))
  go_ret
  exact ⟨rfl, HC.out, HB.out⟩
end Go.Proofs.Ytfiahkjaeeoepaa
