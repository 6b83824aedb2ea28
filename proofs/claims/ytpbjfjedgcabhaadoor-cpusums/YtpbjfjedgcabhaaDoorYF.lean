/-
  Contracts of seat.whole, Get and Set: the machine's registers.
-/
import Derived.Test.YtpbjfjedgcabhaaDoorYA
import Derived.Test.YtpbjfjedgcabhaaDoorWC
namespace Go.Proofs.YtpbjfjedgcabhaaDoor
open Go.ChangeShapes Go.WideShapes Go.ChangeAt Go.RowKit
open WM
set_option maxRecDepth 100000
set_option linter.unusedVariables false

theorem five (k : Nat) (h : k < 5) : k = 0 ∨ k = 1 ∨ k = 2 ∨ k = 3 ∨ k = 4 := by omega
theorem whole_yes (B k : Nat) (hk : k < 5) (w : World) : Calls Tryd.prog 75 #[.pointer (some ⟨B, 0, none⟩), .int .i64 k] w fun e w' => e = .returned (.pointer (some ⟨B, 17 + k, none⟩)) ∧ w = w' := by
  rcases five k hk with rfl | rfl | rfl | rfl | rfl
  all_goals
    go_enter Tryd.func75, Tryd.ntmps75
    go_wp2
    go_ret
    exact ⟨rfl, rfl⟩
theorem whole_no (B : Nat) (n : Int) (h : ¬ (0 ≤ n ∧ n < 5)) (w : World) : Calls Tryd.prog 75 #[.pointer (some ⟨B, 0, none⟩), .int .i64 n] w fun e w' => e = .returned (.pointer none) ∧ w = w' := by
  have z0 : (n == 0) = false := by simp; omega
  have z1 : (n == 1) = false := by simp; omega
  have z2 : (n == 2) = false := by simp; omega
  have z3 : (n == 3) = false := by simp; omega
  have z4 : (n == 4) = false := by simp; omega
  clear h
  go_enter Tryd.func75, Tryd.ntmps75
  go_wp2
  go_ret
  exact ⟨rfl, rfl⟩
/-- The five registers that are words as they are. -/
def regW (s : SV) (k : Nat) : Nat := [s.ba, s.ve, s.ep, s.ca, s.ad].getD k 0
theorem regW_cell {w : World} {B : Nat} {s : SV} (h : LS w B s) (k : Nat) (hk : k < 5) : w.cell? ⟨B, 17 + k, none⟩ = some (.int .u64 (regW s k : Nat)) := by
  rcases five k hk with rfl | rfl | rfl | rfl | rfl
  · exact h.ba'
  · exact h.ve'
  · exact h.ep'
  · exact h.ca'
  · exact h.ad'
def putW (s : SV) (k v : Nat) : SV := match k with
  | 0 => { s with ba := v }
  | 1 => { s with ve := v }
  | 2 => { s with ep := v }
  | 3 => { s with ca := v }
  | _ => { s with ad := v }
theorem putW_sn {w : World} {B : Nat} {s : SV} (h : LS w B s) (k : Nat) (hk : k < 5) (v : Nat) : Sn w (w.setCell ⟨B, 17 + k, none⟩ (.int .u64 v)) B (putW s k v) := by
  rcases five k hk with rfl | rfl | rfl | rfl | rfl
  · exact (Sn.self h).cell 17 _ rfl
  · exact (Sn.self h).cell 18 _ rfl
  · exact (Sn.self h).cell 19 _ rfl
  · exact (Sn.self h).cell 20 _ rfl
  · exact (Sn.self h).cell 21 _ rfl
def getN (s : SV) (time : Nat) (me : Int) (k : Nat) : Int := match k with
  | 5 => (s.ma : Nat)
  | 6 => (oneN s.op : Nat)
  | 7 => (time : Nat)
  | 8 => IntKind.u64.wrap me
  | k => (regW s k : Nat)
theorem get_whole (s : SV) (k : Nat) (hk : k < 5) (time : Nat) (me : Int) (w : World) : Calls Tryd.prog 63 #[s.agg, .int .i64 k, .int .u64 time, .int .i64 me] w fun e w' => e = .returned (.tuple #[.int .u64 (regW s k : Nat), .bool true]) ∧ Below w.heap.size w w' := by
  have HW := Lib.hid (whole_yes w.heap.size k hk)
  have c1 := regW_cell (ls_new w s) k hk
  have HB := Lib.hid (below_new w (.cells s.cells 26))
  generalize regW s k = r at *
  unfold SV.agg at *
  go_enter Tryd.func63, Tryd.ntmps63
  go_wp2_with fail
  refine (HW.out _).mono ?_
  rintro e w1 ⟨rfl, rfl⟩
  go_wp2
  go_ret2
  exact ⟨rfl, HB.out⟩
theorem get_mask (s : SV) (hs : s.ok) (time : Nat) (me : Int) (w : World) : Calls Tryd.prog 63 #[s.agg, .int .i64 5, .int .u64 time, .int .i64 me] w fun e w' => e = .returned (.tuple #[.int .u64 (s.ma : Nat), .bool true]) ∧ Below w.heap.size w w' := by
  have HW := Lib.hid (whole_no w.heap.size 5 (by omega))
  have c1 := (ls_new w s).ma'
  have HB := Lib.hid (below_new w (.cells s.cells 26))
  have u : IntKind.u64.wrap (s.ma : Int) = s.ma := by have := hs.ma; rw [IntKind.wrap_u64]; omega
  have HU := Lib.hid u
  clear u hs
  unfold SV.agg at *
  go_enter Tryd.func63, Tryd.ntmps63
  go_wp2_with fail
  refine (HW.out _).mono ?_
  rintro e w1 ⟨rfl, rfl⟩
  go_wp2
  go_ret2
  refine ⟨?_, HB.out⟩
  show Ending.returned (.tuple #[.int .u64 (IntKind.u64.wrap (s.ma : Nat)), .bool true]) = _
  rw [HU.out]
theorem get_open (s : SV) (time : Nat) (me : Int) (w : World) : Calls Tryd.prog 63 #[s.agg, .int .i64 6, .int .u64 time, .int .i64 me] w fun e w' => e = .returned (.tuple #[.int .u64 (oneN s.op : Nat), .bool true]) ∧ Below w.heap.size w w' := by
  have HW := Lib.hid (whole_no w.heap.size 6 (by omega))
  have c1 := (ls_new w s).op'
  have HO := Lib.hid (one_in s.op)
  have HB := Lib.hid (below_new w (.cells s.cells 26))
  unfold SV.agg at *
  go_enter Tryd.func63, Tryd.ntmps63
  go_wp2_with fail
  refine (HW.out _).mono ?_
  rintro e w1 ⟨rfl, rfl⟩
  go_wp2_with fail
  refine (HO.out _).mono ?_
  rintro e w1 ⟨rfl, rfl⟩
  go_wp2
  go_ret2
  exact ⟨rfl, HB.out⟩
theorem get_clock (s : SV) (time : Nat) (me : Int) (w : World) : Calls Tryd.prog 63 #[s.agg, .int .i64 7, .int .u64 time, .int .i64 me] w fun e w' => e = .returned (.tuple #[.int .u64 (time : Nat), .bool true]) ∧ Below w.heap.size w w' := by
  have HW := Lib.hid (whole_no w.heap.size 7 (by omega))
  have HB := Lib.hid (below_new w (.cells s.cells 26))
  unfold SV.agg at *
  go_enter Tryd.func63, Tryd.ntmps63
  go_wp2_with fail
  refine (HW.out _).mono ?_
  rintro e w1 ⟨rfl, rfl⟩
  go_wp2
  go_ret2
  exact ⟨rfl, HB.out⟩
theorem get_me (s : SV) (time : Nat) (me : Int) (w : World) : Calls Tryd.prog 63 #[s.agg, .int .i64 8, .int .u64 time, .int .i64 me] w fun e w' => e = .returned (.tuple #[.int .u64 (IntKind.u64.wrap me), .bool true]) ∧ Below w.heap.size w w' := by
  have HW := Lib.hid (whole_no w.heap.size 8 (by omega))
  have HB := Lib.hid (below_new w (.cells s.cells 26))
  unfold SV.agg at *
  go_enter Tryd.func63, Tryd.ntmps63
  go_wp2_with fail
  refine (HW.out _).mono ?_
  rintro e w1 ⟨rfl, rfl⟩
  go_wp2
  go_ret2
  exact ⟨rfl, HB.out⟩
theorem get_none (s : SV) (n : Int) (hn : ¬ (0 ≤ n ∧ n < 9)) (time : Nat) (me : Int) (w : World) : Calls Tryd.prog 63 #[s.agg, .int .i64 n, .int .u64 time, .int .i64 me] w fun e w' => e = .returned (.tuple #[.int .u64 0, .bool false]) ∧ Below w.heap.size w w' := by
  have HW := Lib.hid (whole_no w.heap.size n (by omega))
  have HB := Lib.hid (below_new w (.cells s.cells 26))
  have z0 : (n == 5) = false := by simp; omega
  have z1 : (n == 6) = false := by simp; omega
  have z2 : (n == 7) = false := by simp; omega
  have z3 : (n == 8) = false := by simp; omega
  clear hn
  unfold SV.agg at *
  go_enter Tryd.func63, Tryd.ntmps63
  go_wp2_with fail
  refine (HW.out _).mono ?_
  rintro e w1 ⟨rfl, rfl⟩
  go_wp2
  go_ret2
  exact ⟨rfl, HB.out⟩
theorem get_yes (s : SV) (hs : s.ok) (k : Nat) (hk : k < 9) (time : Nat) (me : Int) (w : World) : Calls Tryd.prog 63 #[s.agg, .int .i64 k, .int .u64 time, .int .i64 me] w fun e w' => e = .returned (.tuple #[.int .u64 (getN s time me k), .bool true]) ∧ Below w.heap.size w w' := by
  by_cases h5 : k < 5
  · have e : getN s time me k = (regW s k : Nat) := by
      rcases five k h5 with rfl | rfl | rfl | rfl | rfl <;> rfl
    rw [e]
    exact get_whole s k h5 time me w
  · have h : k = 5 ∨ k = 6 ∨ k = 7 ∨ k = 8 := by omega
    rcases h with rfl | rfl | rfl | rfl
    · exact get_mask s hs time me w
    · exact get_open s time me w
    · exact get_clock s time me w
    · exact get_me s time me w

/-! ### Set -/
theorem set_nil (n : Int) (v : Nat) (w : World) : Calls Tryd.prog 64 #[.pointer none, .int .i64 n, .int .u64 v] w fun e w' => e = .returned (.bool false) ∧ w = w' := by
  go_enter Tryd.func64, Tryd.ntmps64
  go_wp2
  go_ret
  exact ⟨rfl, rfl⟩
theorem set_whole {w : World} {B : Nat} {s : SV} (h : LS w B s) (k : Nat) (hk : k < 5) (v : Nat) : Calls Tryd.prog 64 #[.pointer (some ⟨B, 0, none⟩), .int .i64 k, .int .u64 v] w fun e w' => e = .returned (.bool true) ∧ Sn w w' B (putW s k v) := by
  have HW := Lib.hid (whole_yes B k hk)
  have c1 := regW_cell h k hk
  have f1 := h.fz (17 + k)
  have HS := Lib.hid (putW_sn h k hk v)
  clear h
  generalize putW s k v = t at *
  generalize regW s k = r at *
  go_enter Tryd.func64, Tryd.ntmps64
  go_wp2_with fail
  refine (HW.out _).mono ?_
  rintro e w1 ⟨rfl, rfl⟩
  go_wp2
  go_ret
  exact ⟨rfl, HS.out⟩
theorem set_mask {w : World} {B : Nat} {s : SV} (h : LS w B s) (v : Nat) (hv : v < 18446744073709551616) : Calls Tryd.prog 64 #[.pointer (some ⟨B, 0, none⟩), .int .i64 5, .int .u64 v] w fun e w' => e = .returned (.bool true) ∧ Sn w w' B { s with ma := v % 256 } := by
  have HW := Lib.hid (whole_no B 5 (by omega))
  have c1 := h.ma'
  have f1 := h.fz 25
  have HF := Lib.hid (fun U => field_yes v 0 8 U hv (by omega) (by omega))
  have e : fieldN v 0 8 = v % 256 := by rw [← fieldN_and v 0 8 hv, Nat.min_eq_left (by omega), Nat.and_two_pow_sub_one_eq_mod]; simp
  rw [e] at HF
  have hlt : v % 256 < 256 := Nat.mod_lt _ (by omega)
  have u : IntKind.u32.wrap ((v % 256 : Nat) : Int) = ((v % 256 : Nat) : Int) := by rw [IntKind.wrap_u32]; omega
  have HS : Hid (∀ n, Sn w ((w.drewN n).setCell ⟨B, 25, none⟩ (.int .u32 ((v % 256 : Nat) : Int))) B { s with ma := v % 256 }) := Lib.hid (fun n => ((Sn.self h).drawn n).cell 25 _ rfl)
  clear h e hv
  generalize ({ s with ma := v % 256 } : SV) = t at *
  generalize v % 256 = q at *
  go_enter Tryd.func64, Tryd.ntmps64
  go_wp2_with fail
  refine (HW.out _).mono ?_
  rintro e w1 ⟨rfl, rfl⟩
  go_wp2_with fail
  refine (HF.out _).mono ?_
  rintro e w1 ⟨rfl, n, rfl⟩
  go_wp2
  go_ret
  exact ⟨rfl, HS.out n⟩
theorem set_open {w : World} {B : Nat} {s : SV} (h : LS w B s) (v : Nat) (hv : v < 18446744073709551616) : Calls Tryd.prog 64 #[.pointer (some ⟨B, 0, none⟩), .int .i64 6, .int .u64 v] w fun e w' => e = .returned (.bool true) ∧ Sn w w' B { s with op := decide (v % 2 = 1) } := by
  have HW := Lib.hid (whole_no B 6 (by omega))
  have c1 := h.op'
  have f1 := h.fz 22
  have HF := Lib.hid (fun U => field_yes v 0 1 U hv (by omega) (by omega))
  have e : fieldN v 0 1 = v % 2 := by rw [← fieldN_and v 0 1 hv, Nat.min_eq_left (by omega), Nat.and_two_pow_sub_one_eq_mod]; simp
  rw [e] at HF
  have u : (((v % 2 : Nat) : Int) == 1) = decide (v % 2 = 1) := by
    by_cases h : v % 2 = 1
    · simp [h]
    · rw [decide_eq_false h, beq_eq_false_iff_ne]; omega
  have HU := Lib.hid u
  have HS : Hid (∀ n, Sn w ((w.drewN n).setCell ⟨B, 22, none⟩ (.bool (decide (v % 2 = 1)))) B { s with op := decide (v % 2 = 1) }) := Lib.hid (fun n => ((Sn.self h).drawn n).cell 22 _ rfl)
  clear h e hv u
  generalize ({ s with op := decide (v % 2 = 1) } : SV) = t at *
  generalize decide (v % 2 = 1) = b at *
  generalize v % 2 = q at *
  go_enter Tryd.func64, Tryd.ntmps64
  go_wp2_with fail
  refine (HW.out _).mono ?_
  rintro e w1 ⟨rfl, rfl⟩
  go_wp2_with fail
  refine (HF.out _).mono ?_
  rintro e w1 ⟨rfl, n, rfl⟩
  go_wp2
  go_ret
  exact ⟨rfl, by rw [HU.out]; exact HS.out n⟩
theorem set_none {w : World} {B : Nat} {s : SV} (h : LS w B s) (n : Int) (hn : ¬ (0 ≤ n ∧ n < 7)) (v : Nat) : Calls Tryd.prog 64 #[.pointer (some ⟨B, 0, none⟩), .int .i64 n, .int .u64 v] w fun e w' => e = .returned (.bool false) ∧ w = w' := by
  have HW := Lib.hid (whole_no B n (by omega))
  have z0 : (n == 5) = false := by simp; omega
  have z1 : (n == 6) = false := by simp; omega
  clear hn h
  go_enter Tryd.func64, Tryd.ntmps64
  go_wp2_with fail
  refine (HW.out _).mono ?_
  rintro e w1 ⟨rfl, rfl⟩
  go_wp2
  go_ret
  exact ⟨rfl, rfl⟩
end Go.Proofs.YtpbjfjedgcabhaaDoor
