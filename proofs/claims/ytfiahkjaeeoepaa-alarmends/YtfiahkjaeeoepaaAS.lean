/-
  slices.SortStableFunc over package alarm's rows, by the shelf's contract of the insertion sort, laid at this cut.
-/
import Derived.Test.YtfiahkjaeeoepaaRows
import Derived.Test.YtfiahkjaeeoepaaGN
import Derived.Shelf.SlSortCmp.InsertionK
import Derived.Shelf.SlGeneric
import Derived.Ground.SlsfProg
import Derived.Sort.LotA
namespace Go.Proofs.Ytfiahkjaeeoepaa
open Go.Shelf Go.Proofs
shelf_lay_g SlLaysF0.n20 Slsf 20 at Try 24 as lays_ins
open Go.ChangeShapes Go.WideShapes Go.ChangeAt Go.RowKit Go.Lib Go.Sort
set_option maxRecDepth 100000

/-- An alarm: when, and of which of the 18 seats. -/
structure AL where
  tm : Nat
  p : Nat
  deriving Inhabited, DecidableEq
def encA (x : AL) : List Value := [.int .u64 x.tm, .int .i64 ((x.p / 3 : Nat) : Int), .int .i64 ((x.p % 3 : Nat) : Int)]
def cfA (x y : AL) : Int := if x.tm < y.tm then -1 else if y.tm < x.tm then 1 else 0
theorem isAggA (w : World) : (isAgg 43).run Try.prog w = .ok true w := by kernel_rfl
theorem sizeA (w : World) : (Go.sizeOf 43).run Try.prog w = .ok 3 w := by kernel_rfl
theorem isNaN_in (x : Nat) (w : World) : Calls Try.prog 23 #[.int .u64 x] w fun e w' => e = .returned (.bool false) ∧ w = w' := by
  have z : ((x : Int) != (x : Int)) = false := by simp
  go_enter Try.func23, Try.ntmps23
  go_wp2
  go_ret
  exact ⟨rfl, rfl⟩
theorem compare_in (x y : Nat) (w : World) : Calls Try.prog 21 #[.int .u64 x, .int .u64 y] w fun e w' => e = .returned (.int .i64 (if x < y then -1 else if y < x then 1 else 0)) ∧ w = w' := by
  have H := Lib.hid isNaN_in
  by_cases h1 : x < y
  · have z1 : (x : Int) < (y : Int) := by omega
    rw [if_pos h1]
    clear h1
    go_enter Try.func21, Try.ntmps21
    go_wp2_with (go_at_call 23; refine (H.out _ _).mono ?_; rintro e w1 ⟨rfl, rfl⟩)
    go_ret
    exact ⟨rfl, rfl⟩
  · have z1 : ¬ (x : Int) < (y : Int) := by omega
    rw [if_neg h1]
    by_cases h2 : y < x
    · have z2 : (y : Int) < (x : Int) := by omega
      rw [if_pos h2]
      clear h1 h2
      go_enter Try.func21, Try.ntmps21
      go_wp2_with (go_at_call 23; refine (H.out _ _).mono ?_; rintro e w1 ⟨rfl, rfl⟩)
      go_ret
      exact ⟨rfl, rfl⟩
    · have z2 : ¬ (y : Int) < (x : Int) := by omega
      rw [if_neg h2]
      clear h1 h2
      go_enter Try.func21, Try.ntmps21
      go_wp2_with (go_at_call 23; refine (H.out _ _).mono ?_; rintro e w1 ⟨rfl, rfl⟩)
      go_ret
      exact ⟨rfl, rfl⟩
theorem cmpA_in (x y : AL) (W : World) : Calls Try.prog 20 #[.agg (encA x).toArray, .agg (encA y).toArray] W fun e w' => e = .returned (.int .i64 (cfA x y)) ∧ ∃ q os', w' = grow (W.drewN q) os' := by
  have HC := Lib.hid (fun U => compare_in x.tm y.tm U)
  unfold cfA
  generalize (if x.tm < y.tm then (-1 : Int) else if y.tm < x.tm then 1 else 0) = r at *
  unfold encA
  go_enter Try.func20, Try.ntmps20
  go_wp2_with (go_at_call 21; refine (HC.out _).mono ?_; rintro e w1 ⟨rfl, rfl⟩)
  go_ret
  exact ⟨rfl, 0, _, by rw [alloc_eq_grow, alloc_eq_grow, grow_grow]; rfl⟩
theorem insertion_in (blk cap : Nat) (d : Array AL) (w : World) (hH : HoldsK encA 3 w blk 0 d) (hblk : blk < w.heap.size) (hsz : d.size ≤ 18) :
    Calls Try.prog 24 #[.slice (some ⟨blk, 0, none⟩) d.size cap, .int .i64 0, .int .i64 d.size, .func (.func 20) #[] #[]] w fun e w' =>
      e = .returned (.tuple #[]) ∧ ∃ n os, w' = sortWorldK encA 3 w blk 0 n (Sort.insertionSort (ltOf cfA) d 0 d.size) os := by
  have h := AnyQ.insertionSortCmpFunc lays_ins 3 isAggA sizeA encA (fun _ => rfl) (fun x v hv => by simp [encA] at hv; rcases hv with rfl | rfl | rfl <;> rfl) cfA 20 #[] blk 0 cap 0 d.size d w
    (enters_of Try.func20 (by kernel_rfl) rfl) (fun _ _ _ _ x y => cmpA_in x y _) hH hblk (Nat.zero_le _) (Nat.le_refl _) (by omega)
  exact h
theorem insertion_nil (cap : Nat) (p : Option Addr) (F : Value) (w : World) :
    Calls Try.prog 24 #[.slice p 0 cap, .int .i64 0, .int .i64 0, F] w fun e w' => e = .returned (.tuple #[]) ∧ w = w' := by
  go_enter Try.func24, Try.ntmps24
  go_wp2
  refine wp_loop_rounds 1 ?_
  rw [rounds_succ]
  go_wp2
  go_end0
  exact ⟨rfl, rfl⟩
end Go.Proofs.Ytfiahkjaeeoepaa
