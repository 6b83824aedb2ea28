/-
  What the laws of layer 14 call: awake.
-/
import Derived.Test.YthafcgppopfdkaaHE
namespace Go.Proofs.Ythafcgppopfdkaa
open Go.ChangeShapes Go.WideShapes Go.ChangeAt Go.RowKit
set_option maxRecDepth 100000
set_option linter.unusedVariables false

def zB : Nat → LsV := fun _ => LsV.zero
def awB : Nat → LsV := offB zB 0 3 1 true
def awC : Nat → LsV := accB awB 0 1 9
def awD : Nat → LsV := witB awC 0 0
theorem aw1 : offE zB 0 3 1 = 0 ∧ offN zB 0 3 1 = 0 ∧ accE awB 0 1 9 = 0 ∧ witE awC 0 0 = 8 ∧ fstB (fun i => atP 1 9 (awC i)) 16 = 0 := by decide
theorem zB_is : (BKA fun _ => LsV.zero) = BKA zB := rfl
set_option maxHeartbeats 2000000 in
theorem awake14_in (w : World) : Calls Try.prog 17 #[] w fun e w' => e = .returned (.bool true) ∧ Below w.heap.size w w' := by
  have HZ := zeroB_run
  have HO := Lib.hid (offer_in zB 0 3 1 true)
  have HA := Lib.hid (accept_in awB 0 1 9)
  have HW := Lib.hid (withdraw_in awC 0 0)
  have HT := Lib.hid (at_in awC 1 9)
  obtain ⟨e1, e2, e3, e4, e5⟩ := aw1
  rw [e1, e2] at HO
  rw [e3] at HA
  rw [e4] at HW
  rw [e5] at HT
  have o1 := Lib.hid (ob_new (Below.refl w.heap.size w) 44 (BKA zB))
  clear e1 e2 e3 e4 e5
  rw [zB_is] at HZ
  change Hid (∀ w, Calls Try.prog _ #[.agg (BKA zB), .int .i64 0, .int .i64 3, .int .i64 1, .bool true] w fun e w' => e = .returned (.tuple #[.agg (BKA awB), .int .i64 0, .int .i64 0]) ∧ _) at HO
  change Hid (∀ w, Calls Try.prog _ #[.agg (BKA awB), .int .i64 0, .int .i64 1, .int .i64 9] w fun e w' => e = .returned (.tuple #[.agg (BKA awC), .int .i64 0]) ∧ _) at HA
  change Hid (∀ w, Calls Try.prog _ #[.agg (BKA awC), .int .i64 0, .int .i64 0] w fun e w' => e = .returned (.tuple #[.agg (BKA awD), .int .i64 8]) ∧ _) at HW
  generalize awB = B at *
  generalize awC = C at *
  generalize awD = D at *
  go_enter Try.func17, Try.ntmps17
  go_wp2_with (refine wpList_ldB rfl (.tmp 1) rfl w.heap.size rfl 44 zB (o1.out).bl ?_)
  refine (HO.out _).mono ?_
  rintro e w1 ⟨rfl, b1⟩
  have o2 := Lib.hid ((o1.out).below b1)
  have o3 := Lib.hid ((o2.out).put (BKA B))
  clear o1 b1 HO
  go_wp2_with (first
    | (refine wpList_stB rfl (.tmp 1) (.tmp 11) rfl w.heap.size rfl 44 zB B rfl (o2.out).bl ?_)
    | (refine wpList_ldB rfl (.tmp 1) rfl w.heap.size rfl 44 B (o3.out).bl ?_))
  refine (HA.out _).mono ?_
  rintro e w2 ⟨rfl, b2⟩
  have o4 := Lib.hid (ob_lay ((o3.out).below b2).bel 44 (BKA zB) (BKA C))
  have z4 := Lib.hid (bl_new w2 44 (BKA zB))
  clear o3 b2 HA
  go_wp2_with (first
    | (refine wpList_stB rfl (.tmp 4) (.tmp 18) rfl w2.heap.size rfl 44 zB C rfl z4.out ?_)
    | (refine wpList_ldB rfl (.tmp 4) rfl w2.heap.size rfl 44 C (o4.out).bl ?_))
  refine (HW.out _).mono ?_
  rintro e w3 ⟨rfl, b3⟩
  have o5 := Lib.hid ((o4.out).below b3)
  have o6 := Lib.hid ((o5.out).below (lay_below w3 44 (BKA zB) (BKA D)))
  have z6 := Lib.hid (bl_new w3 44 (BKA zB))
  clear o4 b3 HW
  go_wp2_with (first
    | (refine wpList_stB rfl (.tmp 6) (.tmp 24) rfl w3.heap.size rfl 44 zB D rfl z6.out ?_)
    | (refine wpList_ldB rfl (.tmp 4) rfl w2.heap.size rfl 44 C (o6.out).bl ?_))
  refine (HT.out _).mono ?_
  rintro e w4 ⟨rfl, b4⟩
  have o7 := Lib.hid ((o6.out).below b4)
  clear b4 HT
  go_wp2
  go_ret
  exact ⟨rfl, (o7.out).bel⟩
end Go.Proofs.Ythafcgppopfdkaa
