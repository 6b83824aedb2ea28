/-
  Contracts of package lease: At.
-/
import Derived.Test.YthafcgppopfdkaaHA
namespace Go.Proofs.Ythafcgppopfdkaa
open Go.ChangeShapes Go.WideShapes Go.ChangeAt Go.RowKit
set_option maxRecDepth 100000
set_option linter.unusedVariables false

def atP (vm pg : Int) (v : LsV) : Bool := v.on && decide (v.to = vm) && decide (0 ≤ v.at_) && decide (v.at_ = pg)
theorem atP_hit {vm pg : Int} {v : LsV} (h1 : v.on = true) (h2 : v.to = vm) (h3 : 0 ≤ v.at_) (h4 : v.at_ = pg) : atP vm pg v = true := by
  unfold atP; rw [h1, decide_eq_true h2, decide_eq_true h3, decide_eq_true h4]; rfl
structure C1 (w : World) (P : Nat) (v : Int) : Prop where
  c : w.cell? ⟨P, 0, none⟩ = some (.int .i64 v)
theorem C1.below {w w' : World} {P : Nat} {v : Int} (h : C1 w P v) (hb : Below w.heap.size w w') : C1 w' P v := ⟨(hb.cell (World.block_lt_of_cell? _ _ h.c)).trans h.c⟩
set_option maxHeartbeats 1000000 in
theorem at1_in (v : LsV) {w : World} {P Q : Nat} {vm pg : Int} (hP : C1 w P vm) (hQ : C1 w Q pg) :
    Calls Try.prog 32 #[.agg v.cells, .pointer (some ⟨P, 0, none⟩), .pointer (some ⟨Q, 0, none⟩)] w fun e w' => e = .returned (.bool (atP vm pg v)) ∧ Below w.heap.size w w' := by
  have HB := Lib.hid (below_new w (.cells v.cells 42))
  have n0 : (w.alloc (.cells v.cells 42)).cell? ⟨w.heap.size, 0, none⟩ = some (.bool v.on) := (newL w v).cell 0
  have n3 : (w.alloc (.cells v.cells 42)).cell? ⟨w.heap.size, 3, none⟩ = some (.int .i64 v.to) := (newL w v).cell 3
  have n5 : (w.alloc (.cells v.cells 42)).cell? ⟨w.heap.size, 5, none⟩ = some (.int .i64 v.at_) := (newL w v).cell 5
  have HL := Lib.hid (newL w v)
  have p1 := (hP.below HB.out).c
  have q1 := (hQ.below HB.out).c
  have HT := Lib.hid (taken_in v)
  have HQ := Lib.hid (hQ.below HB.out)
  clear hP hQ
  cases ho : v.on
  · have e : Hid (atP vm pg v = false) := Lib.hid (by unfold atP; rw [ho]; rfl)
    rw [e.out]
    rw [ho] at n0
    clear ho n3 n5 p1 q1
    go_enter Try.func32, Try.ntmps32
    go_wp2
    go_ret
    exact ⟨rfl, HB.out⟩
  · rw [ho] at n0
    by_cases h1 : v.to = vm
    · have z1 : (v.to == vm) = true := by simp [h1]
      by_cases h2 : 0 ≤ v.at_
      · rw [decide_eq_true h2] at HT
        have e : Hid (atP vm pg v = (v.at_ == pg)) := Lib.hid (by
          unfold atP; rw [ho, decide_eq_true h1, decide_eq_true h2]
          by_cases h3 : v.at_ = pg <;> simp [h3])
        rw [e.out]
        have HX : Hid (v.at_ = v.at_) := Lib.hid rfl
        clear ho h1 h2 n5 q1
        go_enter Try.func32, Try.ntmps32
        go_wp2_with (refine wpList_ldL rfl (.tmp 3) rfl w.heap.size rfl v HL.out ?_)
        refine (HT.out _).mono ?_
        rintro e w2 ⟨rfl, b2⟩
        have n5 := ((HL.out).below b2).cell 5
        have n5' : w2.cell? ⟨w.heap.size, 5, none⟩ = some (.int .i64 v.at_) := n5
        have q1 := ((HQ.out).below b2).c
        have B2 := Lib.hid (below_up HB.out b2)
        clear n5 b2
        go_wp2
        go_ret
        exact ⟨rfl, B2.out⟩
      · rw [decide_eq_false h2] at HT
        have e : Hid (atP vm pg v = false) := Lib.hid (by unfold atP; rw [ho, decide_eq_true h1, decide_eq_false h2]; rfl)
        rw [e.out]
        clear ho h1 h2 n5 q1
        go_enter Try.func32, Try.ntmps32
        go_wp2_with (refine wpList_ldL rfl (.tmp 3) rfl w.heap.size rfl v HL.out ?_)
        refine (HT.out _).mono ?_
        rintro e w2 ⟨rfl, b2⟩
        have B2 := Lib.hid (below_up HB.out b2)
        clear b2
        go_wp2
        go_ret
        exact ⟨rfl, B2.out⟩
    · have z1 : (v.to == vm) = false := by simp [h1]
      have e : Hid (atP vm pg v = false) := Lib.hid (by unfold atP; rw [ho, decide_eq_false h1]; rfl)
      rw [e.out]
      clear ho h1 n5 q1
      go_enter Try.func32, Try.ntmps32
      go_wp2
      go_ret
      exact ⟨rfl, HB.out⟩
set_option maxHeartbeats 2000000 in
/-- IndexFunc over a book, by At's closure. -/
theorem index_at {w : World} {B P X : Nat} {ty : TypeId} {b : Nat → LsV} {vm pg : Int} (hL : BL w B ty (BKA b)) (hP : C1 w P vm) (hX : C1 w X pg) :
    Calls Try.prog 29 #[.slice (some ⟨B, 0, none⟩) 16 16, .func (.func 32) #[] #[.pointer (some ⟨P, 0, none⟩), .pointer (some ⟨X, 0, none⟩)]] w
      fun e w' => e = .returned (.int .i64 (fstB (fun i => atP vm pg (b i)) 16)) ∧ Below w.heap.size w w' := by
  have HL := Lib.hid hL
  have HP := Lib.hid hP
  have HX := Lib.hid hX
  clear hL hP hX
  go_enter Try.func29, Try.ntmps29
  go_wp2_with fail
  go_loopw [4, 5, 8] (fun _ _ i wr => ∃ k : Nat, k ≤ 16 ∧ i = .int .i64 k ∧ (∀ j, j < k → atP vm pg (b j) = false) ∧ Below w.heap.size w wr) (fun _ _ i _ => 16 - (intOf i).toNat)
  case atStart => exact ⟨0, by omega, rfl, fun j hj => by omega, Below.refl _ _⟩
  case round =>
    obtain ⟨k, hk, rfl, hn, hb⟩ := hrel
    have HN := Lib.hid hn
    have HB := Lib.hid hb
    have hb2 := (HL.out).below hb
    have HC := Lib.hid (fun i => at1_in (b i) ((HP.out).below hb) ((HX.out).below hb))
    clear hn hb
    by_cases hlt : k < 16
    · have k1 : (k : Int) < 16 := by omega
      obtain ⟨c0, c1, c2, c3, c4, c5⟩ := hb2.row6 k hlt
      have HK := Lib.hid ((HC.out) k)
      unfold LsV.cells at HK
      clear hb2
      cases ho : atP vm pg (b k)
      · rw [ho] at HK
        have HN2 : Hid (∀ j, j < k + 1 → atP vm pg (b j) = false) := Lib.hid (fun j hj => by
          by_cases e : j = k
          · rw [e]; exact ho
          · exact (HN.out) j (by omega))
        clear ho
        go_wp2_with fail
        refine (HK.out).mono ?_
        rintro e w2 ⟨rfl, b2⟩
        have HB2 := Lib.hid (below_up HB.out b2)
        clear b2 c0 c1 c2 c3 c4 c5
        go_wp2
        go_roundw
        case rel => exact ⟨k + 1, by omega, by go_num, HN2.out, HB2.out⟩
        case measure => simp [intOf]; omega
      · rw [ho] at HK
        have HS : Hid (fstB (fun i => atP vm pg (b i)) 16 = (k : Nat)) := Lib.hid (fstB_is hlt ho (HN.out))
        clear ho
        go_wp2_with fail
        refine (HK.out).mono ?_
        rintro e w2 ⟨rfl, b2⟩
        have HB2 := Lib.hid (below_up HB.out b2)
        clear b2 c0 c1 c2 c3 c4 c5
        go_wp2
        go_ret
        exact ⟨by rw [HS.out]; rfl, HB2.out⟩
    · obtain rfl : k = 16 := by omega
      have HS : Hid (fstB (fun i => atP vm pg (b i)) 16 = -1) := Lib.hid (fstB_no HN.out)
      clear hb2
      go_wp2
      go_ret
      exact ⟨by rw [HS.out]; rfl, HB.out⟩
theorem at_in (b : Nat → LsV) (vm pg : Int) (w : World) :
    Calls Try.prog 24 #[.agg (BKA b), .int .i64 vm, .int .i64 pg] w fun e w' => e = .returned (.int .i64 (fstB (fun i => atP vm pg (b i)) 16)) ∧ Below w.heap.size w w' := by
  have b1 := below_new w (.cells (BKA b) 44)
  have b2 := below_more b1 (.cells #[.int .i64 vm] 3)
  have b3 := below_more b2 (.cells #[.int .i64 pg] 3)
  have h1 := ((bl_new w 44 (BKA b)).below (below_new _ (.cells #[.int .i64 vm] 3))).below (below_new _ (.cells #[.int .i64 pg] 3))
  have h2 : C1 (((w.alloc (.cells (BKA b) 44)).alloc (.cells #[.int .i64 vm] 3)).alloc (.cells #[.int .i64 pg] 3)) (w.heap.size + 1) vm :=
    C1.below ⟨(bl_newAt (w.alloc (.cells (BKA b) 44)) 3 #[.int .i64 vm] _ (by simp)).cell 0⟩ (below_new _ _)
  have h3 : C1 (((w.alloc (.cells (BKA b) 44)).alloc (.cells #[.int .i64 vm] 3)).alloc (.cells #[.int .i64 pg] 3)) (w.heap.size + 1 + 1) pg :=
    ⟨(bl_newAt _ 3 #[.int .i64 pg] _ (by simp)).cell 0⟩
  have HX := Lib.hid (index_at h1 h2 h3)
  have HB := Lib.hid b3
  clear h1 h2 h3 b1 b2 b3
  go_enter Try.func24, Try.ntmps24
  go_wp2_with fail
  refine (HX.out).mono ?_
  rintro e w2 ⟨rfl, b2⟩
  have B2 := Lib.hid (below_up HB.out b2)
  clear b2
  go_wp2
  go_ret
  exact ⟨rfl, B2.out⟩
end Go.Proofs.Ythafcgppopfdkaa
