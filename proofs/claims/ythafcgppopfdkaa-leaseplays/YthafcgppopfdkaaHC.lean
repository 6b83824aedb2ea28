/-
  Contracts of package lease: Drop, Leave, Withdraw, Accept, Offer.
-/
import Derived.Test.YthafcgppopfdkaaHB
import Derived.Deep.CutBlock
namespace Go.Proofs.Ythafcgppopfdkaa
open Go.ChangeShapes Go.WideShapes Go.ChangeAt Go.RowKit
set_option maxRecDepth 100000
set_option linter.unusedVariables false

/-- A lease is written. -/
def putL (w : World) (B n : Nat) (v : LsV) : World :=
  (((((w.setCell ⟨B, n * 6, none⟩ (.bool v.on)).setCell ⟨B, n * 6 + 1, none⟩ (.int .i64 v.fr)).setCell ⟨B, n * 6 + 2, none⟩ (.int .i64 v.pg)).setCell ⟨B, n * 6 + 3, none⟩ (.int .i64 v.to)).setCell ⟨B, n * 6 + 4, none⟩ (.bool v.wr)).setCell ⟨B, n * 6 + 5, none⟩ (.int .i64 v.at_)
theorem putL_grown (w : World) (B n : Nat) (v : LsV) : w.grownBy (putL w B n v) (some B) :=
  grown_trans (grown_trans (grown_trans (grown_trans (grown_trans (grown_setCell w ⟨B, n * 6, none⟩ _) (grown_setCell _ ⟨B, n * 6 + 1, none⟩ _)) (grown_setCell _ ⟨B, n * 6 + 2, none⟩ _)) (grown_setCell _ ⟨B, n * 6 + 3, none⟩ _)) (grown_setCell _ ⟨B, n * 6 + 4, none⟩ _)) (grown_setCell _ ⟨B, n * 6 + 5, none⟩ _)
theorem BL.putL {w : World} {B : Nat} {ty : TypeId} {b : Nat → LsV} (h : BL w B ty (BKA b)) (n : Nat) (hn : n < 16) (v : LsV) : BL (putL w B n v) B ty (BKA (updA b n v)) := by
  unfold Go.Proofs.Ythafcgppopfdkaa.putL
  refine BL.set (BL.set (BL.set (BL.set (BL.set (BL.set h _ _ rfl) _ _ rfl) _ _ rfl) _ _ rfl) _ _ rfl) _ _ ?_
  unfold BKA
  rw [arrA_set, arrA_set, arrA_set, arrA_set, arrA_set, arrA_set]
  refine arrA_congr fun i hi => ?_
  by_cases e : i / 6 = n
  · rw [e, updA_same]
    have e2 : i = n * 6 + i % 6 := by omega
    have h6 : i % 6 = 0 ∨ i % 6 = 1 ∨ i % 6 = 2 ∨ i % 6 = 3 ∨ i % 6 = 4 ∨ i % 6 = 5 := by omega
    rcases h6 with h6 | h6 | h6 | h6 | h6 | h6
    · rw [updA_other _ _ _ _ (by omega), updA_other _ _ _ _ (by omega), updA_other _ _ _ _ (by omega), updA_other _ _ _ _ (by omega), updA_other _ _ _ _ (by omega), h6, show i = n * 6 by omega, updA_same]; rfl
    · rw [updA_other _ _ _ _ (by omega), updA_other _ _ _ _ (by omega), updA_other _ _ _ _ (by omega), updA_other _ _ _ _ (by omega), h6, show i = n * 6 + 1 by omega, updA_same]; rfl
    · rw [updA_other _ _ _ _ (by omega), updA_other _ _ _ _ (by omega), updA_other _ _ _ _ (by omega), h6, show i = n * 6 + 2 by omega, updA_same]; rfl
    · rw [updA_other _ _ _ _ (by omega), updA_other _ _ _ _ (by omega), h6, show i = n * 6 + 3 by omega, updA_same]; rfl
    · rw [updA_other _ _ _ _ (by omega), h6, show i = n * 6 + 4 by omega, updA_same]; rfl
    · rw [h6, show i = n * 6 + 5 by omega, updA_same]; rfl
  · rw [updA_other b _ _ _ e, updA_other _ _ _ _ (by omega), updA_other _ _ _ _ (by omega), updA_other _ _ _ _ (by omega), updA_other _ _ _ _ (by omega), updA_other _ _ _ _ (by omega), updA_other _ _ _ _ (by omega)]
theorem OB.putL {w w1 : World} {B : Nat} {ty : TypeId} {b : Nat → LsV} (h : OB w w1 B ty (BKA b)) (n : Nat) (hn : n < 16) (v : LsV) : OB w (Go.Proofs.Ythafcgppopfdkaa.putL w1 B n v) B ty (BKA (updA b n v)) :=
  ⟨h.bl.putL n hn v, h.lb, h.bel.grown (putL_grown _ _ _ _) h.bel.size (fun j hj => by injection hj with hj; rw [← hj]; exact h.lb)⟩
theorem OB.keptL {w w1 : World} {B C : Nat} {ty : TypeId} {cs : Array Value} (h : OB w w1 B ty cs) (n : Nat) (v : LsV) (hn : B ≠ C) (hc : w.heap.size ≤ C) : OB w (Go.Proofs.Ythafcgppopfdkaa.putL w1 C n v) B ty cs := h.kept (putL_grown _ _ _ _) hn hc
/-- At is written. -/
theorem BL.putAt {w : World} {B : Nat} {ty : TypeId} {b : Nat → LsV} (h : BL w B ty (BKA b)) (n : Nat) (hn : n < 16) (z : Int) : BL (w.setCell ⟨B, n * 6 + 5, none⟩ (.int .i64 z)) B ty (BKA (updA b n { b n with at_ := z })) := by
  refine BL.set h _ _ ?_
  unfold BKA
  rw [arrA_set]
  refine arrA_congr fun i hi => ?_
  by_cases e : i = n * 6 + 5
  · subst e
    rw [updA_same, show (n * 6 + 5) / 6 = n by omega, show (n * 6 + 5) % 6 = 5 by omega, updA_same]; rfl
  · rw [updA_other _ _ _ _ e]
    by_cases e2 : i / 6 = n
    · rw [e2, updA_same]
      have h6 : i % 6 = 0 ∨ i % 6 = 1 ∨ i % 6 = 2 ∨ i % 6 = 3 ∨ i % 6 = 4 := by omega
      rcases h6 with h6 | h6 | h6 | h6 | h6 <;> rw [h6] <;> rfl
    · rw [updA_other _ _ _ _ e2]
theorem OB.putAt {w w1 : World} {B : Nat} {ty : TypeId} {b : Nat → LsV} (h : OB w w1 B ty (BKA b)) (n : Nat) (hn : n < 16) (z : Int) : OB w (w1.setCell ⟨B, n * 6 + 5, none⟩ (.int .i64 z)) B ty (BKA (updA b n { b n with at_ := z })) :=
  ⟨h.bl.putAt n hn z, h.lb, h.bel.grown (grown_setCell _ _ _) h.bel.size (fun j hj => by injection hj with hj; rw [← hj]; exact h.lb)⟩

theorem wpList_bdz {ops : Array Oper} {rest : List Oper} {o : Oper} {a : Act} {w : World} {Q : Exit → Act → World → Prop} (hg : o.guard = none) (ho : o.op = .build 42 #[])
    (h : wpList Try.prog ops Q rest (a.put o.dst (.agg #[.bool false, .int .i64 0, .int .i64 0, .int .i64 0, .bool false, .int .i64 0])) w) : wpList Try.prog ops Q (o :: rest) a w := wpList_bd0 hg ho h
/-! ### Drop -/
def dropB (b : Nat → LsV) (n : Int) : Nat → LsV := if 0 ≤ n ∧ n < 16 then updA b n.toNat LsV.zero else b
set_option maxHeartbeats 1000000 in
theorem drop_yes (b : Nat → LsV) (n : Nat) (hn : n < 16) (w : World) :
    Calls Try.prog 19 #[.agg (BKA b), .int .i64 n] w fun e w' => e = .returned (.agg (BKA (updA b n LsV.zero))) ∧ Below w.heap.size w w' := by
  have HZ := zeroB_run
  have h1 := (ob_new (Below.refl w.heap.size w) 44 (BKA b)).below (below_new _ (.cells (BKA fun _ => LsV.zero) 44))
  have h2 := ob_new (below_new w (.cells (BKA b) 44)) 44 (BKA fun _ => LsV.zero)
  rw [World.size_alloc] at h2
  have k0 : (0 : Int) ≤ (n : Int) := by omega
  have k1 : (n : Int) < 16 := by omega
  go_enter Try.func19, Try.ntmps19
  go_upto_region 1 with fail
  generalize (w.alloc (.cells (BKA b) 44)).alloc (.cells (BKA fun _ => LsV.zero) 44) = V at *
  obtain ⟨c0, c1, c2, c3, c4, c5⟩ := h1.bl.row6 n hn
  have f := h1.bl.fz
  have H1 := Lib.hid (h1.putL n hn LsV.zero)
  have h3 := h2.keptL n LsV.zero (B := w.heap.size + 1) (C := w.heap.size) (by omega) (by omega)
  have H3 := Lib.hid h3
  have H4 := Lib.hid (h3.put (BKA (updA b n LsV.zero)))
  clear h1 h2 h3
  go_upto_region 3 with (refine wpList_bdz rfl rfl ?_)
  change Code.wp _ _ _ _ (putL V w.heap.size n LsV.zero)
  generalize putL V w.heap.size n LsV.zero = V2 at *
  clear c0 c1 c2 c3 c4 c5 f
  go_wp2_with (first
    | (refine wpList_ldB rfl (.tmp 2) rfl w.heap.size rfl 44 (updA b n LsV.zero) (H1.out).bl ?_)
    | (refine wpList_stB rfl (.tmp 4) (.tmp 14) rfl (w.heap.size + 1) rfl 44 (fun _ => LsV.zero) (updA b n LsV.zero) rfl (H3.out).bl ?_))
  exact bodyPost_ret (results_arr rfl _ Try.underlying44 rfl (by rw [BKA_size]; exact sizeB) rfl (H4.out).bl) rfl ⟨rfl, (H4.out).bel⟩
theorem drop_no (b : Nat → LsV) (n : Int) (hn : ¬ (0 ≤ n ∧ n < 16)) (w : World) :
    Calls Try.prog 19 #[.agg (BKA b), .int .i64 n] w fun e w' => e = .returned (.agg (BKA b)) ∧ Below w.heap.size w w' := by
  have HZ := zeroB_run
  have h1 := (ob_new (Below.refl w.heap.size w) 44 (BKA b)).below (below_new _ (.cells (BKA fun _ => LsV.zero) 44))
  have h2 := ob_new (below_new w (.cells (BKA b) 44)) 44 (BKA fun _ => LsV.zero)
  rw [World.size_alloc] at h2
  have H1 := Lib.hid h1
  have H3 := Lib.hid h2
  have H4 := Lib.hid (h2.put (BKA b))
  clear h1 h2
  by_cases k0 : 0 ≤ n
  · have k1 : ¬ n < 16 := fun h => hn ⟨k0, h⟩
    clear hn
    go_enter Try.func19, Try.ntmps19
    go_wp2_with (first
      | (refine wpList_ldB rfl (.tmp 2) rfl w.heap.size rfl 44 b (H1.out).bl ?_)
      | (refine wpList_stB rfl (.tmp 4) (.tmp 14) rfl (w.heap.size + 1) rfl 44 (fun _ => LsV.zero) b rfl (H3.out).bl ?_))
    exact bodyPost_ret (results_arr rfl _ Try.underlying44 rfl (by rw [BKA_size]; exact sizeB) rfl (H4.out).bl) rfl ⟨rfl, (H4.out).bel⟩
  · clear hn
    go_enter Try.func19, Try.ntmps19
    go_wp2_with (first
      | (refine wpList_ldB rfl (.tmp 2) rfl w.heap.size rfl 44 b (H1.out).bl ?_)
      | (refine wpList_stB rfl (.tmp 4) (.tmp 14) rfl (w.heap.size + 1) rfl 44 (fun _ => LsV.zero) b rfl (H3.out).bl ?_))
    exact bodyPost_ret (results_arr rfl _ Try.underlying44 rfl (by rw [BKA_size]; exact sizeB) rfl (H4.out).bl) rfl ⟨rfl, (H4.out).bel⟩
theorem drop_in (b : Nat → LsV) (n : Int) (w : World) :
    Calls Try.prog 19 #[.agg (BKA b), .int .i64 n] w fun e w' => e = .returned (.agg (BKA (dropB b n))) ∧ Below w.heap.size w w' := by
  unfold dropB
  by_cases h : 0 ≤ n ∧ n < 16
  · rw [if_pos h]
    obtain ⟨m, rfl⟩ := Int.eq_ofNat_of_zero_le h.1
    exact drop_yes b m (by omega) w
  · rw [if_neg h]
    exact drop_no b n h w

/-! ### Leave, Withdraw, Accept -/
def leaE (b : Nat → LsV) (n vm : Int) : Int := if okB b n = false then 2 else if (b n.toNat).to ≠ vm then 7 else if (b n.toNat).at_ < 0 then 10 else 0
def leaB (b : Nat → LsV) (n vm : Int) : Nat → LsV := if leaE b n vm = 0 then updA b n.toNat { b n.toNat with at_ := -1 } else b
def witE (b : Nat → LsV) (n vm : Int) : Int := if okB b n = false then 2 else if (b n.toNat).fr ≠ vm then 7 else if 0 ≤ (b n.toNat).at_ then 8 else 0
def witB (b : Nat → LsV) (n vm : Int) : Nat → LsV := if witE b n vm = 0 then updA b n.toNat LsV.zero else b
def accE (b : Nat → LsV) (n vm at_ : Int) : Int := if okB b n = false then 2 else if (b n.toNat).to ≠ vm then 7 else if 0 ≤ (b n.toNat).at_ then 8 else if ¬ (0 ≤ at_ ∧ at_ < 32) then 1 else 0
def accB (b : Nat → LsV) (n vm at_ : Int) : Nat → LsV := if accE b n vm at_ = 0 then updA b n.toNat { b n.toNat with at_ := at_ } else b
theorem okB_yes {b : Nat → LsV} {n : Int} (h : okB b n = true) : ∃ m : Nat, n = (m : Nat) ∧ m < 16 ∧ (b m).on = true := by
  unfold okB at h
  rw [Bool.and_eq_true] at h
  have h1 := of_decide_eq_true h.1
  obtain ⟨m, rfl⟩ := Int.eq_ofNat_of_zero_le h1.1
  exact ⟨m, rfl, by omega, h.2⟩
/-- What stands in the three when Get has answered. -/
structure GtI (w wr : World) (B C L : Nat) (b : Nat → LsV) (v : LsV) : Prop where
  b : OB w wr B 44 (BKA b)
  c : OB w wr C 44 (BKA fun _ => LsV.zero)
  l : OB w wr L 42 v.cells
  lt : B < C ∧ C < L
theorem GtI.below {w wr w' : World} {B C L : Nat} {b : Nat → LsV} {v : LsV} (h : GtI w wr B C L b v) (hb : Below wr.heap.size wr w') : GtI w w' B C L b v := ⟨h.b.below hb, h.c.below hb, h.l.below hb, h.lt⟩
theorem getV (b : Nat → LsV) (n : Int) : ∃ v e, (okB b n = false → e = 2) ∧ (okB b n = true → e = 0 ∧ v = b n.toNat) ∧ ∀ w, Calls Try.prog 23 #[.agg (BKA b), .int .i64 n] w fun e' w' => e' = .returned (.tuple #[.agg v.cells, .int .i64 e]) ∧ Below w.heap.size w w' := by
  cases h : okB b n
  · exact ⟨LsV.zero, 2, fun _ => rfl, fun h => (by cases h), get_no h⟩
  · obtain ⟨m, rfl, hm, ho⟩ := okB_yes h
    exact ⟨b m, 0, fun h => (by cases h), fun _ => ⟨rfl, rfl⟩, get_yes hm ho⟩
end Go.Proofs.Ythafcgppopfdkaa
