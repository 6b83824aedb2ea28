/-
  Leases in memory: a book of sixteen in a block of 96 cells; what a call of package lease reads and writes of it.
-/
import Derived.Test.YthafcgppopfdkaaUX
namespace Go.Proofs.Ythafcgppopfdkaa
open Go.ChangeShapes Go.WideShapes Go.ChangeAt Go.RowKit
set_option maxRecDepth 100000
set_option linter.unusedVariables false

/-- A lease, plain. -/
structure LsV where
  on : Bool
  fr : Int
  pg : Int
  to : Int
  wr : Bool
  at_ : Int
def LsV.zero : LsV := ⟨false, 0, 0, 0, false, 0⟩
def LsV.cells (v : LsV) : Array Value := #[.bool v.on, .int .i64 v.fr, .int .i64 v.pg, .int .i64 v.to, .bool v.wr, .int .i64 v.at_]
def LsV.cell (v : LsV) (j : Nat) : Value := match j with
  | 0 => .bool v.on
  | 1 => .int .i64 v.fr
  | 2 => .int .i64 v.pg
  | 3 => .int .i64 v.to
  | 4 => .bool v.wr
  | _ => .int .i64 v.at_
def BKA (b : Nat → LsV) : Array Value := arrA 96 fun i => (b (i / 6)).cell (i % 6)
theorem BKA_size (b : Nat → LsV) : (BKA b).size = 96 := arrA_size _ _
theorem cell_one (v : LsV) (j : Nat) : (v.cell j).oneCell' = true := by unfold LsV.cell; split <;> rfl
theorem BKA_one (b : Nat → LsV) : (BKA b).all (·.oneCell') = true := arrA_one fun _ => cell_one _ _
theorem cells_one6 (v : LsV) : v.cells.all (·.oneCell') = true := by simp [LsV.cells, Value.oneCell']
theorem BKA_at (b : Nat → LsV) (n j : Nat) (hn : n < 16) (hj : j < 6) : (BKA b)[n * 6 + j]? = some ((b n).cell j) := by
  unfold BKA
  rw [arrA_at _ (by omega), show (n * 6 + j) / 6 = n by omega, show (n * 6 + j) % 6 = j by omega]
theorem BKA_congr {b c : Nat → LsV} (h : ∀ i, i < 16 → b i = c i) : BKA b = BKA c := by
  unfold BKA
  exact arrA_congr fun i hi => by rw [h (i / 6) (by omega)]
theorem sizeB : (Try.prog.info? 44).map (·.size) = some 96 := by kernel_rfl
theorem sizeB2 : (Try.prog.info? 43).map (·.size) = some 96 := by kernel_rfl
theorem sizeL : (Try.prog.info? 42).map (·.size) = some 6 := by kernel_rfl
theorem zeroB_run (W : World) : (zeroValue 44).run Try.prog W = .ok (.agg (BKA fun _ => LsV.zero)) W := by kernel_rfl
theorem zeroB2_run (W : World) : (zeroValue 43).run Try.prog W = .ok (.agg (BKA fun _ => LsV.zero)) W := by kernel_rfl
theorem zeroL_run (W : World) : (zeroValue 42).run Try.prog W = .ok (.agg LsV.zero.cells) W := by kernel_rfl
structure Row6 (w : World) (B n : Nat) (v : LsV) : Prop where
  c0 : w.cell? ⟨B, n * 6, none⟩ = some (.bool v.on)
  c1 : w.cell? ⟨B, n * 6 + 1, none⟩ = some (.int .i64 v.fr)
  c2 : w.cell? ⟨B, n * 6 + 2, none⟩ = some (.int .i64 v.pg)
  c3 : w.cell? ⟨B, n * 6 + 3, none⟩ = some (.int .i64 v.to)
  c4 : w.cell? ⟨B, n * 6 + 4, none⟩ = some (.bool v.wr)
  c5 : w.cell? ⟨B, n * 6 + 5, none⟩ = some (.int .i64 v.at_)
theorem BL.row6 {w : World} {B : Nat} {ty : TypeId} {b : Nat → LsV} (h : BL w B ty (BKA b)) (n : Nat) (hn : n < 16) : Row6 w B n (b n) :=
  ⟨(h.cell _).trans (BKA_at b n 0 hn (by omega)), (h.cell _).trans (BKA_at b n 1 hn (by omega)), (h.cell _).trans (BKA_at b n 2 hn (by omega)), (h.cell _).trans (BKA_at b n 3 hn (by omega)),
    (h.cell _).trans (BKA_at b n 4 hn (by omega)), (h.cell _).trans (BKA_at b n 5 hn (by omega))⟩
section
variable {ops : Array Oper} {rest : List Oper} {o : Oper} {a : Act} {w : World} {Q : Exit → Act → World → Prop}
theorem wpList_ldB (hw : Region.wanted o (yielded ops a.tmps) = true) (x : Operand) (ho : o.op = .load 44 x) (B : Nat) (hx : a.eval x = .pointer (some ⟨B, 0, none⟩)) (t : TypeId) (b : Nat → LsV) (hL : BL w B t (BKA b))
    (h : wpList Try.prog ops Q rest (a.put o.dst (.agg (BKA b))) w) : wpList Try.prog ops Q (o :: rest) a w :=
  wpList_ldA hw _ x ho B hx _ _ _ Try.underlying44 rfl (by rw [BKA_size]; exact sizeB) hL h
theorem wpList_ldB2 (hw : Region.wanted o (yielded ops a.tmps) = true) (x : Operand) (ho : o.op = .load 43 x) (B : Nat) (hx : a.eval x = .pointer (some ⟨B, 0, none⟩)) (t : TypeId) (b : Nat → LsV) (hL : BL w B t (BKA b))
    (h : wpList Try.prog ops Q rest (a.put o.dst (.agg (BKA b))) w) : wpList Try.prog ops Q (o :: rest) a w :=
  wpList_ldA hw _ x ho B hx _ _ _ Try.underlying43 rfl (by rw [BKA_size]; exact sizeB2) hL h
theorem wpList_stB (hw : Region.wanted o (yielded ops a.tmps) = true) (x y : Operand) (ho : o.op = .store 44 x y) (B : Nat) (hx : a.eval x = .pointer (some ⟨B, 0, none⟩)) (t : TypeId) (b c : Nat → LsV) (hy : a.eval y = .agg (BKA c)) (hL : BL w B t (BKA b))
    (h : wpList Try.prog ops Q rest (a.put o.dst undef) (w.setRow B (BKA c))) : wpList Try.prog ops Q (o :: rest) a w :=
  wpList_stA hw _ x y ho B hx _ _ _ hy (by rw [BKA_size]; exact sizeB) (by rw [BKA_size, BKA_size]) (BKA_one c) hL h
theorem wpList_ldL (hw : Region.wanted o (yielded ops a.tmps) = true) (x : Operand) (ho : o.op = .load 42 x) (B : Nat) (hx : a.eval x = .pointer (some ⟨B, 0, none⟩)) (v : LsV) (hL : BL w B 42 v.cells)
    (h : wpList Try.prog ops Q rest (a.put o.dst (.agg v.cells)) w) : wpList Try.prog ops Q (o :: rest) a w :=
  wpList_ldA hw _ x ho B hx _ v.cells _ Try.underlying42 rfl sizeL hL h
theorem wpList_stL (hw : Region.wanted o (yielded ops a.tmps) = true) (x y : Operand) (ho : o.op = .store 42 x y) (B : Nat) (hx : a.eval x = .pointer (some ⟨B, 0, none⟩)) (v u : LsV) (hy : a.eval y = .agg u.cells) (hL : BL w B 42 v.cells)
    (h : wpList Try.prog ops Q rest (a.put o.dst undef) (w.setRow B u.cells)) : wpList Try.prog ops Q (o :: rest) a w :=
  wpList_stA hw _ x y ho B hx _ v.cells u.cells hy sizeL rfl (cells_one6 u) hL h
end
theorem newL (w : World) (v : LsV) : BL (w.alloc (.cells v.cells 42)) w.heap.size 42 v.cells := bl_new _ _ _

/-! ### small calls -/
theorem isVM_in (n : Int) (w : World) : Calls Try.prog 27 #[.int .i64 n] w fun e w' => e = .returned (.bool (decide (0 ≤ n ∧ n < 6))) ∧ w = w' := by
  by_cases h0 : 0 ≤ n
  · by_cases h1 : n < 6
    · rw [decide_eq_true ⟨h0, h1⟩]
      go_enter Try.func27, Try.ntmps27
      go_wp2
      go_ret
      exact ⟨rfl, rfl⟩
    · rw [decide_eq_false (fun h => h1 h.2)]
      go_enter Try.func27, Try.ntmps27
      go_wp2
      go_ret
      exact ⟨rfl, rfl⟩
  · rw [decide_eq_false (fun h => h0 h.1)]
    go_enter Try.func27, Try.ntmps27
    go_wp2
    go_ret
    exact ⟨rfl, rfl⟩
theorem isPage_in (n : Int) (w : World) : Calls Try.prog 28 #[.int .i64 n] w fun e w' => e = .returned (.bool (decide (0 ≤ n ∧ n < 32))) ∧ w = w' := by
  by_cases h0 : 0 ≤ n
  · by_cases h1 : n < 32
    · rw [decide_eq_true ⟨h0, h1⟩]
      go_enter Try.func28, Try.ntmps28
      go_wp2
      go_ret
      exact ⟨rfl, rfl⟩
    · rw [decide_eq_false (fun h => h1 h.2)]
      go_enter Try.func28, Try.ntmps28
      go_wp2
      go_ret
      exact ⟨rfl, rfl⟩
  · rw [decide_eq_false (fun h => h0 h.1)]
    go_enter Try.func28, Try.ntmps28
    go_wp2
    go_ret
    exact ⟨rfl, rfl⟩
theorem taken_in (v : LsV) (w : World) : Calls Try.prog 31 #[.agg v.cells] w fun e w' => e = .returned (.bool (decide (0 ≤ v.at_))) ∧ Below w.heap.size w w' := by
  have HB := Lib.hid (below_new w (.cells v.cells 42))
  have c5 : (w.alloc (.cells v.cells 42)).cell? ⟨w.heap.size, 5, none⟩ = some (.int .i64 v.at_) := (newL w v).cell 5
  go_enter Try.func31, Try.ntmps31
  go_wp2
  go_ret
  exact ⟨rfl, HB.out⟩
theorem offer1_in (v : LsV) (w : World) : Calls Try.prog 30 #[.agg v.cells] w fun e w' => e = .returned (.bool (!v.on)) ∧ Below w.heap.size w w' := by
  have HB := Lib.hid (below_new w (.cells v.cells 42))
  have c5 : (w.alloc (.cells v.cells 42)).cell? ⟨w.heap.size, 0, none⟩ = some (.bool v.on) := (newL w v).cell 0
  go_enter Try.func30, Try.ntmps30
  go_wp2
  go_ret
  exact ⟨rfl, HB.out⟩
/-- Is there such a lease? -/
def okB (b : Nat → LsV) (n : Int) : Bool := decide (0 ≤ n ∧ n < 16) && (b n.toNat).on
set_option maxHeartbeats 1000000 in
theorem get_yes {b : Nat → LsV} {n : Nat} (hn : n < 16) (ho : (b n).on = true) (w : World) :
    Calls Try.prog 23 #[.agg (BKA b), .int .i64 n] w fun e w' => e = .returned (.tuple #[.agg (b n).cells, .int .i64 0]) ∧ Below w.heap.size w w' := by
  have HZ := zeroL_run
  have h1 := (ob_new (Below.refl w.heap.size w) 44 (BKA b)).below (below_new _ (.cells LsV.zero.cells 42))
  have h2 := ob_new (below_new w (.cells (BKA b) 44)) 42 LsV.zero.cells
  rw [World.size_alloc] at h2
  have H2 := Lib.hid h2
  have H3 := Lib.hid (h2.put (b n).cells)
  obtain ⟨c0, c1, c2, c3, c4, c5⟩ := h1.bl.row6 n hn
  have k0 : ¬ ((n : Int) < 0) := by omega
  have k1 : (n : Int) < 16 := by omega
  rw [ho] at c0
  clear h1 h2
  go_enter Try.func23, Try.ntmps23
  go_wp2_with (refine wpList_stL rfl (.tmp 4) (.tmp 22) rfl (w.heap.size + 1) rfl LsV.zero (b n) (by simp [go_sem, LsV.cells, ho]) (H2.out).bl ?_)
  exact bodyPost_ret (results_arr2 (cs := (b n).cells) rfl _ Try.underlying42 rfl sizeL rfl (H3.out).bl) rfl ⟨rfl, (H3.out).bel⟩
theorem built_zero : Try.prog.built 42 [] = some LsV.zero.cells := by kernel_rfl
theorem wpList_bd0 {ops : Array Oper} {rest : List Oper} {o : Oper} {a : Act} {w : World} {Q : Exit → Act → World → Prop} (hg : o.guard = none) (ho : o.op = .build 42 #[])
    (h : wpList Try.prog ops Q rest (a.put o.dst (.agg LsV.zero.cells)) w) : wpList Try.prog ops Q (o :: rest) a w := by
  have hb := built_zero
  have he : ((#[] : Array (Nat × Operand)).map fun (i, x) => (i, a.eval x)).toList = [] := by simp
  refine wpList_build hg 42 #[] ho ?_ ?_
  · rw [he, hb]; rfl
  · rw [he, hb]; exact h
set_option maxHeartbeats 1000000 in
theorem get_no {b : Nat → LsV} {n : Int} (h : okB b n = false) (w : World) :
    Calls Try.prog 23 #[.agg (BKA b), .int .i64 n] w fun e w' => e = .returned (.tuple #[.agg LsV.zero.cells, .int .i64 2]) ∧ Below w.heap.size w w' := by
  have HZ := zeroL_run
  have h1 := (ob_new (Below.refl w.heap.size w) 44 (BKA b)).below (below_new _ (.cells LsV.zero.cells 42))
  have h2 := ob_new (below_new w (.cells (BKA b) 44)) 42 LsV.zero.cells
  rw [World.size_alloc] at h2
  have H2 := Lib.hid h2
  have H3 := Lib.hid (h2.put LsV.zero.cells)
  by_cases k0 : n < 0
  · clear h1 h2 h
    go_enter Try.func23, Try.ntmps23
    go_wp2_with (first
      | (refine wpList_bd0 rfl rfl ?_)
      | (refine wpList_stL rfl (.tmp 4) (.tmp 19) rfl (w.heap.size + 1) rfl LsV.zero LsV.zero rfl (H2.out).bl ?_))
    exact bodyPost_ret (results_arr2 (cs := LsV.zero.cells) rfl _ Try.underlying42 rfl sizeL rfl (H3.out).bl) rfl ⟨rfl, (H3.out).bel⟩
  by_cases k1 : 16 ≤ n
  · clear h1 h2 h
    go_enter Try.func23, Try.ntmps23
    go_wp2_with (first
      | (refine wpList_bd0 rfl rfl ?_)
      | (refine wpList_stL rfl (.tmp 4) (.tmp 19) rfl (w.heap.size + 1) rfl LsV.zero LsV.zero rfl (H2.out).bl ?_))
    exact bodyPost_ret (results_arr2 (cs := LsV.zero.cells) rfl _ Try.underlying42 rfl sizeL rfl (H3.out).bl) rfl ⟨rfl, (H3.out).bel⟩
  obtain ⟨m, rfl⟩ := Int.eq_ofNat_of_zero_le (by omega : 0 ≤ n)
  have hm : m < 16 := by omega
  have ho : (b m).on = false := by
    unfold okB at h
    rw [decide_eq_true ⟨by omega, by omega⟩] at h
    simpa using h
  have c0 := (h1.bl.row6 m hm).c0
  rw [ho] at c0
  clear h1 h2 h
  go_enter Try.func23, Try.ntmps23
  go_wp2_with (first
    | (refine wpList_bd0 rfl rfl ?_)
    | (refine wpList_stL rfl (.tmp 4) (.tmp 19) rfl (w.heap.size + 1) rfl LsV.zero LsV.zero rfl (H2.out).bl ?_))
  exact bodyPost_ret (results_arr2 (cs := LsV.zero.cells) rfl _ Try.underlying42 rfl sizeL rfl (H3.out).bl) rfl ⟨rfl, (H3.out).bel⟩

/-! ### the first that is hit -/
def fstB (p : Nat → Bool) : Nat → Int
  | 0 => -1
  | k + 1 => if fstB p k < 0 ∧ p k = true then (k : Int) else fstB p k
theorem fstB_succ (p : Nat → Bool) (k : Nat) : fstB p (k + 1) = if fstB p k < 0 ∧ p k = true then (k : Int) else fstB p k := rfl
theorem fstB_spec (p : Nat → Bool) (k : Nat) : (fstB p k = -1 ∧ ∀ i, i < k → p i = false) ∨ ∃ j : Nat, j < k ∧ fstB p k = (j : Nat) ∧ p j = true ∧ ∀ i, i < j → p i = false := by
  induction k with
  | zero => exact .inl ⟨rfl, fun i hi => by omega⟩
  | succ k ih =>
    rw [fstB_succ]
    rcases ih with ⟨h1, h2⟩ | ⟨j, hj, h1, h2, h3⟩
    · cases hp : p k
      · rw [if_neg (by simp)]
        refine .inl ⟨h1, fun i hi => ?_⟩
        by_cases e : i = k
        · rw [e]; exact hp
        · exact h2 i (by omega)
      · rw [if_pos ⟨by omega, rfl⟩]
        exact .inr ⟨k, by omega, rfl, hp, h2⟩
    · rw [if_neg (by omega)]
      exact .inr ⟨j, by omega, h1, h2, h3⟩
theorem fstB_is {p : Nat → Bool} {k j : Nat} (hj : j < k) (h1 : p j = true) (h2 : ∀ i, i < j → p i = false) : fstB p k = (j : Nat) := by
  rcases fstB_spec p k with ⟨_, g⟩ | ⟨i, hi, g1, g2, g3⟩
  · rw [g j hj] at h1; cases h1
  · by_cases e : i < j
    · rw [h2 i e] at g2; cases g2
    by_cases e2 : j < i
    · rw [g3 j e2] at h1; cases h1
    rw [g1]; omega
theorem fstB_no {p : Nat → Bool} {k : Nat} (h : ∀ i, i < k → p i = false) : fstB p k = -1 := by
  rcases fstB_spec p k with ⟨g, _⟩ | ⟨i, hi, g1, g2, g3⟩
  · exact g
  · rw [h i hi] at g2; cases g2
set_option maxHeartbeats 2000000 in
/-- IndexFunc over a book, by Offer's closure. -/
theorem index_free {w : World} {B : Nat} {ty : TypeId} {b : Nat → LsV} (hL : BL w B ty (BKA b)) :
    Calls Try.prog 29 #[.slice (some ⟨B, 0, none⟩) 16 16, .func (.func 30) #[] #[]] w
      fun e w' => e = .returned (.int .i64 (fstB (fun i => !(b i).on) 16)) ∧ Below w.heap.size w w' := by
  have HL := Lib.hid hL
  have HC := Lib.hid (fun i => offer1_in (b i))
  clear hL
  go_enter Try.func29, Try.ntmps29
  go_wp2_with fail
  go_loopw [4, 5, 8] (fun _ _ i wr => ∃ k : Nat, k ≤ 16 ∧ i = .int .i64 k ∧ (∀ j, j < k → (b j).on = true) ∧ Below w.heap.size w wr) (fun _ _ i _ => 16 - (intOf i).toNat)
  case atStart => exact ⟨0, by omega, rfl, fun j hj => by omega, Below.refl _ _⟩
  case round =>
    obtain ⟨k, hk, rfl, hn, hb⟩ := hrel
    have HN := Lib.hid hn
    have HB := Lib.hid hb
    have hb2 := (HL.out).below hb
    clear hn hb
    by_cases hlt : k < 16
    · have k1 : (k : Int) < 16 := by omega
      obtain ⟨c0, c1, c2, c3, c4, c5⟩ := hb2.row6 k hlt
      have HK := Lib.hid ((HC.out) k)
      unfold LsV.cells at HK
      clear hb2
      cases ho : (b k).on
      · rw [ho] at HK c0
        have HS : Hid (fstB (fun i => !(b i).on) 16 = (k : Nat)) := Lib.hid (fstB_is hlt (by rw [ho]; rfl) (fun i hi => by rw [(HN.out) i hi]; rfl))
        clear ho
        go_wp2_with fail
        refine (HK.out _).mono ?_
        rintro e w2 ⟨rfl, b2⟩
        have HB2 := Lib.hid (below_up HB.out b2)
        clear b2 c0 c1 c2 c3 c4 c5
        go_wp2
        go_ret
        exact ⟨by rw [HS.out]; rfl, HB2.out⟩
      · rw [ho] at HK c0
        have HN2 : Hid (∀ j, j < k + 1 → (b j).on = true) := Lib.hid (fun j hj => by
          by_cases e : j = k
          · rw [e]; exact ho
          · exact (HN.out) j (by omega))
        clear ho
        go_wp2_with fail
        refine (HK.out _).mono ?_
        rintro e w2 ⟨rfl, b2⟩
        have HB2 := Lib.hid (below_up HB.out b2)
        clear b2 c0 c1 c2 c3 c4 c5
        go_wp2
        go_roundw
        case rel => exact ⟨k + 1, by omega, by go_num, HN2.out, HB2.out⟩
        case measure => simp [intOf]; omega
    · obtain rfl : k = 16 := by omega
      have HS : Hid (fstB (fun i => !(b i).on) 16 = -1) := Lib.hid (fstB_no (fun i hi => by rw [(HN.out) i hi]; rfl))
      clear hb2
      go_wp2
      go_ret
      exact ⟨by rw [HS.out]; rfl, HB.out⟩
end Go.Proofs.Ythafcgppopfdkaa
