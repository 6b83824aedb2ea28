/-
  Package cache: Len, Look, Put at nil; law07's awake.
-/
import Derived.Test.YtjidhmdphlmldaaKE
namespace Go.Proofs.Ytjidhmdphlmldaa
open Go.ChangeShapes Go.WideShapes Go.ChangeAt Go.RowKit
set_option maxRecDepth 100000

/-! ### Len -/
theorem len_in {w : World} {base C : Nat} {v : Value} {l : List R5} (H : Ca w base C v l) :
    Calls Try.prog 18 #[.pointer (some ⟨C, 0, none⟩)] w fun e w' => e = .returned (.int .i64 (l.length : Nat)) ∧ w = w' := by
  obtain ⟨p, cap, rfl⟩ := owns_slice H.own
  have c := H.c
  clear H
  go_enter Try.func18, Try.ntmps18
  go_wp2
  go_ret
  exact ⟨rfl, rfl⟩
theorem len_nil (w : World) : Calls Try.prog 18 #[.pointer none] w fun e w' => e = .returned (.int .i64 0) ∧ w = w' := by
  go_enter Try.func18, Try.ntmps18
  go_wp2
  go_ret
  exact ⟨rfl, rfl⟩
theorem put_nil (vm pg : Int) (th : Bool) (fr : Int) (wr : Bool) (w : World) :
    Calls Try.prog 17 #[.pointer none, .int .i64 vm, .int .i64 pg, .agg #[.bool th, .int .i64 fr, .bool wr]] w fun e w' => e = .returned (.tuple #[]) ∧ Below w.heap.size w w' := by
  have HB := Lib.hid (below_new w (.cells #[.bool th, .int .i64 fr, .bool wr] 32))
  go_enter Try.func17, Try.ntmps17
  go_wp2
  refine bodyPost_ret (results_none rfl _ _ _) rfl ?_
  exact ⟨rfl, HB.out⟩

/-! ### Look -/
theorem load3 (W : World) (B : Nat) (v0 v1 v2 : Value) (h0 : W.cell? ⟨B, 0, none⟩ = some v0) (h1 : W.cell? ⟨B, 1, none⟩ = some v1) (h2 : W.cell? ⟨B, 2, none⟩ = some v2) :
    (loadVar 32 ⟨B, 0, none⟩).run Try.prog W = .ok (.agg #[v0, v1, v2]) W := by
  simp [go_sem, h0, h1, h2]
theorem results32 {fn : Func} {p u : Tmp} (hr : fn.results = #[.cell p 32, .tmp u]) {tmps : Array Value} {W : World} {B : Nat} {v0 v1 v2 : Value} (hp : tmps.getD p undef = .pointer (some ⟨B, 0, none⟩))
    (h0 : W.cell? ⟨B, 0, none⟩ = some v0) (h1 : W.cell? ⟨B, 1, none⟩ = some v1) (h2 : W.cell? ⟨B, 2, none⟩ = some v2) :
    (results fn tmps).run Try.prog W = .ok (.tuple #[.agg #[v0, v1, v2], tmps.getD u undef]) W := by
  have hl := load3 W B v0 v1 v2 h0 h1 h2
  clear h0 h1 h2
  have hp' : tmps[p]?.getD undef = .pointer (some ⟨B, 0, none⟩) := by simpa using hp
  simp only [results, hr]
  simp [hp', asAddr, hl]
theorem set3 (U : World) (B : Nat) (v0 v1 v2 : Value) (h0 : (U.cell? ⟨B, 0, none⟩).isSome = true) (h1 : (U.cell? ⟨B, 1, none⟩).isSome = true) (h2 : (U.cell? ⟨B, 2, none⟩).isSome = true) :
    (((U.setCell ⟨B, 0, none⟩ v0).setCell ⟨B, 1, none⟩ v1).setCell ⟨B, 2, none⟩ v2).cell? ⟨B, 0, none⟩ = some v0 ∧ (((U.setCell ⟨B, 0, none⟩ v0).setCell ⟨B, 1, none⟩ v1).setCell ⟨B, 2, none⟩ v2).cell? ⟨B, 1, none⟩ = some v1 ∧ (((U.setCell ⟨B, 0, none⟩ v0).setCell ⟨B, 1, none⟩ v1).setCell ⟨B, 2, none⟩ v2).cell? ⟨B, 2, none⟩ = some v2 := by
  simp [set_other', set_same', h0, h1, h2]
theorem ret32 {fn : Func} {p u : Tmp} {R : Ending → World → Prop} {tmps : Array Value} {U : World} {B : Nat} {v0 v1 v2 : Value} (hr : fn.results = #[.cell p 32, .tmp u]) (hp : tmps.getD p undef = .pointer (some ⟨B, 0, none⟩))
    (h0 : (U.cell? ⟨B, 0, none⟩).isSome = true) (h1 : (U.cell? ⟨B, 1, none⟩).isSome = true) (h2 : (U.cell? ⟨B, 2, none⟩).isSome = true)
    (hR : R (.returned (.tuple #[.agg #[v0, v1, v2], tmps.getD u undef])) (((U.setCell ⟨B, 0, none⟩ v0).setCell ⟨B, 1, none⟩ v1).setCell ⟨B, 2, none⟩ v2)) :
    bodyPost Try.prog fn R .ret ⟨tmps, []⟩ (((U.setCell ⟨B, 0, none⟩ v0).setCell ⟨B, 1, none⟩ v1).setCell ⟨B, 2, none⟩ v2) := by
  obtain ⟨r0, r1, r2⟩ := set3 U B v0 v1 v2 h0 h1 h2
  exact bodyPost_ret (results32 hr hp r0 r1 r2) rfl hR
/-- What Look answers. -/
def lkE : Option R5 → Value
  | some r => .agg #[.bool r.th, .int .i64 r.fr, .bool r.wr]
  | none => .agg #[.bool false, .int .i64 0, .bool false]
def lkA (o : Option R5) : Value := .tuple #[lkE o, .bool o.isSome]
theorem find_at {d : R5 → Bool} {l : List R5} {k : Nat} {r : R5} (h : Clean d l k) (hr : l[k]? = some r) (hd : d r = true) : l.find? d = some r := by
  have e : l = l.take k ++ r :: l.drop (k + 1) := by rw [← drop_cons' l k r hr, List.take_append_drop]
  rw [e, List.find?_append, List.find?_eq_none.2 (fun q hq => by rw [h q hq]; simp), List.find?_cons, hd]
  rfl
theorem find_no {d : R5 → Bool} {l : List R5} (h : Clean d l l.length) : l.find? d = none :=
  List.find?_eq_none.2 (fun q hq => by rw [h q (by rw [List.take_length]; exact hq)]; simp)
def zero3 : Array Value := #[.bool false, .int .i64 0, .bool false]
theorem look_nil (vm pg : Int) (w : World) :
    Calls Try.prog 19 #[.pointer none, .int .i64 vm, .int .i64 pg] w fun e w' => e = .returned (lkA none) ∧ Below w.heap.size w w' := by
  go_enter Try.func19, Try.ntmps19
  go_wp2
  refine bodyPost_ret (results32 rfl rfl (by simp) (by simp) (by simp)) rfl ⟨rfl, below_new _ _⟩
theorem below_set3 {w U : World} (h : Below w.heap.size w U) (v0 v1 v2 : Value) : Below w.heap.size w (((U.setCell ⟨w.heap.size, 0, none⟩ v0).setCell ⟨w.heap.size, 1, none⟩ v1).setCell ⟨w.heap.size, 2, none⟩ v2) := by
  repeat (first | with_reducible exact h | with_reducible refine Below.setCell ?_ (by simp) _)
theorem look_empty {w : World} {C : Nat} (hc : w.cell? ⟨C, 0, none⟩ = some (.slice none 0 0)) (vm pg : Int) :
    Calls Try.prog 19 #[.pointer (some ⟨C, 0, none⟩), .int .i64 vm, .int .i64 pg] w fun e w' => e = .returned (lkA none) ∧ Below w.heap.size w w' := by
  have b1 := below_new w (.cells zero3 32)
  have l1 := l3_new w (.bool false) (.int .i64 0) (.bool false) 32
  have c1 := (b1.cell (p := ⟨C, 0, none⟩) (World.block_lt_of_cell? _ _ hc)).trans hc
  unfold zero3 at *
  have HB := Lib.hid b1
  have HX := Lib.hid l1
  clear b1 l1 hc
  go_enter Try.func19, Try.ntmps19
  go_wp2_with fail
  go_loopw [7, 9, 18] (fun _ _ i wr => i = .int .i64 0 ∧ Below (w.alloc (.cells #[.bool false, .int .i64 0, .bool false] 32)).heap.size (w.alloc (.cells #[.bool false, .int .i64 0, .bool false] 32)) wr) (fun _ _ i _ => 0)
  case atStart => exact ⟨rfl, Below.refl _ _⟩
  case round =>
    obtain ⟨rfl, hb⟩ := hrel
    have HB2 := Lib.hid (below_up HB.out hb)
    obtain ⟨x0, x1, x2, xl, xf⟩ := (HX.out).later hb
    clear hb
    go_wp2
    exact ret32 rfl rfl (by simp [x0]) (by simp [x1]) (by simp [x2]) ⟨rfl, below_set3 HB2.out _ _ _⟩
set_option maxHeartbeats 1000000 in
theorem look_some {w : World} {base C g n cap : Nat} {l : List R5} (hc : w.cell? ⟨C, 0, none⟩ = some (.slice (some ⟨g, 0, none⟩) n cap)) (own : w.ownsRow base 73 5 (.slice (some ⟨g, 0, none⟩) n cap) n (rowL l)) (hn : n = l.length) (hl : n ≤ 8) (vm pg : Int) :
    Calls Try.prog 19 #[.pointer (some ⟨C, 0, none⟩), .int .i64 vm, .int .i64 pg] w fun e w' => e = .returned (lkA (l.find? (hitK vm pg))) ∧ Below w.heap.size w w' := by
  have b1 := below_new w (.cells zero3 32)
  have l1 := l3_new w (.bool false) (.int .i64 0) (.bool false) 32
  have c1 := (b1.cell (p := ⟨C, 0, none⟩) (World.block_lt_of_cell? _ _ hc)).trans hc
  have HO := Lib.hid (owns_below own b1)
  unfold zero3 at *
  obtain ⟨q, hq⟩ : ∃ q, l.find? (hitK vm pg) = q := ⟨_, rfl⟩
  rw [hq]
  have HQ := Lib.hid hq
  have HB := Lib.hid b1
  have HX := Lib.hid l1
  have HN := Lib.hid hn
  clear b1 l1 hc own hn hq
  go_enter Try.func19, Try.ntmps19
  go_wp2_with fail
  go_loopw [7, 9, 18] (fun _ _ i wr => ∃ k : Nat, k ≤ n ∧ i = .int .i64 k ∧ Clean (hitK vm pg) l k ∧ Below (w.alloc (.cells #[.bool false, .int .i64 0, .bool false] 32)).heap.size (w.alloc (.cells #[.bool false, .int .i64 0, .bool false] 32)) wr) (fun _ _ i _ => n - (intOf i).toNat)
  case atStart => exact ⟨0, by omega, rfl, fun r hr => by simp at hr, Below.refl _ _⟩
  case round =>
    obtain ⟨k, hk, rfl, hC, hb⟩ := hrel
    have HC := Lib.hid hC
    have HB1 := Lib.hid hb
    clear hC hb
    by_cases hlt : k < n
    · have k1 : (k : Int) < (n : Int) := by omega
      obtain ⟨r, hr⟩ : ∃ r, l[k]? = some r := ⟨l[k]'(by have := HN.out; omega), List.getElem?_eq_getElem _⟩
      obtain ⟨c0, c1, c2, c3, c4⟩ := owns_row (owns_below HO.out HB1.out) k r hr
      obtain ⟨e0, e1, e2, e3, e4, el, ef⟩ := l5_new wr (.int .i64 r.vm) (.int .i64 r.pg) (.bool r.th) (.int .i64 r.fr) (.bool r.wr) 73
      have hbn := below_new wr (.cells #[.int .i64 r.vm, .int .i64 r.pg, .bool r.th, .int .i64 r.fr, .bool r.wr] 73)
      have HB2 := Lib.hid (below_up HB1.out hbn)
      have HB3 := Lib.hid (below_up HB.out HB2.out)
      obtain ⟨x0, x1, x2, xl, xf⟩ := (HX.out).later HB2.out
      have HRr := Lib.hid hr
      clear hr hbn
      by_cases t1 : r.vm = vm
      · have s1 : (r.vm == vm) = true := by simpa using t1
        by_cases t2 : r.pg = pg
        · have s2 : (r.pg == pg) = true := by simpa using t2
          have HF : Hid (q = some r) := Lib.hid (by rw [← HQ.out]; exact find_at HC.out HRr.out (decide_eq_true ⟨t1, t2⟩))
          clear t1 t2
          go_wp2
          rw [HF.out]
          exact ret32 rfl rfl (by simp [x0]) (by simp [x1]) (by simp [x2]) ⟨rfl, below_set3 HB3.out _ _ _⟩
        · have s2 : (r.pg == pg) = false := by simpa using t2
          have HC2 := Lib.hid ((HC.out).step HRr.out (decide_eq_false (fun h => t2 h.2)))
          clear t1 t2
          go_wp2
          go_roundw
          case rel => exact ⟨k + 1, by omega, by go_num, HC2.out, HB2.out⟩
          case measure => simp [intOf]; omega
      · have s1 : (r.vm == vm) = false := by simpa using t1
        have HC2 := Lib.hid ((HC.out).step HRr.out (decide_eq_false (fun h => t1 h.1)))
        clear t1
        go_wp2
        go_roundw
        case rel => exact ⟨k + 1, by omega, by go_num, HC2.out, HB2.out⟩
        case measure => simp [intOf]; omega
    · have k1 : ¬ (k : Int) < (n : Int) := by omega
      obtain rfl : k = n := by omega
      have HF : Hid (q = none) := Lib.hid (by rw [← HQ.out]; exact find_no (by have := HC.out; rw [HN.out] at this; exact this))
      have HB3 := Lib.hid (below_up HB.out HB1.out)
      obtain ⟨x0, x1, x2, xl, xf⟩ := (HX.out).later HB1.out
      go_wp2
      rw [HF.out]
      exact ret32 rfl rfl (by simp [x0]) (by simp [x1]) (by simp [x2]) ⟨rfl, below_set3 HB3.out _ _ _⟩
theorem look_in {w : World} {base C : Nat} {v : Value} {l : List R5} (H : Ca w base C v l) (vm pg : Int) :
    Calls Try.prog 19 #[.pointer (some ⟨C, 0, none⟩), .int .i64 vm, .int .i64 pg] w fun e w' => e = .returned (lkA (l.find? (hitK vm pg))) ∧ Below w.heap.size w w' := by
  rcases owns_form H.own with ⟨rfl, h0⟩ | ⟨g, cap, rfl, _⟩
  · obtain rfl : l = [] := List.length_eq_zero_iff.1 h0
    exact look_empty H.c vm pg
  · exact look_some H.c H.own rfl H.len vm pg
end Go.Proofs.Ytjidhmdphlmldaa
