/-
  What a cache is in memory; keep, Drop, DropVM, Clear.
-/
import Derived.Test.YtjidhmdphlmldaaKC
namespace Go.Proofs.Ytjidhmdphlmldaa
open Go.ChangeShapes Go.WideShapes Go.ChangeAt Go.RowKit
set_option maxRecDepth 100000

/-- A cache at block C, whose rows lie in v, in a block at or above base. -/
structure Ca (w : World) (base C : Nat) (v : Value) (l : List R5) : Prop where
  c : w.cell? ⟨C, 0, none⟩ = some v
  fz : w.frozen? ⟨C, 0, none⟩ = false
  own : w.ownsRow base 73 5 v l.length (rowL l)
  ne : v.ownBlock ≠ some C
  len : l.length ≤ 8
  bs : base ≤ C
theorem Ca.lt {w : World} {base C : Nat} {v : Value} {l : List R5} (h : Ca w base C v l) : C < w.heap.size := World.block_lt_of_cell? _ _ h.c
theorem Ca.row_lt {w : World} {base C : Nat} {v : Value} {l : List R5} (h : Ca w base C v l) : ∀ g, v.ownBlock = some g → base ≤ g ∧ g < w.heap.size := h.own.lt
/-- What a call that turns a cache leaves alone. -/
structure Tc (w w' : World) (C : Nat) (v v' : Value) : Prop where
  os : w'.os = w.os
  tape : w'.tape = w.tape
  output : w'.output = w.output
  size : w.heap.size ≤ w'.heap.size
  block : ∀ k, k < w.heap.size → k ≠ C → v.ownBlock ≠ some k → w'.heap[k]? = w.heap[k]?
  row : v'.ownBlock = v.ownBlock ∨ ∀ g, v'.ownBlock = some g → w.heap.size ≤ g
theorem Ca.kept {w w' : World} {base C : Nat} {v : Value} {l : List R5} {row : Option Nat} (h : Ca w base C v l) (hg : w.grownBy w' row) (h1 : some C ≠ row) (h2 : v.ownBlock = none ∨ v.ownBlock ≠ row) : Ca w' base C v l :=
  have hb := hg.block C h.lt h1
  ⟨(World.cell?_of_block (a := ⟨C, 0, none⟩) hb).trans h.c, (World.frozen?_of_block (a := ⟨C, 0, none⟩) hb).trans h.fz, h.own.kept hg h2, h.ne, h.len, h.bs⟩
theorem Ca.below {w w' : World} {base C : Nat} {v : Value} {l : List R5} (h : Ca w base C v l) (hb : Below w.heap.size w w') : Ca w' base C v l :=
  h.kept (grown_of_below hb) (by simp) (by cases v.ownBlock <;> simp)
theorem Tc.of_grown {w w' : World} {C : Nat} {v : Value} (hg : w.grownBy w' v.ownBlock) : Tc w w' C v v :=
  ⟨hg.os, hg.tape, hg.output, hg.size, fun k hk _ h2 => hg.block k hk (fun e => h2 e.symm), .inl rfl⟩
theorem Tc.of_below {w w' : World} {C : Nat} {v : Value} (hb : Below w.heap.size w w') : Tc w w' C v v := Tc.of_grown (grown_below hb _)
theorem Tc.trans {a b c : World} {C : Nat} {v v1 v2 : Value} (h : Tc a b C v v1) (k : Tc b c C v1 v2) : Tc a c C v v2 := by
  refine ⟨k.os.trans h.os, k.tape.trans h.tape, k.output.trans h.output, Nat.le_trans h.size k.size, fun i hi h1 h2 => ?_, ?_⟩
  · refine (k.block i (Nat.lt_of_lt_of_le hi h.size) h1 ?_).trans (h.block i hi h1 h2)
    rcases h.row with e | e
    · rw [e]; exact h2
    · intro e'; have := e _ e'; omega
  · rcases k.row with e | e
    · rw [e]; exact h.row
    · exact .inr (fun g hg => Nat.le_trans h.size (e g hg))
theorem Tc.set {w : World} {C : Nat} {v : Value} (u : Value) : Tc w (w.setCell ⟨C, 0, none⟩ u) C v v :=
  have hg := grown_setCell w ⟨C, 0, none⟩ u
  ⟨hg.os, hg.tape, hg.output, hg.size, fun k hk h1 _ => hg.block k hk (fun e => h1 (by injection e)), .inl rfl⟩
theorem Tc.own {w w' : World} {C : Nat} {v v' : Value} (hg : w.grownBy w' v.ownBlock) (he : v'.ownBlock = v.ownBlock ∨ ∀ g, v'.ownBlock = some g → w.heap.size ≤ g) : Tc w w' C v v' :=
  ⟨hg.os, hg.tape, hg.output, hg.size, fun k hk _ h2 => hg.block k hk (fun e => h2 e.symm), he⟩
/-- Another block stays, and is not the rows' new one. -/
theorem Tc.apart {w w' : World} {C : Nat} {v v' : Value} (h : Tc w w' C v v') {k : Nat} (hk : k < w.heap.size) (h2 : v.ownBlock ≠ some k) : v'.ownBlock ≠ some k := by
  rcases h.row with e | e
  · rw [e]; exact h2
  · intro e'; have := e _ e'; omega
/-- From a world in which the cache was not: all that was there is left alone. -/
theorem Tc.under {w0 w w' : World} {C : Nat} {v v' : Value} {l : List R5} (h : Tc w w' C v v') (hc : Ca w w0.heap.size C v l) (hb : Below w0.heap.size w0 w) : Below w0.heap.size w0 w' := by
  refine ⟨h.os.trans hb.os, h.tape.trans hb.tape, h.output.trans hb.output, Nat.le_trans hb.size h.size, fun k hk => ?_⟩
  refine (h.block k (Nat.lt_of_lt_of_le hk hb.size) ?_ ?_).trans (hb.block k hk)
  · have := hc.bs; omega
  · intro e; have := (hc.row_lt k e).1; omega
/-- What a call leaves that turns the rows into m. -/
def Cd (w : World) (base C : Nat) (v : Value) (m : List R5) (e : Ending) (w' : World) : Prop := e = .returned (.tuple #[]) ∧ ∃ v', Ca w' base C v' m ∧ Tc w w' C v v'
theorem Cd.after {w U w' : World} {base C : Nat} {v : Value} {m : List R5} {e : Ending} (h : Cd U base C v m e w') (hb : Below w.heap.size w U) : Cd w base C v m e w' := by
  obtain ⟨h1, v', h2, h3⟩ := h
  exact ⟨h1, v', h2, (Tc.of_below hb).trans h3⟩

/-! ### DeleteFunc -/
theorem first_hit (d : R5 → Bool) : ∀ l : List R5, (∃ r ∈ l, d r = true) → ∃ k r, Clean d l k ∧ l[k]? = some r ∧ d r = true
  | [], h => by obtain ⟨r, h, _⟩ := h; simp at h
  | a :: l, h => by
    cases ha : d a
    · have : ∃ r ∈ l, d r = true := by
        obtain ⟨r, h1, h2⟩ := h
        rcases List.mem_cons.1 h1 with rfl | h1
        · rw [ha] at h2; cases h2
        · exact ⟨r, h1, h2⟩
      obtain ⟨k, r, h1, h2, h3⟩ := first_hit d l this
      refine ⟨k + 1, r, fun q hq => ?_, by simpa using h2, h3⟩
      rw [List.take_succ_cons] at hq
      rcases List.mem_cons.1 hq with rfl | hq
      · exact ha
      · exact h1 q hq
    · exact ⟨0, a, fun q hq => by simp at hq, rfl, ha⟩
theorem delete_in {w : World} {base P : Nat} {v : Value} {l : List R5} {d : R5 → Bool} (own : w.ownsRow base 73 5 v l.length (rowL l)) (hl : l.length ≤ 8) (hd : DF w v.ownBlock d P) :
    Calls Try.prog 41 #[v, .func (.func 42) #[] #[.pointer (some ⟨P, 0, none⟩)]] w (Dl w base v (l.filter (fun r => !d r))) := by
  rcases owns_form own with ⟨rfl, h0⟩ | ⟨g, cap, rfl, _⟩
  · obtain rfl : l = [] := List.length_eq_zero_iff.1 h0
    exact delete_nil _ w base d
  · by_cases hi : ∃ r ∈ l, d r = true
    · obtain ⟨k, r, h1, h2, h3⟩ := first_hit d l hi
      exact delete_some own rfl hl hd k r h1 h2 h3
    · exact delete_none own rfl hl hd (by unfold idxI; rw [if_neg hi])

/-! ### keep -/
theorem owns_slice {w : World} {base size n : Nat} {e : TypeId} {v : Value} {xs : List Value} (h : w.ownsRow base e size v n xs) : ∃ p cap, v = .slice p n cap := by
  rcases owns_form h with ⟨rfl, rfl⟩ | ⟨g, cap, rfl, _⟩
  · exact ⟨_, _, rfl⟩
  · exact ⟨_, _, rfl⟩
theorem keep_in {w : World} {base C : Nat} {v : Value} {l : List R5} (H : Ca w base C v l) (f : Fn) (cs : Array Value) {F : Value} (hf : F = .func f #[] cs) (d : R5 → Bool) (hF : DF (w.alloc (.cells #[F] 74)) v.ownBlock d w.heap.size) :
    Calls Try.prog 32 #[.pointer (some ⟨C, 0, none⟩), F] w (Cd w base C v (l.filter (fun r => !d r))) := by
  subst hf
  obtain ⟨p, cap, rfl⟩ := owns_slice H.own
  have b1 := below_new w (.cells #[.func f #[] cs] 74)
  have H1 := H.below b1
  have HD := Lib.hid (delete_in H1.own H1.len hF)
  have HB := Lib.hid b1
  have HH := Lib.hid H1
  have c1 := H1.c
  clear b1 H1 hF H
  go_enter Try.func32, Try.ntmps32
  go_wp2_with fail
  refine (HD.out).mono ?_
  rintro e w2 ⟨v2, rfl, own2, gr2, ob2⟩
  obtain ⟨p2, cap2, rfl⟩ := owns_slice own2
  have hc : some C ≠ Value.ownBlock (.slice p l.length cap) := fun e => (HH.out).ne e.symm
  have hb2 := gr2.block C (HH.out).lt hc
  have c2 := (World.cell?_of_block (a := ⟨C, 0, none⟩) hb2).trans (HH.out).c
  have f2 := (World.frozen?_of_block (a := ⟨C, 0, none⟩) hb2).trans (HH.out).fz
  have HE : Hid (Cd w base C (.slice p l.length cap) (l.filter (fun r => !d r)) (.returned (.tuple #[])) (w2.setCell ⟨C, 0, none⟩ (.slice p2 (l.filter (fun r => !d r)).length cap2))) := Lib.hid (by
    refine ⟨rfl, _, ⟨set_same' _ _ _ _ (by rw [c2]; rfl), by rw [World.frozen?_setCell]; exact f2, ?_, by rw [ob2]; exact (HH.out).ne, Nat.le_trans (List.length_filter_le _ _) (HH.out).len, (HH.out).bs⟩, ?_⟩
    · exact own2.kept (grown_setCell _ _ _) (.inr (by rw [ob2]; exact fun e => hc e.symm))
    · exact (Tc.of_below HB.out).trans ((Tc.own gr2 (.inl ob2)).trans (Tc.set _)))
  clear own2 gr2 ob2 hc hb2 c1
  go_wp2
  go_end0
  exact HE.out
theorem keep_nil (f : Fn) (cs : Array Value) (w : World) : Calls Try.prog 32 #[.pointer none, .func f #[] cs] w fun e w' => e = .returned (.tuple #[]) ∧ Below w.heap.size w w' := by
  have HB := Lib.hid (below_new w (.cells #[.func f #[] cs] 74))
  go_enter Try.func32, Try.ntmps32
  go_wp2
  refine bodyPost_ret (results_none rfl _ _ _) rfl ?_
  exact ⟨rfl, HB.out⟩

/-! ### Drop, DropVM, Clear -/
theorem grown_cell {w w' : World} {row : Option Nat} (hg : w.grownBy w' row) {B i : Nat} {u : Value} (h : w.cell? ⟨B, i, none⟩ = some u) (hr : some B ≠ row) : w'.cell? ⟨B, i, none⟩ = some u :=
  (World.cell?_of_block (a := ⟨B, i, none⟩) (hg.block B (World.block_lt_of_cell? _ _ h) hr)).trans h
theorem Ca.far {w : World} {base C : Nat} {v : Value} {l : List R5} (h : Ca w base C v l) (k : Nat) (hk : w.heap.size ≤ k) : some k ≠ v.ownBlock := by
  intro e
  have := (h.row_lt k e.symm).2
  omega
theorem drop_in {w : World} {base C : Nat} {v : Value} {l : List R5} (H : Ca w base C v l) (vm pg : Int) :
    Calls Try.prog 14 #[.pointer (some ⟨C, 0, none⟩), .int .i64 vm, .int .i64 pg] w (Cd w base C v (l.filter (fun r => !hitK vm pg r))) := by
  have b1 := below_new w (.cells #[.int .i64 vm, .int .i64 pg] 70)
  have HK := Lib.hid (keep_in (H.below b1) (.func 33) #[.pointer (some ⟨w.heap.size, 0, none⟩)] rfl (hitK vm pg) (fun U hU r => by
    have e1 : U.cell? ⟨w.heap.size + 1, 0, none⟩ = some (.func (.func 33) #[] #[.pointer (some ⟨w.heap.size, 0, none⟩)]) := grown_cell hU (by simp) (H.far _ (by omega))
    have e2 : U.cell? ⟨w.heap.size, 0, none⟩ = some (.int .i64 vm) := grown_cell hU (by simp) (H.far _ (by omega))
    have e3 : U.cell? ⟨w.heap.size, 1, none⟩ = some (.int .i64 pg) := grown_cell hU (by simp) (H.far _ (by omega))
    have := keep1_drop r (w.heap.size + 1) w.heap.size U (hitK vm pg r) e1 (fun V hV => drop1_in r vm pg w.heap.size V ((hV.cell (World.block_lt_of_cell? _ _ e2)).trans e2) ((hV.cell (World.block_lt_of_cell? _ _ e3)).trans e3))
    simpa using this))
  have HB := Lib.hid b1
  clear b1 H
  go_enter Try.func14, Try.ntmps14
  go_wp2_with fail
  refine (HK.out).mono ?_
  intro e w2 h2
  have HE := Lib.hid (h2.after HB.out)
  obtain rfl := h2.1
  clear h2
  go_wp2
  go_end0
  exact HE.out
theorem drop_nil (vm pg : Int) (w : World) : Calls Try.prog 14 #[.pointer none, .int .i64 vm, .int .i64 pg] w fun e w' => e = .returned (.tuple #[]) ∧ Below w.heap.size w w' := by
  have HB := Lib.hid (below_new w (.cells #[.int .i64 vm, .int .i64 pg] 70))
  have HK := Lib.hid (keep_nil (.func 33) #[.pointer (some ⟨w.heap.size, 0, none⟩)] (w.alloc (.cells #[.int .i64 vm, .int .i64 pg] 70)))
  go_enter Try.func14, Try.ntmps14
  go_wp2_with fail
  refine (HK.out).mono ?_
  rintro e w2 ⟨rfl, b2⟩
  have HB2 := Lib.hid (below_up HB.out b2)
  clear b2
  go_wp2
  go_end0
  exact ⟨rfl, HB2.out⟩
theorem dropVM_in {w : World} {base C : Nat} {v : Value} {l : List R5} (H : Ca w base C v l) (vm : Int) :
    Calls Try.prog 15 #[.pointer (some ⟨C, 0, none⟩), .int .i64 vm] w (Cd w base C v (l.filter (fun r => !decide (r.vm = vm)))) := by
  have b1 := below_new w (.cells #[.int .i64 vm] 3)
  have HK := Lib.hid (keep_in (H.below b1) (.func 34) #[.pointer (some ⟨w.heap.size, 0, none⟩)] rfl (fun r => decide (r.vm = vm)) (fun U hU r => by
    have e1 : U.cell? ⟨w.heap.size + 1, 0, none⟩ = some (.func (.func 34) #[] #[.pointer (some ⟨w.heap.size, 0, none⟩)]) := grown_cell hU (by simp) (H.far _ (by omega))
    have e2 : U.cell? ⟨w.heap.size, 0, none⟩ = some (.int .i64 vm) := grown_cell hU (by simp) (H.far _ (by omega))
    have := keep1_vm r (w.heap.size + 1) w.heap.size U (decide (r.vm = vm)) e1 (fun V hV => dropVM1_in r vm w.heap.size V ((hV.cell (World.block_lt_of_cell? _ _ e2)).trans e2))
    simpa using this))
  have HB := Lib.hid b1
  clear b1 H
  go_enter Try.func15, Try.ntmps15
  go_wp2_with fail
  refine (HK.out).mono ?_
  intro e w2 h2
  have HE := Lib.hid (h2.after HB.out)
  obtain rfl := h2.1
  clear h2
  go_wp2
  go_end0
  exact HE.out
theorem dropVM_nil (vm : Int) (w : World) : Calls Try.prog 15 #[.pointer none, .int .i64 vm] w fun e w' => e = .returned (.tuple #[]) ∧ Below w.heap.size w w' := by
  have HB := Lib.hid (below_new w (.cells #[.int .i64 vm] 3))
  have HK := Lib.hid (keep_nil (.func 34) #[.pointer (some ⟨w.heap.size, 0, none⟩)] (w.alloc (.cells #[.int .i64 vm] 3)))
  go_enter Try.func15, Try.ntmps15
  go_wp2_with fail
  refine (HK.out).mono ?_
  rintro e w2 ⟨rfl, b2⟩
  have HB2 := Lib.hid (below_up HB.out b2)
  clear b2
  go_wp2
  go_end0
  exact ⟨rfl, HB2.out⟩
theorem filter_all (l : List R5) : l.filter (fun _ => !true) = [] := by induction l <;> simp
theorem clear_in {w : World} {base C : Nat} {v : Value} {l : List R5} (H : Ca w base C v l) :
    Calls Try.prog 16 #[.pointer (some ⟨C, 0, none⟩)] w (Cd w base C v []) := by
  have hk := keep_in H (.func 35) #[] rfl (fun _ => true) (fun U hU r => by
    have e1 : U.cell? ⟨w.heap.size, 0, none⟩ = some (.func (.func 35) #[] #[]) := grown_cell hU (by simp) (H.far _ (by omega))
    exact keep1_clear r w.heap.size U true e1 (fun V hV => clear1_in r V))
  rw [filter_all] at hk
  have HK := Lib.hid hk
  clear H hk
  go_enter Try.func16, Try.ntmps16
  go_wp2_with fail
  refine (HK.out).mono ?_
  intro e w2 h2
  have HE := Lib.hid h2
  obtain rfl := h2.1
  clear h2
  go_wp2
  go_end0
  exact HE.out
theorem clear_nil (w : World) : Calls Try.prog 16 #[.pointer none] w fun e w' => e = .returned (.tuple #[]) ∧ Below w.heap.size w w' := by
  have HK := Lib.hid (keep_nil (.func 35) #[] w)
  go_enter Try.func16, Try.ntmps16
  go_wp2_with fail
  refine (HK.out).mono ?_
  rintro e w2 ⟨rfl, b2⟩
  have HB2 := Lib.hid b2
  clear b2
  go_wp2
  go_end0
  exact ⟨rfl, HB2.out⟩
end Go.Proofs.Ytjidhmdphlmldaa
