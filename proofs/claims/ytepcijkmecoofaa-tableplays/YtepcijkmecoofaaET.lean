/-
  Contract of a table's All: the pages that are there, rising, and where.
-/
import Derived.Test.YtepcijkmecoofaaES
namespace Go.Proofs.Ytepcijkmecoofaa
open Go.ChangeShapes Go.WideShapes Go.ChangeAt Go.RowKit
open WM EM
set_option maxRecDepth 100000

/-! ### plain lists -/
def pl (T : Nat → Bool) (k : Nat) : List Nat := (List.range k).filter T
theorem pl_yes (T : Nat → Bool) (k : Nat) (h : T k = true) : pl T (k + 1) = pl T k ++ [k] := by simp [pl, List.range_succ, h]
theorem pl_no (T : Nat → Bool) (k : Nat) (h : T k = false) : pl T (k + 1) = pl T k := by simp [pl, List.range_succ, h]
theorem pl_len (T : Nat → Bool) (k : Nat) : (pl T k).length ≤ k := by unfold pl; exact Nat.le_trans (List.length_filter_le _ _) (by simp)
theorem pl_split (T : Nat → Bool) (k n : Nat) (hk : k < n) (h : T k = true) : ∃ r, pl T n = pl T k ++ k :: r := by
  induction n with
  | zero => omega
  | succ n ih =>
    by_cases e : k = n
    · subst e; exact ⟨[], by rw [pl_yes T k h]⟩
    · obtain ⟨r, hr⟩ := ih (by omega)
      cases hn : T n
      · exact ⟨r, by rw [pl_no T n hn, hr]⟩
      · exact ⟨r ++ [n], by rw [pl_yes T n hn, hr]; simp⟩
def xsV (l : List Nat) : List Value := l.map fun p => .int .i64 (p : Nat)
def ent (f : Nat → Nat) (R : Nat → Bool) (p : Nat) : List Value := [.bool true, .int .i64 (f p : Nat), .bool (R p)]
def ysV (f : Nat → Nat) (R : Nat → Bool) (l : List Nat) : List Value := l.flatMap (ent f R)
theorem ysV_app (f : Nat → Nat) (R : Nat → Bool) (l : List Nat) (p : Nat) : ysV f R (l ++ [p]) = ysV f R l ++ ent f R p := by simp [ysV]
theorem ysV_len (f : Nat → Nat) (R : Nat → Bool) (l : List Nat) : (ysV f R l).length = l.length * 3 := by
  induction l with
  | nil => rfl
  | cons a l ih =>
    have : ysV f R (a :: l) = ent f R a ++ ysV f R l := by simp [ysV]
    rw [this, List.length_append, ih]; simp [ent]; omega
theorem xsV_at (T : Nat → Bool) (k : Nat) (hk : k < 32) (h : T k = true) : (xsV (pl T 32))[(pl T k).length]? = some (.int .i64 (k : Nat)) := by
  obtain ⟨r, hr⟩ := pl_split T k 32 hk h
  rw [hr]; simp [xsV]
theorem ysV_at (T : Nat → Bool) (f : Nat → Nat) (R : Nat → Bool) (k : Nat) (hk : k < 32) (h : T k = true) (j : Nat) (hj : j < 3) : (ysV f R (pl T 32))[(pl T k).length * 3 + j]? = (ent f R k)[j]? := by
  obtain ⟨r, hr⟩ := pl_split T k 32 hk h
  have e : ysV f R (pl T k ++ k :: r) = ysV f R (pl T k) ++ (ent f R k ++ ysV f R r) := by simp [ysV]
  rw [hr, e, List.getElem?_append, if_neg (by rw [ysV_len]; omega), ysV_len, List.getElem?_append, if_pos (by simp [ent]; omega)]
  congr 1; omega

/-! ### two rows of the call's own -/
def Apart (v1 v2 : Value) : Prop := ∀ g, v1.ownBlock = some g → v2.ownBlock ≠ some g
theorem owns_below {w w' : World} {base size n : Nat} {e : TypeId} {v : Value} {xs : List Value} (h : w.ownsRow base e size v n xs) (hb : Below w.heap.size w w') : w'.ownsRow base e size v n xs :=
  World.ownsRow.kept h (grown_of_below hb) (by cases hv : v.ownBlock <;> simp)
theorem owns_apart {w w' : World} {base size n : Nat} {e : TypeId} {v u : Value} {xs : List Value} (h : w.ownsRow base e size v n xs) (hg : w.grownBy w' u.ownBlock) (ha : Apart v u) : w'.ownsRow base e size v n xs :=
  World.ownsRow.kept h hg (by
    cases hv : v.ownBlock with
    | none => exact .inl rfl
    | some g => exact .inr (fun e => ha g hv e.symm))
/-- What stands in All's loop. -/
structure AI (V wr : World) (T : Nat → Bool) (f : Nat → Nat) (R : Nat → Bool) (v1 v2 : Value) (k : Nat) : Prop where
  o1 : wr.ownsRow V.heap.size 3 1 v1 (pl T k).length (xsV (pl T k))
  o2 : wr.ownsRow V.heap.size 31 3 v2 (pl T k).length (ysV f R (pl T k))
  ap : Apart v1 v2
  bel : Below V.heap.size V wr
theorem src1 (w : World) (v : Value) (t : TypeId) (n : Nat) (hn : n = w.heap.size) (j : Nat) (u : Value) (h : ([v] : List Value)[j]? = some u) : (w.alloc (.cells #[v] t)).cell? ((⟨n, 0, none⟩ : Addr).add j) = some u := by
  subst hn
  have hj : j = 0 := by
    have := (List.getElem?_eq_some_iff.1 h).1
    simp at this; omega
  subst hj
  simp at h
  subst h
  simp [Addr.add]
theorem src3 (w : World) (a b c : Value) (t : TypeId) (n : Nat) (hn : n = w.heap.size) (j : Nat) (u : Value) (h : ([a, b, c] : List Value)[j]? = some u) : (w.alloc (.cells #[a, b, c] t)).cell? ((⟨n, 0, none⟩ : Addr).add j) = some u := by
  subst hn
  have hj : j < 3 := by
    have := (List.getElem?_eq_some_iff.1 h).1
    simpa using this
  have : j = 0 ∨ j = 1 ∨ j = 2 := by omega
  rcases this with rfl | rfl | rfl <;> simp at h <;> subst h <;> simp [Addr.add]
theorem L3.kept {w w' : World} {B : Nat} {a b c : Value} {row : Option Nat} (h : L3 w B a b c) (hg : w.grownBy w' row) (hr : some B ≠ row) : L3 w' B a b c :=
  have hb := hg.block B h.lt hr
  ⟨(World.cell?_of_block (a := ⟨B, 0, none⟩) hb).trans h.k0, (World.cell?_of_block (a := ⟨B, 1, none⟩) hb).trans h.k1, (World.cell?_of_block (a := ⟨B, 2, none⟩) hb).trans h.k2, Nat.lt_of_lt_of_le h.lt hg.size, fun i => (World.frozen?_of_block (a := ⟨B, i, none⟩) hb).trans (h.fz i)⟩
set_option maxHeartbeats 2000000 in
theorem all_ok {w : World} {s h g cap fm B : Nat} {F : Nat → Nat} (H : Md w s h g cap fm F B) (hform : fm = 1 ∨ fm = 2) {T : Nat → Bool} {f : Nat → Nat} {R : Nat → Bool} (P : Pg fm F T f R) :
    Calls Try.prog 12 #[.agg #[.int .i64 fm, .slice (some ⟨g, 0, none⟩) 5 cap], .pointer (some ⟨s, 0, none⟩)] w fun e w' =>
      ∃ v1 v2, e = .returned (.tuple #[v1, v2]) ∧ w'.ownsRow w.heap.size 3 1 v1 (pl T 32).length (xsV (pl T 32)) ∧ w'.ownsRow w.heap.size 31 3 v2 (pl T 32).length (ysV f R (pl T 32)) ∧ Below w.heap.size w w' := by
  have hi1 : (Try.prog.info? 3).map (fun i => (i.zero, i.size, i.bytes)) = some (some (.int .i64 0), 1, 8) := by kernel_rfl
  have hu1 : Try.prog.underlying 25 = some (.slice 3) := by kernel_rfl
  obtain ⟨i1, hi1, hz1, hs1, hb1⟩ := info_parts hi1
  have hi2 : (Try.prog.info? 31).map (fun i => (i.zero, i.size, i.bytes)) = some (some (.agg #[.bool false, .int .i64 0, .bool false]), 3, 24) := by kernel_rfl
  have hu2 : Try.prog.underlying 40 = some (.slice 31) := by kernel_rfl
  obtain ⟨i2, hi2, hz2, hs2, hb2⟩ := info_parts hi2
  have HT1 := Lib.hid (And.intro hi1 (And.intro hz1 (And.intro hs1 hb1)))
  have HT2 := Lib.hid (And.intro hi2 (And.intro hz2 (And.intro hs2 hb2)))
  clear hi1 hz1 hs1 hb1 hi2 hz2 hs2 hb2
  have b1 := below_new w (.cells #[.int .i64 fm, .slice (some ⟨g, 0, none⟩) 5 cap] 27)
  have l2 := l2_mk w (.int .i64 fm) (.slice (some ⟨g, 0, none⟩) 5 cap) 27
  have HM := Lib.hid (H.below b1)
  have HP := Lib.hid P
  have B1 := Lib.hid b1
  have L2' := Lib.hid l2
  have hsz : w.heap.size ≤ (w.alloc (.cells #[.int .i64 fm, .slice (some ⟨g, 0, none⟩) 5 cap] 27)).heap.size := by simp
  clear b1 l2 H P
  go_enter Try.func12, Try.ntmps12
  go_wp2_with fail
  generalize w.alloc (.cells #[.int .i64 fm, .slice (some ⟨g, 0, none⟩) 5 cap] 27) = V at *
  go_loopw [6, 7, 8, 9, 10, 11] (fun p q _ _ _ i wr => ∃ k : Nat, k ≤ 32 ∧ i = .int .i64 k ∧ AI V wr T f R p q k) (fun _ _ _ _ _ i _ => (32 - intOf i).toNat)
  case atStart => exact ⟨0, by omega, rfl, ⟨World.ownsRow_nil _ _ _ _, World.ownsRow_nil _ _ _ _, fun g e => by simp [Value.ownBlock] at e, Below.refl _ _⟩⟩
  case round =>
    obtain ⟨k, hk, rfl, hA⟩ := hrel
    have HA := Lib.hid hA
    clear hA
    by_cases hlt : k < 32
    · have kk : (k : Int) < 32 := by omega
      obtain ⟨e0, e1, el, ef⟩ := (L2'.out).later (HA.out).bel
      have hwk := walk_pg ((HM.out).below (HA.out).bel) hform HP.out k hlt
      have hwz := ((HA.out).bel).size
      generalize hfk : f k = fk at *
      generalize hRk : R k = Rk at *
      cases hT : T k
      · rw [hT, show werr false = 11 from rfl] at hwk
        have HWK := Lib.hid hwk
        have HPL := Lib.hid (pl_no T k hT)
        clear hwk hT hfk hRk
        go_wp2_with fail
        refine (HWK.out).mono ?_
        rintro e w5 ⟨rfl, b5⟩
        have b6 := below_up b5 (below_new w5 (.cells #[.bool false, .int .i64 fk, .bool Rk] 31))
        have HA6 : Hid (AI V (w5.alloc (.cells #[.bool false, .int .i64 fk, .bool Rk] 31)) T f R u6 u7 (k + 1)) :=
          Lib.hid ⟨by rw [HPL.out]; exact owns_below (HA.out).o1 b6, by rw [HPL.out]; exact owns_below (HA.out).o2 b6, (HA.out).ap, below_up (HA.out).bel b6⟩
        clear b5 b6 e0 e1 el ef
        go_wp2
        go_roundw
        case rel => exact ⟨k + 1, by omega, by go_num, HA6.out⟩
        case measure => simp [intOf]; omega
      · rw [hT, show werr true = 0 from rfl] at hwk
        have HWK := Lib.hid hwk
        have HPL := Lib.hid (pl_yes T k hT)
        have hpl := pl_len T k
        have HEN : Hid (ent f R k = [.bool true, .int .i64 (fk : Nat), .bool Rk]) := Lib.hid (by unfold ent; rw [hfk, hRk])
        clear hwk hT hfk hRk
        go_wp2_with fail
        refine (HWK.out).mono ?_
        rintro e w5 ⟨rfl, b5⟩
        have b6 := below_up b5 (below_new w5 (.cells #[.bool true, .int .i64 fk, .bool Rk] 31))
        have hl6 := l3_new w5 (.bool true) (.int .i64 fk) (.bool Rk) 31
        have z5 := b5.size
        clear b5 e0 e1 el ef
        have hne6 : ∀ g, u6.ownBlock = some g → V.heap.size ≤ g ∧ g < wr.heap.size := (HA.out).o1.lt
        have hne7 : ∀ g, u7.ownBlock = some g → V.heap.size ≤ g ∧ g < wr.heap.size := (HA.out).o2.lt
        have HN6 := Lib.hid hne6
        have HN7 := Lib.hid hne7
        have HB6 := Lib.hid b6
        have HL6 := Lib.hid hl6
        clear hne6 hne7 b6 hl6
        go_wp2_with (first
          | (at_builtin
             refine wpList_app rfl (.tmp 23) (.tmp 25) 25 3 rfl i1 (.int .i64 0) 1 8 hu1 (HT1.out).1 (HT1.out).2.1 (HT1.out).2.2.1 (HT1.out).2.2.2 rfl (by omega) V.heap.size u6 (pl T k).length (xsV (pl T k)) rfl
               (owns_below (HA.out).o1 (below_more HB6.out _)) ⟨w5.heap.size + 1, 0, none⟩ 1 1 [.int .i64 (k : Nat)] rfl rfl (src1 _ _ _ _ (by simp)) (by simp [Value.oneCell']) (by unfold maxLen; omega) (by omega) (by simp; omega) ?_
             intro v8 w8 o8 g8 n8 a8
             have z8 := g8.size
             rw [World.size_alloc, World.size_alloc] at z8
             obtain ⟨r0, r1, r2, rl, rf⟩ := ((HL6.out).later (below_new _ (.cells #[.int .i64 (k : Nat)] 3))).kept g8 (fun e => by have := (HN6.out) _ e.symm; omega)
             have O1 := Lib.hid o8
             have O2 := Lib.hid (owns_apart (owns_below (HA.out).o2 (below_more HB6.out (.cells #[.int .i64 (k : Nat)] 3))) g8 (fun g h e => (HA.out).ap g e h))
             have AP8 : Hid (Apart v8 u7) := Lib.hid (fun g h e => by
               rcases a8 with a8 | a8
               · exact (HA.out).ap g (a8.symm.trans h) e
               · have := (HN7.out) g e
                 rw [a8] at h
                 injection h with h
                 simp at h; omega)
             have HB8 := Lib.hid ((below_more (below_up (HA.out).bel HB6.out) (.cells #[.int .i64 (k : Nat)] 3)).grown g8 (by simp; omega) (fun j hj => ((HN6.out) j hj).1))
             have HN8 : Hid (∀ g, v8.ownBlock = some g → g < w8.heap.size) := Lib.hid (fun g h => (o8.lt g h).2)
             clear o8 g8 n8 a8)
          | (at_builtin
             refine wpList_app rfl (.tmp 27) (.tmp 29) 40 31 rfl i2 (.agg #[.bool false, .int .i64 0, .bool false]) 3 24 hu2 (HT2.out).1 (HT2.out).2.1 (HT2.out).2.2.1 (HT2.out).2.2.2 rfl (by omega) V.heap.size u7 (pl T k).length (ysV f R (pl T k)) rfl
               (owns_below (O2.out) (below_new _ _)) ⟨w8.heap.size, 0, none⟩ 1 1 [.bool true, .int .i64 (fk : Nat), .bool Rk] rfl rfl (src3 _ _ _ _ _ _ rfl) (by simp [Value.oneCell']) (by unfold maxLen; omega) (by omega) (by simp; omega) ?_
             intro v9 w9 o9 g9 n9 a9
             have HA9 : Hid (AI V w9 T f R v8 v9 (k + 1)) := Lib.hid ⟨by
                 rw [HPL.out]
                 have := owns_apart (owns_below (O1.out) (below_new w8 (.cells #[.bool true, .int .i64 fk, .bool Rk] 31))) g9 (AP8.out)
                 simpa [xsV] using this, by
                 rw [HPL.out, ysV_app, HEN.out]
                 simpa using o9, fun g h e => by
                 rcases a9 with a9 | a9
                 · exact (AP8.out) g h (a9.symm.trans e)
                 · have := (HN8.out) g h
                   rw [a9] at e
                   injection e with e
                   simp at e; omega, (below_more HB8.out (.cells #[.bool true, .int .i64 fk, .bool Rk] 31)).grown g9 (by have := (HB8.out).size; simp; omega) (fun j hj => ((HN7.out) j hj).1)⟩
             clear o9 g9 n9 a9))
        go_roundw
        case rel => exact ⟨k + 1, by omega, by go_num, HA9.out⟩
        case measure => simp [intOf]; omega
    · have kk : ¬ (k : Int) < 32 := by omega
      obtain rfl : k = 32 := by omega
      go_wp2
      go_ret2
      exact ⟨u6, u7, rfl, ⟨(HA.out).o1.1, by
        rcases (HA.out).o1.2 with h | ⟨g, cap, cur, a1, a2, a3⟩
        · exact .inl h
        · exact .inr ⟨g, cap, cur, a1, by omega, a3⟩⟩, ⟨(HA.out).o2.1, by
        rcases (HA.out).o2.2 with h | ⟨g, cap, cur, a1, a2, a3⟩
        · exact .inl h
        · exact .inr ⟨g, cap, cur, a1, by omega, a3⟩⟩, below_up B1.out (HA.out).bel⟩
/-- A row of one's own is a slice; where it has something it lies in a block. -/
theorem owns_form {w : World} {base size n : Nat} {e : TypeId} {v : Value} {xs : List Value} (h : w.ownsRow base e size v n xs) :
    ∃ A cap, v = .slice A n cap ∧ n ≤ 9223372036854775807 ∧ (0 < n → ∃ g, A = some ⟨g, 0, none⟩ ∧ ∀ j u, xs[j]? = some u → w.cell? ⟨g, j, none⟩ = some u) := by
  by_cases hv : v = .slice none 0 0
  · subst hv
    obtain ⟨_, ⟨_, rfl⟩ | ⟨g, cap, cur, e, _⟩⟩ := h
    · exact ⟨none, 0, rfl, by omega, fun h => absurd h (by omega)⟩
    · injection e with e; cases e
  · obtain ⟨g, cap, rfl, hg, hlt, hcell, hfz, hnc, hm⟩ := owns_place h hv
    exact ⟨_, cap, rfl, by unfold maxLen at hm; omega, fun _ => ⟨g, rfl, hcell⟩⟩
theorem pl_lt (T : Nat → Bool) (k : Nat) (hk : k < 32) (h : T k = true) : (pl T k).length < (pl T 32).length := by
  obtain ⟨r, hr⟩ := pl_split T k 32 hk h
  rw [hr, List.length_append, List.length_cons]; omega
end Go.Proofs.Ytepcijkmecoofaa
