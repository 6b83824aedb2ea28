/-
  Package cache: slices.Delete, Put.
-/
import Derived.Test.YtjidhmdphlmldaaKD
namespace Go.Proofs.Ytjidhmdphlmldaa
open Go.ChangeShapes Go.WideShapes Go.ChangeAt Go.RowKit
set_option maxRecDepth 100000

theorem info_row : ∃ i, Try.prog.info? 73 = some i ∧ i.zero = some (.agg zero5) ∧ i.size = 5 ∧ i.bytes = 40 :=
  info_of (by kernel_rfl)
/-- 'append(s, x...)' within a region that draws its order: there is room. -/
theorem step_fits {ops : Array Oper} {o : Oper} {a : Act} {w : World} {K : Act → World → Prop} {Q : Exit → Act → World → Prop} {E : Prop} (hgd : o.guard = none) (s x : Operand)
    (ho : o.op = .call { callee := .builtin .append, args := #[s, x], argTypes := #[25, 25] }) (base g n cap : Nat) (xs : List Value)
    (hs : a.eval s = .slice (some ⟨g, 0, none⟩) n cap) (hown : w.ownsRow base 73 5 (.slice (some ⟨g, 0, none⟩) n cap) n xs) (ad : Addr) (m c : Nat) (hx : a.eval x = .slice (some ad) m c) (news : List Value)
    (hl : news.length = m * 5) (hnews : ∀ j u, news[j]? = some u → w.cell? (ad.add j) = some u) (h1 : ∀ u ∈ news, u.oneCell' = true) (hroom : n + m ≤ cap)
    (hK : ∀ w', w'.ownsRow base 73 5 (.slice (some ⟨g, 0, none⟩) (n + m) cap) (n + m) (xs ++ news) → w.grownBy w' (some g) → K (a.put o.dst (.slice (some ⟨g, 0, none⟩) (n + m) cap)) w') :
    if Region.wanted o (yielded ops a.tmps) = true then Oper.wp Try.prog o a w K Q else E := by
  have hw : Region.wanted o (yielded ops a.tmps) = true := by simp [Region.wanted, hgd]
  rw [if_pos hw]
  obtain ⟨i, hi, hz, hsz, hby⟩ := info_row
  obtain ⟨w', hrun, h3, h4⟩ := run_append_fits (P := Try.prog) w base 25 o.type 73 i 5 und_rows hi hsz g n cap xs hown ad m c news hl hnews h1 hroom
  unfold Oper.wp
  simp [execOp, ho, resolve, invoke, builtin, hs, hx, hrun, Result.andThen]
  exact hK w' h3 h4
/-- 'append(s, x)' within a region that draws its order. -/
theorem step_more {ops : Array Oper} {o : Oper} {a : Act} {w : World} {K : Act → World → Prop} {Q : Exit → Act → World → Prop} {E : Prop} (hgd : o.guard = none) (s x : Operand)
    (ho : o.op = .call { callee := .builtin .append, args := #[s, x], argTypes := #[25, 25] }) (base n : Nat) (v : Value) (xs : List Value)
    (hs : a.eval s = v) (hown : w.ownsRow base 73 5 v n xs) (hn : n ≤ 8) (hbase : base ≤ w.heap.size) (ad : Addr) (c : Nat) (hx : a.eval x = .slice (some ad) 1 c) (r : R5)
    (hnews : ∀ j u, r.cells[j]? = some u → w.cell? (ad.add j) = some u)
    (hK : ∀ p cap w', w'.ownsRow base 73 5 (.slice p (n + 1) cap) (n + 1) (xs ++ r.cells) → w.grownBy w' v.ownBlock → (Value.ownBlock (.slice p (n + 1) cap) = v.ownBlock ∨ Value.ownBlock (.slice p (n + 1) cap) = some w.heap.size) → K (a.put o.dst (.slice p (n + 1) cap)) w') :
    if Region.wanted o (yielded ops a.tmps) = true then Oper.wp Try.prog o a w K Q else E := by
  have hw : Region.wanted o (yielded ops a.tmps) = true := by simp [Region.wanted, hgd]
  rw [if_pos hw]
  obtain ⟨i, hi, hz, hsz, hby⟩ := info_row
  obtain ⟨v', w', hrun, h3, h4, _, h6⟩ := run_append_own_at (P := Try.prog) w base 25 o.type 73 i (.agg zero5) 5 40 und_rows hi hz hsz hby rfl (by omega) v n xs hown ad 1 c r.cells rfl hnews (fun u hu => rowL_one [r] u (by simpa [rowL] using hu)) (by unfold maxLen; omega) (by omega) hbase
  obtain ⟨p, cap, rfl⟩ := owns_slice h3
  unfold Oper.wp
  simp [execOp, ho, resolve, invoke, builtin, hs, hx, hrun, Result.andThen]
  exact hK p cap w' h3 h4 h6

/-! ### slices.Delete of the first of eight -/
theorem first_in {w : World} {base g cap : Nat} {l : List R5} (own : w.ownsRow base 73 5 (.slice (some ⟨g, 0, none⟩) 8 cap) 8 (rowL l)) (hl : l.length = 8) :
    Calls Try.prog 36 #[.slice (some ⟨g, 0, none⟩) 8 cap, .int .i64 0, .int .i64 1] w
      fun e w' => e = .returned (.slice (some ⟨g, 0, none⟩) 7 cap) ∧ w'.ownsRow base 73 5 (.slice (some ⟨g, 0, none⟩) 7 cap) 7 (rowL (l.drop 1)) ∧ w.grownBy w' (some g) := by
  have hcap : 8 ≤ cap ∧ cap ≤ maxLen := by
    rcases owns_form own with ⟨h, _⟩ | ⟨g', cap', h, _, _, h1, h2⟩
    · simp at h
    · simp only [Value.slice.injEq, Option.some.injEq, Addr.mk.injEq, and_true, true_and] at h
      obtain ⟨rfl, rfl⟩ := h
      exact ⟨h1, h2⟩
  obtain ⟨hcap1, hcap2⟩ := hcap
  unfold maxLen at hcap2
  have own0 : w.drew.ownsRow base 73 5 (.slice (some ⟨g, 0, none⟩) 0 cap) 0 [] := by
    have := owns_less (owns_below own (below_draws (Below.refl _ _) 1)) (m := 0) (by omega)
    simp only [Nat.zero_mul, List.take_zero] at this
    exact this
  have hnews : ∀ j u, (rowL (l.drop 1))[j]? = some u → w.drew.cell? ((⟨g, 5, none⟩ : Addr).add j) = some u := by
    intro j u hj
    have hlt := (List.getElem?_eq_some_iff.1 hj).1
    rw [rowL_len, List.length_drop, hl] at hlt
    have e := (owns_below own (below_draws (Below.refl _ _) 1)).cellAt (5 + j) (by omega)
    rw [add_to]
    refine e.trans ?_
    rw [← rowL_drop l 1 (by omega), List.getElem?_drop] at hj
    exact hj
  have HO := Lib.hid own0
  have HN := Lib.hid hnews
  have HL : Hid ((rowL (l.drop 1)).length = 7 * 5) := Lib.hid (by rw [rowL_len, List.length_drop, hl])
  have HG : Hid (∀ U, w.drew.grownBy U (some g) → w.grownBy U (some g)) := Lib.hid (fun U h => grown_trans (grown_below (below_draws (Below.refl _ _) 1) _) h)
  clear own own0 hnews hl
  have hc0 : ¬ (cap : Int) < 8 := by omega
  have hc1 : ¬ cap = 1 := by omega
  go_enter Try.func36, Try.ntmps36
  go_wp2_with fail
  go_region_law (refine step_fits rfl (.tmp 22) (.tmp 25) rfl base g 0 cap [] (by simp [Act.eval, Act.put]) HO.out ⟨g, 5, none⟩ 7 (cap - 1) (by simp [Act.eval, Act.put]) (rowL (l.drop 1)) HL.out HN.out (rowL_one _) (by omega) ?_; intro w' k1 k2; have KV := Lib.hid k1; have KG := Lib.hid k2; clear k1 k2)
  have hc7 : ¬ cap = 7 := by omega
  have hc8 : ¬ (cap : Int) < 7 := by omega
  go_wp2_with (refine wpList_clr rfl (.tmp 31) rfl base g 7 cap 7 1 (cap - 7) _ rfl KV.out (by omega) (by omega) (by omega) ?_
               intro w4 o4 g4
               have HE : Hid (w4.ownsRow base 73 5 (.slice (some ⟨g, 0, none⟩) 7 cap) 7 (rowL (l.drop 1)) ∧ w.grownBy w4 (some g)) := Lib.hid ⟨by
                 have := o4
                 rw [List.nil_append, List.take_of_length_le (by rw [HL.out]; omega)] at this
                 exact this, (HG.out) _ (grown_trans KG.out g4)⟩
               clear o4 g4)
  go_ret
  exact ⟨rfl, by rw [← List.drop_one]; exact (HE.out).1, (HE.out).2⟩

/-! ### Put -/
def putL (vm pg : Int) (th : Bool) (fr : Int) (wr : Bool) (l : List R5) : List R5 :=
  (if (l.filter (fun r => !hitK vm pg r)).length = 8 then (l.filter (fun r => !hitK vm pg r)).drop 1 else l.filter (fun r => !hitK vm pg r)) ++ [⟨vm, pg, th, fr, wr⟩]
structure L3 (w : World) (B : Nat) (a b c : Value) : Prop where
  k0 : w.cell? ⟨B, 0, none⟩ = some a
  k1 : w.cell? ⟨B, 1, none⟩ = some b
  k2 : w.cell? ⟨B, 2, none⟩ = some c
  lt : B < w.heap.size
  fz : ∀ i, w.frozen? ⟨B, i, none⟩ = false
theorem l3_new (w : World) (a b c : Value) (t : TypeId) : L3 (w.alloc (.cells #[a, b, c] t)) w.heap.size a b c := ⟨by simp, by simp, by simp, by simp, fun i => by simp⟩
theorem L3.same {w w' : World} {B : Nat} {a b c : Value} (h : L3 w B a b c) (hb : w'.heap[B]? = w.heap[B]?) (hs : w.heap.size ≤ w'.heap.size) : L3 w' B a b c :=
  ⟨(World.cell?_of_block (a := ⟨B, 0, none⟩) hb).trans h.k0, (World.cell?_of_block (a := ⟨B, 1, none⟩) hb).trans h.k1, (World.cell?_of_block (a := ⟨B, 2, none⟩) hb).trans h.k2, Nat.lt_of_lt_of_le h.lt hs, fun i => (World.frozen?_of_block (a := ⟨B, i, none⟩) hb).trans (h.fz i)⟩
theorem L3.kept {w w' : World} {B : Nat} {a b c : Value} {row : Option Nat} (h : L3 w B a b c) (hg : w.grownBy w' row) (hr : some B ≠ row) : L3 w' B a b c := h.same (hg.block B h.lt hr) hg.size
theorem L3.later {w w' : World} {B : Nat} {a b c : Value} (h : L3 w B a b c) (hb : Below w.heap.size w w') : L3 w' B a b c := h.kept (grown_of_below hb) (by simp)
theorem L3.tc {w w' : World} {B C : Nat} {v v' a b c : Value} (h : L3 w B a b c) (ht : Tc w w' C v v') (h1 : B ≠ C) (h2 : v.ownBlock ≠ some B) : L3 w' B a b c := h.same (ht.block B h.lt h1 h2) ht.size
/-- What the last statement of Put leaves. -/
theorem put_done {w U w' : World} {base C : Nat} {v v2 : Value} {m : List R5} {r : R5} {p : Option Addr} {cap n : Nat} (ht : Tc w U C v v2) (H : Ca U base C v2 m) (hn : m.length = n) (hm : n < 8) (o : Obj)
    (own : w'.ownsRow base 73 5 (.slice p (n + 1) cap) (n + 1) (rowL m ++ r.cells)) (hg : (U.alloc o).drew.grownBy w' v2.ownBlock)
    (hb : Value.ownBlock (.slice p (n + 1) cap) = v2.ownBlock ∨ Value.ownBlock (.slice p (n + 1) cap) = some (U.alloc o).drew.heap.size) :
    Cd w base C v (m ++ [r]) (.returned (.tuple #[])) (w'.setCell ⟨C, 0, none⟩ (.slice p (n + 1) cap)) := by
  subst hn
  have hb0 : Below U.heap.size U (U.alloc o).drew := below_draws (below_new U o) 1
  have H1 := H.below hb0
  have hc : some C ≠ v2.ownBlock := fun e => H.ne e.symm
  have hb2 := hg.block C H1.lt hc
  have c2 := (World.cell?_of_block (a := ⟨C, 0, none⟩) hb2).trans H1.c
  have f2 := (World.frozen?_of_block (a := ⟨C, 0, none⟩) hb2).trans H1.fz
  have hne : Value.ownBlock (.slice p (m.length + 1) cap) ≠ some C := by
    rcases hb with e | e
    · rw [e]; exact H.ne
    · rw [e]; intro e'; have := H1.lt; injection e' with e'; omega
  have e1 : rowL (m ++ [r]) = rowL m ++ r.cells := by rw [rowL_app]; simp [rowL]
  refine ⟨rfl, _, ⟨set_same' _ _ _ _ (by rw [c2]; rfl), by rw [World.frozen?_setCell]; exact f2, ?_, hne, by simp; omega, H.bs⟩, ?_⟩
  · rw [e1, List.length_append]
    exact own.kept (grown_setCell _ _ _) (.inr hne)
  · refine ht.trans ((Tc.of_below hb0).trans ((Tc.own hg ?_).trans (Tc.set _)))
    rcases hb with e | e
    · exact .inl e
    · exact .inr (fun g h => by rw [e] at h; injection h with h; omega)
theorem row_news {w : World} {r : R5} {s : Nat} (hs : w.heap.size = s) : ∀ j u, r.cells[j]? = some u → (w.alloc (.cells #[.int .i64 r.vm, .int .i64 r.pg, .bool r.th, .int .i64 r.fr, .bool r.wr] 73)).drew.cell? ((⟨s, 0, none⟩ : Addr).add j) = some u := by
  subst hs
  intro j u hj
  rw [add_at]
  have hlt := (List.getElem?_eq_some_iff.1 hj).1
  have : j = 0 ∨ j = 1 ∨ j = 2 ∨ j = 3 ∨ j = 4 := by simp [R5.cells] at hlt; omega
  rcases this with rfl | rfl | rfl | rfl | rfl <;> simp [R5.cells] at hj <;> subst hj <;> simp
theorem put_cells {U w' : World} {base C : Nat} {v2 : Value} {m : List R5} (H : Ca U base C v2 m) (o : Obj) (hg : (U.alloc o).drew.grownBy w' v2.ownBlock) : w'.cell? ⟨C, 0, none⟩ = some v2 ∧ w'.frozen? ⟨C, 0, none⟩ = false := by
  have H1 := H.below (below_draws (below_new U o) 1)
  have hb2 := hg.block C H1.lt (fun e => H.ne e.symm)
  exact ⟨(World.cell?_of_block (a := ⟨C, 0, none⟩) hb2).trans H1.c, (World.frozen?_of_block (a := ⟨C, 0, none⟩) hb2).trans H1.fz⟩
theorem put_base {U : World} {base C : Nat} {v2 : Value} {m : List R5} (H : Ca U base C v2 m) (o : Obj) : base ≤ (U.alloc o).drew.heap.size := by
  have := H.bs
  have := (H.below (below_draws (below_new U o) 1)).lt
  have h2 : C < (U.alloc o).drew.heap.size := this
  omega
set_option maxHeartbeats 1000000 in
theorem put_in {w : World} {base C : Nat} {v : Value} {l : List R5} (H : Ca w base C v l) (vm pg : Int) (th : Bool) (fr : Int) (wr : Bool) :
    Calls Try.prog 17 #[.pointer (some ⟨C, 0, none⟩), .int .i64 vm, .int .i64 pg, .agg #[.bool th, .int .i64 fr, .bool wr]] w (Cd w base C v (putL vm pg th fr wr l)) := by
  have b1 := below_new w (.cells #[.bool th, .int .i64 fr, .bool wr] 32)
  have l1 := l3_new w (.bool th) (.int .i64 fr) (.bool wr) 32
  have HK := Lib.hid (drop_in (H.below b1) vm pg)
  have HX := Lib.hid l1
  have HB := Lib.hid b1
  have HXC : Hid (w.heap.size ≠ C) := Lib.hid (by have := H.lt; omega)
  have HF := Lib.hid (H.far w.heap.size (Nat.le_refl _))
  obtain ⟨q, hq⟩ : ∃ q, putL vm pg th fr wr l = q := ⟨_, rfl⟩
  rw [hq]
  unfold putL at hq
  have HQ := Lib.hid hq
  clear b1 l1 H hq
  generalize hm : l.filter (fun r => !hitK vm pg r) = m at *
  clear hm
  go_enter Try.func17, Try.ntmps17
  go_wp2_with fail
  refine (HK.out).mono ?_
  rintro e w2 ⟨rfl, v2, H2, T2⟩
  have HT := Lib.hid ((Tc.of_below HB.out).trans T2)
  have l2 := (HX.out).tc T2 HXC.out (fun e => HF.out e.symm)
  have n2 := T2.apart (HX.out).lt (fun e => HF.out e.symm)
  clear T2
  by_cases h8 : m.length = 8
  · have hq := HQ.out
    rw [if_pos h8] at hq
    clear HQ
    have HQ := Lib.hid hq
    clear hq
    have HM : Hid ((m.drop 1).length = 7) := Lib.hid (by rw [List.length_drop, h8])
    obtain ⟨g, cap, rfl⟩ : ∃ g cap, v2 = .slice (some ⟨g, 0, none⟩) 8 cap := by
      rcases owns_form H2.own with ⟨_, h⟩ | ⟨g, cap, h, _⟩
      · omega
      · rw [h8] at h; exact ⟨g, cap, h⟩
    have o2 := H2.own
    rw [h8] at o2
    have HD := Lib.hid (first_in o2 h8)
    have c2 := H2.c
    have HH2 := Lib.hid H2
    have HL2 := Lib.hid l2
    have HN2 := Lib.hid n2
    clear o2 H2 l2 n2 h8
    go_wp2_with fail
    refine (HD.out).mono ?_
    rintro e w3 ⟨rfl, own3, gr3⟩
    have hc : some C ≠ some g := fun e => (HH2.out).ne e.symm
    have hb3 := gr3.block C (HH2.out).lt hc
    have c3 := (World.cell?_of_block (a := ⟨C, 0, none⟩) hb3).trans (HH2.out).c
    have f3 := (World.frozen?_of_block (a := ⟨C, 0, none⟩) hb3).trans (HH2.out).fz
    have H4 : Ca (w3.setCell ⟨C, 0, none⟩ (.slice (some ⟨g, 0, none⟩) 7 cap)) base C (.slice (some ⟨g, 0, none⟩) 7 cap) (m.drop 1) :=
      ⟨set_same' _ _ _ _ (by rw [c3]; rfl), by rw [World.frozen?_setCell]; exact f3, by rw [HM.out]; exact own3.kept (grown_setCell _ _ _) (.inr (fun e => hc e.symm)), (HH2.out).ne, by rw [HM.out]; omega, (HH2.out).bs⟩
    have T4 : Tc w (w3.setCell ⟨C, 0, none⟩ (.slice (some ⟨g, 0, none⟩) 7 cap)) C v (.slice (some ⟨g, 0, none⟩) 7 cap) :=
      (HT.out).trans ((Tc.own (C := C) (v := .slice (some ⟨g, 0, none⟩) 8 cap) (v' := .slice (some ⟨g, 0, none⟩) 7 cap) gr3 (.inl rfl)).trans (Tc.set _))
    have l4 : L3 (w3.setCell ⟨C, 0, none⟩ (.slice (some ⟨g, 0, none⟩) 7 cap)) w.heap.size (.bool th) (.int .i64 fr) (.bool wr) :=
      ((HL2.out).kept gr3 (fun e => HN2.out e.symm)).kept (grown_setCell _ _ _) (fun e => HXC.out (by injection e))
    obtain ⟨x0, x1, x2, xl, xf⟩ := l4
    have c2b := (H4.below (below_draws (below_new (w3.setCell ⟨C, 0, none⟩ (.slice (some ⟨g, 0, none⟩) 7 cap)) (.cells #[.int .i64 vm, .int .i64 pg, .bool th, .int .i64 fr, .bool wr] 73)) 1)).c
    have c2c : ((w3.setCell ⟨C, 0, none⟩ (.slice (some ⟨g, 0, none⟩) 7 cap)).alloc (.cells #[.int .i64 vm, .int .i64 pg, .bool th, .int .i64 fr, .bool wr] 73)).drew.cell? ⟨C, 0, none⟩ = some (.slice (some ⟨g, 0, none⟩) 7 cap) := c2b
    have c4 := H4.c
    have o4 := H4.own
    rw [HM.out] at o4
    have HO4 := Lib.hid o4
    have HH4 := Lib.hid H4
    have HT4 := Lib.hid T4
    clear H4 T4 c2b o4 own3 gr3 hc hb3
    go_wp2
    go_region_law (refine step_more rfl (.tmp 32) (.tmp 38) rfl base 7 _ _ (by simp [Act.eval]) (owns_below HO4.out (below_draws (below_new _ _) 1)) (by omega) (put_base HH4.out _) ⟨w3.heap.size, 0, none⟩ 1 (by simp [Act.eval]) ⟨vm, pg, th, fr, wr⟩ (row_news (by simp)) ?_; intro p' cap' w' k1 k2 k3; have KD := Lib.hid (put_done HT4.out HH4.out HM.out (by omega) _ k1 k2 k3); obtain ⟨c5, f5⟩ := put_cells HH4.out _ k2; clear k1 k2 k3)
    all_goals
      go_end0
      rw [← HQ.out]
      exact KD.out
  · have hq := HQ.out
    rw [if_neg h8] at hq
    clear HQ
    have HQ := Lib.hid hq
    clear hq
    have hlen := H2.len
    have hlt : m.length < 8 := by omega
    have t8 : ((m.length : Int) == 8) = false := by simp; omega
    obtain ⟨p, cap, rfl⟩ := owns_slice H2.own
    obtain ⟨c2, f2, o2, e2, _, bs2⟩ := id H2
    obtain ⟨x0, x1, x2, xl, xf⟩ := l2
    have HH2 := Lib.hid H2
    have c2b := (H2.below (below_draws (below_new w2 (.cells #[.int .i64 vm, .int .i64 pg, .bool th, .int .i64 fr, .bool wr] 73)) 1)).c
    have c2c : (w2.alloc (.cells #[.int .i64 vm, .int .i64 pg, .bool th, .int .i64 fr, .bool wr] 73)).drew.cell? ⟨C, 0, none⟩ = some (.slice p m.length cap) := c2b
    clear o2 H2 c2b
    go_wp2
    go_region_law (refine step_more rfl (.tmp 32) (.tmp 38) rfl base m.length _ _ (by simp [Act.eval]) (owns_below (HH2.out).own (below_draws (below_new _ _) 1)) (by omega) (put_base HH2.out _) ⟨w2.heap.size, 0, none⟩ 1 (by simp [Act.eval]) ⟨vm, pg, th, fr, wr⟩ (row_news (by simp)) ?_; intro p' cap' w' k1 k2 k3; have KD := Lib.hid (put_done HT.out HH2.out rfl hlt _ k1 k2 k3); obtain ⟨c3, f3⟩ := put_cells HH2.out _ k2; clear k1 k2 k3)
    all_goals
      go_end0
      rw [← HQ.out]
      exact KD.out
end Go.Proofs.Ytjidhmdphlmldaa
