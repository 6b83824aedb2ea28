/-
  A list of lists of bytes, as the law StorePlays keeps one beside a store: its rows in memory, and what a copy, a new row and an append make of them.
-/
import Derived.Test.YthgopodjplpefaaSD
namespace Go.Proofs.Ythgopodjplpefaa
open Go.ChangeShapes Go.WideShapes Go.ChangeAt Go.RowKit
open WM
set_option maxRecDepth 100000

/-- A block that begins with these 256 bytes; it has c cells. -/
def RowP (w : World) (r c : Nat) (f : Nat → Nat) : Prop := ∃ cur : Array Value, w.heap[r]? = some (.cells cur 5 (0, 0)) ∧ cur.size = c ∧ 256 ≤ c ∧ cur.toList.take 256 = rowV f 256
theorem RowP.lt {w : World} {r c : Nat} {f : Nat → Nat} (h : RowP w r c f) : r < w.heap.size := by
  obtain ⟨cur, h, _⟩ := h
  exact (Array.getElem?_eq_some_iff.1 h).1
theorem RowP.of_row {w : World} {r : Nat} {f : Nat → Nat} (h : Row w r f 256) : RowP w r 256 f := ⟨_, h, by simp [rowV_length], by omega, List.take_of_length_le (by rw [rowV_length]; omega)⟩
theorem RowP.kept {w w' : World} {r c : Nat} {f : Nat → Nat} {row : Option Nat} (h : RowP w r c f) (hg : w.grownBy w' row) (hr : some r ≠ row) : RowP w' r c f := by
  have hlt := h.lt
  obtain ⟨cur, h1, h2⟩ := h
  exact ⟨cur, (hg.block r hlt hr).trans h1, h2⟩
theorem RowP.congr {w : World} {r c : Nat} {f g : Nat → Nat} (h : RowP w r c f) (he : ∀ i, i < 256 → f i = g i) : RowP w r c g := by
  obtain ⟨cur, h1, h2, h3, h4⟩ := h
  exact ⟨cur, h1, h2, h3, by rw [h4, rowV_congr f g 256 he]⟩
theorem RowP.bytes {w : World} {r c : Nat} {f : Nat → Nat} (h : RowP w r c f) : BytesAt w (some ⟨r, 0, none⟩) 256 f := by
  obtain ⟨cur, h1, h2, h3, h4⟩ := h
  intro i hi
  refine ⟨r, 0, rfl, ?_⟩
  have h5 := rowV_get f 256 i hi
  rw [← h4, List.getElem?_take, if_pos hi] at h5
  rw [Nat.zero_add]
  simp [World.cell?, h1]
  simpa using h5
theorem RowP.of_own {w : World} {base : Nat} {v : Value} {f : Nat → Nat} (h : Own w base v 256 f) : ∃ r c, v = .slice (some ⟨r, 0, none⟩) 256 c ∧ base ≤ r ∧ RowP w r c f := by
  obtain ⟨_, ⟨rfl, h0⟩ | ⟨g, cap, cur, rfl, hb, hg, hnc, hm, hsz, ht⟩⟩ := h
  · omega
  · exact ⟨g, cap, rfl, hb, cur, hg, by omega, hnc, by simpa using ht⟩

theorem take_put {α : Type} (L X : List α) (k : Nat) (hk : k + X.length ≤ 256) (hL : 256 ≤ L.length) :
    (L.take k ++ X ++ L.drop (k + X.length)).take 256 = (L.take 256).take k ++ (X ++ (L.take 256).drop (k + X.length)) := by
  rw [List.take_take, Nat.min_eq_left (show k ≤ 256 by omega), List.take_append, List.take_of_length_le (show (L.take k ++ X).length ≤ 256 by simp; omega), List.append_assoc, List.drop_take]
  congr 3
  simp; omega
/-- copy(d, s) into such a block. -/
theorem run_putP {P : Program} {w : World} (dT sT ty elem : TypeId) (hu : P.underlying dT = some (.slice elem)) (hsz : (P.info? elem).map (·.size) = some 1)
    (dp sp : Option Addr) (dLen dCap sLen sCap : Nat) (r c k n : Nat) (f p : Nat → Nat) (hr : RowP w r c f) (hn : n = Nat.min sLen dLen) (hk : k + n ≤ 256) (hdp : 0 < n → dp = some ⟨r, k, none⟩) (hb : BytesAt w sp sLen p) :
    ∃ w', (Builtin.copy_ #[dT, sT] ty #[.slice dp dLen dCap, .slice sp sLen sCap]).run P w = .ok (goInt n) w' ∧ RowP w' r c (putF f k n p) ∧ w.grownBy w' (some r) := by
  by_cases h0 : n = 0
  · subst h0
    exact ⟨w, run_copy_none (P := P) w dT sT ty elem dp sp dLen dCap sLen sCap hu hsz hn.symm, by rw [putF_none]; exact hr, World.grownBy.refl w _⟩
  · have hm : Nat.min sLen dLen ≤ sLen := Nat.min_le_left _ _
    obtain rfl := hdp (by omega)
    obtain ⟨b, off, rfl, _⟩ := hb 0 (by omega)
    obtain ⟨cur, h1, h2, h3, h4⟩ := hr
    have hsrc : ∀ j v, (rowV p n)[j]? = some v → w.cell? ((⟨b, off, none⟩ : Addr).add j) = some v := by
      intro j v hj
      obtain ⟨hjm, rfl⟩ := rowV_some hj
      obtain ⟨b', off', e, hc⟩ := hb j (by omega)
      injection e with e
      injection e with e1 e2
      subst e1 e2
      rw [← hc]
      congr 1
      unfold Addr.add
      split <;> simp_all
    have hrun := run_copy_row (P := P) w dT sT ty elem r k dLen dCap ⟨b, off, none⟩ sLen sCap cur _ (rowV p n) hu hsz h1 (by rw [rowV_length, hn]) hsrc (by rw [rowV_length]; omega) (rowV_one p n)
    rw [rowV_length] at hrun
    refine ⟨_, hrun, ⟨_, setRow_heap w r _ _ _ _ h1, ?_, h3, ?_⟩, grown_setRow _ _ _⟩
    · simp [rowV_length]; omega
    · have e := put_rows f 256 k n p hk
      have e2 := take_put cur.toList (rowV p n) k (by rw [rowV_length]; exact hk) (by rw [Array.length_toList]; omega)
      rw [h4, rowV_length, e] at e2
      exact e2
theorem step_putP {P : Program} {ops : Array Oper} {o : Oper} {a : Act} {w : World} {K : Act → World → Prop} {Q : Exit → Act → World → Prop} {E : Prop} (hgd : o.guard = none) (d s : Operand) (dT sT : TypeId)
    (ho : o.op = .call { callee := .builtin .copy, args := #[d, s], argTypes := #[dT, sT] }) (elem : TypeId) (hu : P.underlying dT = some (.slice elem)) (hsz : (P.info? elem).map (·.size) = some 1)
    (dp sp : Option Addr) (dLen dCap sLen sCap : Nat) (hd : a.eval d = .slice dp dLen dCap) (hs : a.eval s = .slice sp sLen sCap)
    (r c k n : Nat) (f p : Nat → Nat) (hr : RowP w r c f) (hn : n = Nat.min sLen dLen) (hk : k + n ≤ 256) (hdp : 0 < n → dp = some ⟨r, k, none⟩) (hb : BytesAt w sp sLen p)
    (h : ∀ w', RowP w' r c (putF f k n p) → w.grownBy w' (some r) → K (a.put o.dst (goInt n)) w') :
    if Region.wanted o (yielded ops a.tmps) = true then Oper.wp P o a w K Q else E := by
  have hw : Region.wanted o (yielded ops a.tmps) = true := by simp [Region.wanted, hgd]
  rw [if_pos hw]
  obtain ⟨w', hrun, h1, h2⟩ := run_putP (P := P) dT sT o.type elem hu hsz dp sp dLen dCap sLen sCap r c k n f p hr hn hk hdp hb
  unfold Oper.wp
  simp [execOp, ho, resolve, invoke, builtin, hd, hs, hrun, Result.andThen]
  exact h w' h1 h2

/-- The list of lists: N rows, row j in block R j. -/
structure Mdl (w : World) (B M N : Nat) (F R C : Nat → Nat) : Prop where
  mrow : 0 < N → ∃ cur : Array Value, w.heap[M]? = some (.cells cur 27 (0, 0)) ∧ ∀ j, j < N → cur[j]? = some (.slice (some ⟨R j, 0, none⟩) 256 (C j))
  mlo : 0 < N → B ≤ M
  rows : ∀ j, j < N → RowP w (R j) (C j) (fun i => F (256 * j + i))
  inj : ∀ i j, i < N → j < N → R i = R j → i = j
  lo : ∀ j, j < N → B ≤ R j
section
variable {w w' : World} {B M N : Nat} {F R C : Nat → Nat}
theorem Mdl.mlt (H : Mdl w B M N F R C) (hN : 0 < N) : M < w.heap.size := by
  obtain ⟨cur, h, _⟩ := H.mrow hN
  exact (Array.getElem?_eq_some_iff.1 h).1
theorem Mdl.ne (H : Mdl w B M N F R C) (j : Nat) (hj : j < N) : R j ≠ M := by
  intro e
  obtain ⟨cur, h, _⟩ := H.mrow (by omega)
  obtain ⟨cur', h', _⟩ := H.rows j hj
  rw [e, h] at h'
  injection h' with h'
  injection h' with _ h3
  exact absurd h3 (by decide)
theorem Mdl.cell (H : Mdl w B M N F R C) (j : Nat) (hj : j < N) : w.cell? ⟨M, j, none⟩ = some (.slice (some ⟨R j, 0, none⟩) 256 (C j)) := by
  obtain ⟨cur, h, hc⟩ := H.mrow (by omega)
  rw [← hc j hj]
  simp [World.cell?, h]
theorem Mdl.frozen (H : Mdl w B M N F R C) (hN : 0 < N) (j : Nat) : w.frozen? ⟨M, j, none⟩ = false := by
  obtain ⟨cur, h, hc⟩ := H.mrow hN
  simp [World.frozen?, h]
theorem Mdl.kept {row : Option Nat} (H : Mdl w B M N F R C) (hg : w.grownBy w' row) (h1 : ∀ j, j < N → some (R j) ≠ row) (h2 : 0 < N → some M ≠ row) : Mdl w' B M N F R C :=
  ⟨fun h => by
    obtain ⟨cur, h3, h4⟩ := H.mrow h
    exact ⟨cur, (hg.block M (H.mlt h) (h2 h)).trans h3, h4⟩, H.mlo, fun j hj => (H.rows j hj).kept hg (h1 j hj), H.inj, H.lo⟩
theorem Mdl.below (H : Mdl w B M N F R C) (hb : Below w.heap.size w w') : Mdl w' B M N F R C :=
  H.kept (row := none) ⟨hb.os, hb.tape, hb.output, hb.size, fun k hk _ => hb.block k hk⟩ (fun _ _ => by simp) (fun _ => by simp)
theorem Mdl.low (H : Mdl w B M N F R C) (g : Nat) (hg : w.grownBy w' (some g)) (hB : g < B) : Mdl w' B M N F R C :=
  H.kept hg (fun j hj e => by have := H.lo j hj; injection e with e; omega) (fun h e => by have := H.mlo h; injection e with e; omega)
theorem Mdl.congr {F' : Nat → Nat} (H : Mdl w B M N F R C) (he : ∀ j, j < N → ∀ i, i < 256 → F (256 * j + i) = F' (256 * j + i)) : Mdl w B M N F' R C :=
  ⟨H.mrow, H.mlo, fun j hj => (H.rows j hj).congr (he j hj), H.inj, H.lo⟩
/-- One row's bytes are others. -/
theorem Mdl.put {F' : Nat → Nat} {f' : Nat → Nat} (H : Mdl w B M N F R C) (t : Nat) (ht : t < N) (hg : w.grownBy w' (some (R t))) (hr : RowP w' (R t) (C t) f')
    (h1 : ∀ i, i < 256 → f' i = F' (256 * t + i)) (h2 : ∀ j, j < N → j ≠ t → ∀ i, i < 256 → F (256 * j + i) = F' (256 * j + i)) : Mdl w' B M N F' R C := by
  refine ⟨fun h => ?_, H.mlo, fun j hj => ?_, H.inj, H.lo⟩
  · obtain ⟨cur, h3, h4⟩ := H.mrow h
    exact ⟨cur, (hg.block M (H.mlt h) (fun e => H.ne t ht (Option.some.inj e).symm)).trans h3, h4⟩
  · by_cases c : j = t
    · subst c; exact hr.congr h1
    · exact ((H.rows j hj).kept hg (fun e => c (H.inj j t hj ht (Option.some.inj e)))).congr (h2 j hj c)
/-- One row is another one, in a new block. -/
theorem Mdl.new {w2 : World} {F' : Nat → Nat} {f' : Nat → Nat} (H : Mdl w B M N F R C) (t r c : Nat) (ht : t < N) (hg : w.grownBy w' none) (hr : RowP w' r c f') (hw : w.heap.size ≤ r) (hB : B ≤ w.heap.size)
    (h1 : ∀ i, i < 256 → f' i = F' (256 * t + i)) (h2 : ∀ j, j < N → j ≠ t → ∀ i, i < 256 → F (256 * j + i) = F' (256 * j + i))
    (hw2 : w'.setCell ⟨M, t, none⟩ (.slice (some ⟨r, 0, none⟩) 256 c) = w2) :
    Mdl w2 B M N F' (fun j => if j = t then r else R j) (fun j => if j = t then c else C j) := by
  subst hw2
  have H' := H.kept hg (fun _ _ => by simp) (fun _ => by simp)
  have hs := grown_setCell w' ⟨M, t, none⟩ (.slice (some ⟨r, 0, none⟩) 256 c)
  have hM : r ≠ M := by have := H.mlt (by omega); omega
  refine ⟨fun h => ?_, H.mlo, fun j hj => ?_, fun i j hi hj e => ?_, fun j hj => ?_⟩
  · obtain ⟨cur, h3, h4⟩ := H'.mrow h
    refine ⟨cur.setIfInBounds t (.slice (some ⟨r, 0, none⟩) 256 c), ?_, fun j hj => ?_⟩
    · simp [World.setCell, Array.getElem?_modify, h3]
    · rw [Array.getElem?_setIfInBounds]
      by_cases c1 : j = t
      · subst c1
        have := h4 j hj
        have hlt : j < cur.size := (Array.getElem?_eq_some_iff.1 this).1
        simp [hlt]
      · simp only [if_neg (Ne.symm c1), if_neg c1]; exact h4 j hj
  · by_cases c1 : j = t
    · subst c1
      show RowP _ (if j = j then r else R j) (if j = j then c else C j) _
      rw [if_pos rfl, if_pos rfl]
      exact (hr.kept hs (fun e => hM (Option.some.inj e))).congr h1
    · simp only [if_neg c1]
      exact ((H'.rows j hj).kept hs (fun e => H'.ne j hj (Option.some.inj e))).congr (h2 j hj c1)
  · have old : ∀ k, k < N → R k < w.heap.size := fun k hk => (H.rows k hk).lt
    change (if i = t then r else R i) = (if j = t then r else R j) at e
    by_cases c1 : i = t <;> by_cases c2 : j = t
    · omega
    · rw [if_pos c1, if_neg c2] at e; have := old j hj; omega
    · rw [if_neg c1, if_pos c2] at e; have := old i hi; omega
    · rw [if_neg c1, if_neg c2] at e; exact H.inj i j hi hj e
  · show B ≤ if j = t then r else R j
    by_cases c1 : j = t
    · rw [if_pos c1]; omega
    · rw [if_neg c1]; exact H.lo j hj
end

theorem blk_ne {w : World} {a b : Nat} {c1 c2 : Array Value} {t1 t2 : TypeId} {f1 f2 : Nat × Nat} (h1 : w.heap[a]? = some (.cells c1 t1 f1)) (h2 : w.heap[b]? = some (.cells c2 t2 f2)) (hne : t1 ≠ t2) : a ≠ b := by
  rintro rfl
  rw [h1] at h2
  injection h2 with h2
  injection h2 with _ h3
  exact hne h3
theorem RowP.ne_blk {w : World} {r c b : Nat} {f : Nat → Nat} {cs : Array Value} {t : TypeId} {fr : Nat × Nat} (h : RowP w r c f) (h2 : w.heap[b]? = some (.cells cs t fr)) (hne : 5 ≠ t) : r ≠ b := by
  obtain ⟨cur, h1, _⟩ := h
  exact blk_ne h1 h2 hne
theorem Mdl.ne_blk {w : World} {B M N : Nat} {F R C : Nat → Nat} {b : Nat} {cs : Array Value} {t : TypeId} {fr : Nat × Nat} (H : Mdl w B M N F R C) (hN : 0 < N) (h2 : w.heap[b]? = some (.cells cs t fr)) (hne : 27 ≠ t) : M ≠ b := by
  obtain ⟨cur, h1, _⟩ := H.mrow hN
  exact blk_ne h1 h2 hne
theorem RowP.da {w : World} {r c : Nat} {f : Nat → Nat} (h : RowP w r c f) (o : Obj) : RowP (w.drew.alloc o) r c f := RowP.kept (w := w.drew) h (World.grownBy_alloc w.drew o none) (by simp)
theorem RowP.dr {w : World} {r c : Nat} {f : Nat → Nat} (h : RowP w r c f) : RowP w.drew r c f := h
theorem put_same (F p : Nat → Nat) (t k c b : Nat) (hb : b = t * 256 + k) (i : Nat) : putF (fun i => F (256 * t + i)) k c p i = putF F b c p (256 * t + i) := by
  subst hb
  unfold putF
  by_cases h : k ≤ i ∧ i < k + c
  · rw [if_pos h, if_pos (by omega)]; congr 1; omega
  · rw [if_neg h, if_neg (by omega)]
theorem put_other (F p : Nat → Nat) (t k c b : Nat) (hb : b = t * 256 + k) (hk : k + c ≤ 256) (j i : Nat) (hj : j ≠ t) (hi : i < 256) : F (256 * j + i) = putF F b c p (256 * j + i) := by
  subst hb
  unfold putF
  rw [if_neg (by omega)]

/-- append([]byte(nil), s...) as one step of a region that draws its order: a new row of these bytes. -/
theorem step_app8 {ops : Array Oper} {o : Oper} {a : Act} {w : World} {K : Act → World → Prop} {Q : Exit → Act → World → Prop} {E : Prop} (hgd : o.guard = none) (s x : Operand)
    (ho : o.op = .call { callee := .builtin .append, args := #[s, x], argTypes := #[27, 27] }) (hs : a.eval s = .slice none 0 0)
    (A : Option Addr) (c : Nat) (p : Nat → Nat) (hx : a.eval x = .slice A 256 c) (hb : BytesAt w A 256 p)
    (h : ∀ r c' w', RowP w' r c' p → w.heap.size ≤ r → w.grownBy w' none → K (a.put o.dst (.slice (some ⟨r, 0, none⟩) 256 c')) w') :
    if Region.wanted o (yielded ops a.tmps) = true then Oper.wp Try.prog o a w K Q else E := by
  have hw : Region.wanted o (yielded ops a.tmps) = true := by simp [Region.wanted, hgd]
  rw [if_pos hw]
  have hu : Try.prog.underlying 27 = some (.slice 5) := by kernel_rfl
  have hi : (Try.prog.info? 5).map (fun i => (i.zero, i.size, i.bytes)) = some (some (.int .u8 0), 1, 1) := by kernel_rfl
  obtain ⟨i, hi, hz, h1, h2⟩ := info_parts hi
  obtain ⟨b, off, rfl, _⟩ := hb 0 (by decide)
  have hsrc : ∀ j u, (rowV p 256)[j]? = some u → w.cell? ((⟨b, off, none⟩ : Addr).add j) = some u := by
    intro j u hj
    obtain ⟨hjm, rfl⟩ := rowV_some hj
    obtain ⟨b', off', e, hc⟩ := hb j hjm
    injection e with e
    injection e with e1 e2
    subst e1 e2
    rw [← hc]
    congr 1
    unfold Addr.add
    split <;> simp_all
  obtain ⟨v', w', hrun, h3, h4, _, h5⟩ := run_append_own_at (P := Try.prog) w w.heap.size 27 o.type 5 i (.int .u8 0) 1 1 hu hi hz h1 h2 rfl (by omega) (.slice none 0 0) 0 [] (World.ownsRow_nil _ _ _ _) ⟨b, off, none⟩ 256 c (rowV p 256) (by rw [rowV_length]) hsrc (rowV_one p 256) (by unfold maxLen; omega) (by omega) (Nat.le_refl _)
  rw [Nat.zero_add, List.nil_append] at h3
  obtain ⟨r, c', rfl, h6, h7⟩ := RowP.of_own h3
  unfold Oper.wp execOp
  simp only [ho, resolve, invoke, builtin, Sem.run_bind, Sem.run_pure, Result.andThen_ok, List.map_toArray, List.map_cons, List.map_nil, hs, hx, hrun]
  exact h r c' w' h7 h6 h4
end Go.Proofs.Ythgopodjplpefaa
