/-
  The law's some: two memories, page by page.
-/
import Derived.Test.YtpbjfjedgcabhaaDoorZL
import Derived.Deep.RegionLaw
namespace Go.Proofs.YtpbjfjedgcabhaaDoor
open Go.ChangeShapes Go.WideShapes Go.ChangeAt Go.RowKit
open WM CM
set_option maxRecDepth 100000
set_option linter.unusedVariables false

def bitB (x i : Nat) : Bool := decide (x / 2 ^ i % 2 = 1)
def padF (fp : Nat → Nat) (n j : Nat) : Nat := if j < n then fp j else 0
theorem padF_lt {fp : Nat → Nat} (h : ∀ i, fp i < 256) (n j : Nat) : padF fp n j < 256 := by
  unfold padF; split
  · exact h j
  · omega
def svM (here write np nq : Nat) (fp fq : Nat → Nat) (k : Nat) : MV :=
  { he := fun i => decide (i < k) && bitB here i, wr := fun i => decide (i < k) && (bitB here i && bitB write i), bt := fun i j => if i % 2 = 0 then padF fp np j else padF fq nq j }

/-! ### a page -/
structure Pg (w : World) (b : Nat) (f : Nat → Nat) : Prop where
  lt : b < w.heap.size
  c : ∀ j, j < 256 → w.cell? ⟨b, j, none⟩ = some (.int .u8 (f j : Nat))
  fz : ∀ j, w.frozen? ⟨b, j, none⟩ = false
theorem Pg.of_block {w w' : World} {b : Nat} {f : Nat → Nat} (h : Pg w b f) (hs : w.heap.size ≤ w'.heap.size) (hb : w'.heap[b]? = w.heap[b]?) : Pg w' b f :=
  ⟨Nat.lt_of_lt_of_le h.lt hs, fun j hj => (World.cell?_of_block (a := ⟨b, j, none⟩) hb).trans (h.c j hj), fun j => (World.frozen?_of_block (a := ⟨b, j, none⟩) hb).trans (h.fz j)⟩
theorem Pg.kept {w w' : World} {b : Nat} {f : Nat → Nat} {row : Option Nat} (h : Pg w b f) (hg : w.grownBy w' row) (hr : some b ≠ row) : Pg w' b f := h.of_block hg.size (hg.block b h.lt hr)
theorem Row.pg {w : World} {g : Nat} {f f' : Nat → Nat} (h : Row w g f 256) (he : ∀ j, j < 256 → f j = f' j) : Pg w g f' := ⟨h.lt, fun j hj => by rw [h.cell j hj, he j hj], fun j => h.frozen j⟩
theorem Mm.page {w : World} {L : Ly} {m : MV} (h : Mm w L m) (i : Nat) (hi : i < 32) (hh : m.he i = true) : Pg w (L.bk i) (m.bt i) := ⟨h.bl i hi hh, h.bt i hi hh, h.fz i hi hh⟩

/-! ### the two blocks of pages, cell by cell, as they turn -/
structure SJ (W : World) (M1 M2 : Nat) (c1 c2 : Nat → Value) (W' : World) : Prop where
  sz : W.heap.size ≤ W'.heap.size
  k1 : ∀ i, i < 64 → W'.cell? ⟨M1, i, none⟩ = some (c1 i)
  k2 : ∀ i, i < 64 → W'.cell? ⟨M2, i, none⟩ = some (c2 i)
  f1 : ∀ i, W'.frozen? ⟨M1, i, none⟩ = false
  f2 : ∀ i, W'.frozen? ⟨M2, i, none⟩ = false
  l1 : M1 < W.heap.size
  l2 : M2 < W.heap.size
  oth : ∀ i, i < W.heap.size → i ≠ M1 → i ≠ M2 → W'.heap[i]? = W.heap[i]?
  os : W'.os = W.os
  tape : W'.tape = W.tape
  output : W'.output = W.output
def upd (c : Nat → Value) (i : Nat) (v : Value) : Nat → Value := fun j => if j = i then v else c j
theorem SJ.kept {W W' W2 : World} {M1 M2 : Nat} {c1 c2 : Nat → Value} {row : Option Nat} (h : SJ W M1 M2 c1 c2 W') (hg : W'.grownBy W2 row) (hr : ∀ g, row = some g → W.heap.size ≤ g) : SJ W M1 M2 c1 c2 W2 := by
  have hn : ∀ i, i < W.heap.size → W2.heap[i]? = W'.heap[i]? := fun i hi => hg.block i (Nat.lt_of_lt_of_le hi h.sz) (by intro e; have := hr i e.symm; omega)
  exact ⟨Nat.le_trans h.sz hg.size, fun i hi => (World.cell?_of_block (a := ⟨M1, i, none⟩) (hn M1 h.l1)).trans (h.k1 i hi), fun i hi => (World.cell?_of_block (a := ⟨M2, i, none⟩) (hn M2 h.l2)).trans (h.k2 i hi),
    fun i => (World.frozen?_of_block (a := ⟨M1, i, none⟩) (hn M1 h.l1)).trans (h.f1 i), fun i => (World.frozen?_of_block (a := ⟨M2, i, none⟩) (hn M2 h.l2)).trans (h.f2 i), h.l1, h.l2,
    fun i hi h1 h2 => (hn i hi).trans (h.oth i hi h1 h2), hg.os.trans h.os, hg.tape.trans h.tape, hg.output.trans h.output⟩
theorem SJ.set1 {W W' : World} {M1 M2 : Nat} {c1 c2 : Nat → Value} (h : SJ W M1 M2 c1 c2 W') (hne : M1 ≠ M2) (i : Nat) (hi : i < 64) (v : Value) : SJ W M1 M2 (upd c1 i v) c2 (W'.setCell ⟨M1, i, none⟩ v) := by
  have hn : ∀ b, b ≠ M1 → (W'.setCell ⟨M1, i, none⟩ v).heap[b]? = W'.heap[b]? := fun b hb => Below.heap_setCell W' ⟨M1, i, none⟩ v b (by simp; exact hb)
  refine ⟨by simpa [World.setCell] using h.sz, fun j hj => ?_, fun j hj => (World.cell?_of_block (a := ⟨M2, j, none⟩) (hn M2 (Ne.symm hne))).trans (h.k2 j hj), fun j => by rw [World.frozen?_setCell]; exact h.f1 j, fun j => by rw [World.frozen?_setCell]; exact h.f2 j, h.l1, h.l2,
    fun b hb h1 h2 => (hn b h1).trans (h.oth b hb h1 h2), h.os, h.tape, h.output⟩
  unfold upd
  by_cases e : j = i
  · subst e
    rw [if_pos rfl]
    exact World.cell?_setCell_same' W' _ _ (by rw [h.k1 j hj]; rfl)
  · rw [if_neg e, World.cell?_setCell_other _ _ _ _ (by simp <;> omega)]
    exact h.k1 j hj
theorem SJ.set2 {W W' : World} {M1 M2 : Nat} {c1 c2 : Nat → Value} (h : SJ W M1 M2 c1 c2 W') (hne : M1 ≠ M2) (i : Nat) (hi : i < 64) (v : Value) : SJ W M1 M2 c1 (upd c2 i v) (W'.setCell ⟨M2, i, none⟩ v) := by
  have hn : ∀ b, b ≠ M2 → (W'.setCell ⟨M2, i, none⟩ v).heap[b]? = W'.heap[b]? := fun b hb => Below.heap_setCell W' ⟨M2, i, none⟩ v b (by simp; exact hb)
  refine ⟨by simpa [World.setCell] using h.sz, fun j hj => (World.cell?_of_block (a := ⟨M1, j, none⟩) (hn M1 hne)).trans (h.k1 j hj), fun j hj => ?_, fun j => by rw [World.frozen?_setCell]; exact h.f1 j, fun j => by rw [World.frozen?_setCell]; exact h.f2 j, h.l1, h.l2,
    fun b hb h1 h2 => (hn b h2).trans (h.oth b hb h1 h2), h.os, h.tape, h.output⟩
  unfold upd
  by_cases e : j = i
  · subst e
    rw [if_pos rfl]
    exact World.cell?_setCell_same' W' _ _ (by rw [h.k2 j hj]; rfl)
  · rw [if_neg e, World.cell?_setCell_other _ _ _ _ (by simp <;> omega)]
    exact h.k2 j hj
/-- The cells of a block of pages. -/
def memC (L : Ly) (m : MV) (i : Nat) : Value := if i < 32 then pgV L m i else .bool (m.wr (i - 32))
/-- A layout with one page more. -/
def addL (L : Ly) (k g c : Nat) : Ly := ⟨L.M, fun i => if i = k then g else L.bk i, fun i => if i = k then c else L.cp i⟩
/-- Both memories, as the loop has them. -/
structure SI (w w' : World) (L1 L2 : Ly) (m : MV) : Prop where
  m1 : Mm w' L1 m
  m2 : Mm w' L2 m
  f1 : ∀ i, w'.frozen? ⟨L1.M, i, none⟩ = false
  f2 : ∀ i, w'.frozen? ⟨L2.M, i, none⟩ = false
  e1 : L1.M = w.heap.size
  e2 : L2.M = w.heap.size + 1
  b1 : ∀ i, i < 32 → m.he i = true → w.heap.size + 2 ≤ L1.bk i
  b2 : ∀ i, i < 32 → m.he i = true → w.heap.size + 2 ≤ L2.bk i
  ap : ∀ i j, i < 32 → j < 32 → m.he i = true → m.he j = true → L1.bk i ≠ L2.bk j
  bel : Below w.heap.size w w'
theorem SI.drewN {w w' : World} {L1 L2 : Ly} {m : MV} (h : SI w w' L1 L2 m) (n : Nat) : SI w (w'.drewN n) L1 L2 m := ⟨h.m1.drewN n, h.m2.drewN n, h.f1, h.f2, h.e1, h.e2, h.b1, h.b2, h.ap, below_draws h.bel n⟩
theorem SI.sj {w W : World} {L1 L2 : Ly} {m : MV} (h : SI w W L1 L2 m) : SJ W L1.M L2.M (memC L1 m) (memC L2 m) W := by
  refine ⟨Nat.le_refl _, fun i hi => ?_, fun i hi => ?_, h.f1, h.f2, h.m1.lt, h.m2.lt, fun _ _ _ _ => rfl, rfl, rfl, rfl⟩
  · unfold memC
    by_cases h32 : i < 32
    · rw [if_pos h32]; exact h.m1.pg i h32
    · rw [if_neg h32]
      have := h.m1.wr (i - 32) (by omega)
      rwa [show 32 + (i - 32) = i by omega] at this
  · unfold memC
    by_cases h32 : i < 32
    · rw [if_pos h32]; exact h.m2.pg i h32
    · rw [if_neg h32]
      have := h.m2.wr (i - 32) (by omega)
      rwa [show 32 + (i - 32) = i by omega] at this
/-- One memory with a page more. -/
theorem Mm.add {W W' : World} {L : Ly} {m m' : MV} (h : Mm W L m) (k g c : Nat) (hk : k < 32) (hg : W.heap.size ≤ g) (hc : 256 ≤ c) (hp : Pg W' g (m'.bt k)) (hsz : W.heap.size ≤ W'.heap.size)
    (hhe : ∀ i, i < 32 → m'.he i = (decide (i = k) || m.he i)) (hbt : ∀ i, i < 32 → i ≠ k → m'.bt i = m.bt i) (hu : ∀ i j, m'.bt i j < 256)
    (hpg : ∀ i, i < 32 → W'.cell? ⟨L.M, i, none⟩ = some (pgV (addL L k g c) m' i)) (hwr : ∀ i, i < 32 → W'.cell? ⟨L.M, 32 + i, none⟩ = some (.bool (m'.wr i)))
    (hoth : ∀ i, i < 32 → m.he i = true → W'.heap[L.bk i]? = W.heap[L.bk i]?) : Mm W' (addL L k g c) m' := by
  have hl := h.lt
  have hold : ∀ i, i < 32 → i ≠ k → m'.he i = true → m.he i = true := fun i hi hne hh => by rw [hhe i hi] at hh; simpa [hne] using hh
  have hpage : ∀ i, i < 32 → m'.he i = true → Pg W' ((addL L k g c).bk i) (m'.bt i) := by
    intro i hi hh
    by_cases e : i = k
    · subst e; show Pg W' (if i = i then g else L.bk i) _; rw [if_pos rfl]; exact hp
    · show Pg W' (if i = k then g else L.bk i) _
      rw [if_neg e, hbt i hi e]
      exact (h.page i hi (hold i hi e hh)).of_block hsz (hoth i hi (hold i hi e hh))
  refine ⟨Nat.lt_of_lt_of_le h.lt hsz, hpg, hwr, fun i hi hh => (hpage i hi hh).lt, fun i hi hh => (hpage i hi hh).c, fun i hi hh => (hpage i hi hh).fz, fun i hi hh => ?_, fun i hi hh => ?_, fun i j hi hj hhi hhj e => ?_, hu⟩
  · show 256 ≤ (if i = k then c else L.cp i)
    by_cases e : i = k
    · rw [if_pos e]; exact hc
    · rw [if_neg e]; exact h.cp i hi (hold i hi e hh)
  · show (if i = k then g else L.bk i) ≠ L.M
    by_cases e : i = k
    · rw [if_pos e]; omega
    · rw [if_neg e]; exact h.ap i hi (hold i hi e hh)
  · have e' : (if i = k then g else L.bk i) = (if j = k then g else L.bk j) := e
    by_cases ei : i = k
    · by_cases ej : j = k
      · omega
      · rw [if_pos ei, if_neg ej] at e'
        have := h.bl j hj (hold j hj ej hhj); omega
    · by_cases ej : j = k
      · rw [if_neg ei, if_pos ej] at e'
        have := h.bl i hi (hold i hi ei hhi); omega
      · rw [if_neg ei, if_neg ej] at e'
        exact h.di i j hi hj (hold i hi ei hhi) (hold j hj ej hhj) e'
theorem SI.next {w W W' : World} {L1 L2 : Ly} {hr wt np nq k : Nat} {fp fq : Nat → Nat} (h : SI w W L1 L2 (svM hr wt np nq fp fq k)) (hk : k < 32) (hb : bitB hr k = true) (hfp : ∀ i, fp i < 256) (hfq : ∀ i, fq i < 256) (g1 g2 c2 : Nat)
    (hg1 : W.heap.size ≤ g1) (hg2 : W.heap.size ≤ g2) (hne : g1 ≠ g2) (hc2 : 256 ≤ c2)
    (j : SJ W L1.M L2.M (upd (upd (memC L1 (svM hr wt np nq fp fq k)) k (.slice (some ⟨g1, 0, none⟩) 256 256)) (32 + k) (.bool (bitB wt k))) (upd (upd (memC L2 (svM hr wt np nq fp fq k)) k (.slice (some ⟨g2, 0, none⟩) 256 c2)) (32 + k) (.bool (bitB wt k))) W')
    (p1 : Pg W' g1 ((svM hr wt np nq fp fq (k + 1)).bt k)) (p2 : Pg W' g2 ((svM hr wt np nq fp fq (k + 1)).bt k)) : SI w W' (addL L1 k g1 256) (addL L2 k g2 c2) (svM hr wt np nq fp fq (k + 1)) := by
  have hu : ∀ i j, (svM hr wt np nq fp fq (k + 1)).bt i j < 256 := by
    intro i j
    show (if i % 2 = 0 then padF fp np j else padF fq nq j) < 256
    split
    · exact padF_lt hfp _ _
    · exact padF_lt hfq _ _
  have hhe : ∀ i, i < 32 → (svM hr wt np nq fp fq (k + 1)).he i = (decide (i = k) || (svM hr wt np nq fp fq k).he i) := by
    intro i _
    show (decide (i < k + 1) && bitB hr i) = (decide (i = k) || (decide (i < k) && bitB hr i))
    by_cases e : i = k
    · subst e; simp [hb]
    · have : (i < k + 1) ↔ (i < k) := by omega
      simp [e, this]
  have hw : ∀ i, i ≠ k → (svM hr wt np nq fp fq (k + 1)).wr i = (svM hr wt np nq fp fq k).wr i := by
    intro i e
    show (decide (i < k + 1) && (bitB hr i && bitB wt i)) = (decide (i < k) && (bitB hr i && bitB wt i))
    have : (i < k + 1) ↔ (i < k) := by omega
    simp [this]
  have hwk : (svM hr wt np nq fp fq (k + 1)).wr k = bitB wt k := by
    show (decide (k < k + 1) && (bitB hr k && bitB wt k)) = bitB wt k
    simp [hb]
  have hpv : ∀ (L : Ly) (g c i : Nat), i < 32 → upd (upd (memC L (svM hr wt np nq fp fq k)) k (.slice (some ⟨g, 0, none⟩) 256 c)) (32 + k) (.bool (bitB wt k)) i = pgV (addL L k g c) (svM hr wt np nq fp fq (k + 1)) i := by
    intro L g c i hi
    unfold upd
    rw [if_neg (by omega)]
    unfold pgV
    rw [hhe i hi]
    show _ = (if (decide (i = k) || (svM hr wt np nq fp fq k).he i) = true then Value.slice (some ⟨(if i = k then g else L.bk i), 0, none⟩) 256 (if i = k then c else L.cp i) else .slice none 0 0)
    by_cases e : i = k
    · simp [e]
    · rw [if_neg e]
      unfold memC pgV
      rw [if_pos hi]
      simp [e]
  have hwv : ∀ (L : Ly) (g c i : Nat), i < 32 → upd (upd (memC L (svM hr wt np nq fp fq k)) k (.slice (some ⟨g, 0, none⟩) 256 c)) (32 + k) (.bool (bitB wt k)) (32 + i) = .bool ((svM hr wt np nq fp fq (k + 1)).wr i) := by
    intro L g c i hi
    unfold upd
    by_cases e : i = k
    · subst e; rw [if_pos rfl, hwk]
    · rw [if_neg (by omega), if_neg (by omega), hw i e]
      unfold memC
      rw [if_neg (by omega), show 32 + i - 32 = i by omega]
  have ho1 : ∀ i, i < 32 → (svM hr wt np nq fp fq k).he i = true → W'.heap[L1.bk i]? = W.heap[L1.bk i]? := fun i hi hh => by
    have a1 := h.b1 i hi hh
    have e1 := h.e1
    have e2 := h.e2
    exact j.oth _ (h.m1.bl i hi hh) (by omega) (by omega)
  have ho2 : ∀ i, i < 32 → (svM hr wt np nq fp fq k).he i = true → W'.heap[L2.bk i]? = W.heap[L2.bk i]? := fun i hi hh => by
    have a1 := h.b2 i hi hh
    have e1 := h.e1
    have e2 := h.e2
    exact j.oth _ (h.m2.bl i hi hh) (by omega) (by omega)
  have hold : ∀ i, i < 32 → i ≠ k → (svM hr wt np nq fp fq (k + 1)).he i = true → (svM hr wt np nq fp fq k).he i = true := fun i hi hne hh => by rw [hhe i hi] at hh; simpa [hne] using hh
  have hsw := h.bel.size
  have hl1 := h.m1.lt
  have hl2 := h.m2.lt
  have e1 := h.e1
  have e2 := h.e2
  refine ⟨h.m1.add k g1 256 hk hg1 (by omega) p1 j.sz hhe (fun i _ _ => rfl) hu (fun i hi => by rw [j.k1 i (by omega), hpv L1 g1 256 i hi]) (fun i hi => by rw [j.k1 _ (by omega), hwv L1 g1 256 i hi]) ho1,
    h.m2.add k g2 c2 hk hg2 hc2 p2 j.sz hhe (fun i _ _ => rfl) hu (fun i hi => by rw [j.k2 i (by omega), hpv L2 g2 c2 i hi]) (fun i hi => by rw [j.k2 _ (by omega), hwv L2 g2 c2 i hi]) ho2, j.f1, j.f2, h.e1, h.e2, fun i hi hh => ?_, fun i hi hh => ?_, fun i i' hi hi' hh hh' => ?_, ?_⟩
  · show w.heap.size + 2 ≤ (if i = k then g1 else L1.bk i)
    by_cases e : i = k
    · rw [if_pos e]; omega
    · rw [if_neg e]; exact h.b1 i hi (hold i hi e hh)
  · show w.heap.size + 2 ≤ (if i = k then g2 else L2.bk i)
    by_cases e : i = k
    · rw [if_pos e]; omega
    · rw [if_neg e]; exact h.b2 i hi (hold i hi e hh)
  · show (if i = k then g1 else L1.bk i) ≠ (if i' = k then g2 else L2.bk i')
    by_cases e : i = k
    · rw [if_pos e]
      by_cases e' : i' = k
      · rw [if_pos e']; exact hne
      · rw [if_neg e']
        have := h.m2.bl i' hi' (hold i' hi' e' hh'); omega
    · rw [if_neg e]
      by_cases e' : i' = k
      · rw [if_pos e']
        have := h.m1.bl i hi (hold i hi e hh); omega
      · rw [if_neg e']
        exact h.ap i i' hi hi' (hold i hi e hh) (hold i' hi' e' hh')
  · refine ⟨j.os.trans h.bel.os, j.tape.trans h.bel.tape, j.output.trans h.bel.output, Nat.le_trans hsw j.sz, fun i hi => ?_⟩
    rw [j.oth i (by omega) (by omega) (by omega)]
    exact h.bel.block i hi
theorem SI.skip {w W : World} {L1 L2 : Ly} {hr wt np nq k : Nat} {fp fq : Nat → Nat} (h : SI w W L1 L2 (svM hr wt np nq fp fq k)) (hb : bitB hr k = false) : SI w W L1 L2 (svM hr wt np nq fp fq (k + 1)) := by
  have e : svM hr wt np nq fp fq (k + 1) = svM hr wt np nq fp fq k := by
    unfold svM
    congr 1
    · funext i
      by_cases e : i = k
      · subst e; simp [hb]
      · have : (i < k + 1) ↔ (i < k) := by omega
        simp [this]
    · funext i
      by_cases e : i = k
      · subst e; simp [hb]
      · have : (i < k + 1) ↔ (i < k) := by omega
        simp [this]
  rw [e]; exact h
end Go.Proofs.YtpbjfjedgcabhaaDoor
