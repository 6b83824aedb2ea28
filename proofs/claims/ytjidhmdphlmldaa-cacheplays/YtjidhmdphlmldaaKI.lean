/-
  CachePlays: what stands in its loops.
-/
import Derived.Test.YtjidhmdphlmldaaKH
namespace Go.Proofs.Ytjidhmdphlmldaa
open Go.ChangeShapes Go.WideShapes Go.ChangeAt Go.RowKit
set_option maxRecDepth 100000

/-- The acts that came in. -/
def ActsAt (w : World) (a : Option Addr) (len : Nat) : Prop :=
  ∀ i, i < len → ∃ b off, a = some ⟨b, off, none⟩ ∧ b < w.heap.size ∧ ∃ (K : Nat) (VM : Nat) (Page : Nat) (Frame : Int) (W : Bool), w.cell? ⟨b, off + i * 5 + 0, none⟩ = some (.int .u8 K) ∧ w.cell? ⟨b, off + i * 5 + 1, none⟩ = some (.int .u8 VM) ∧ w.cell? ⟨b, off + i * 5 + 2, none⟩ = some (.int .u8 Page) ∧ w.cell? ⟨b, off + i * 5 + 3, none⟩ = some (.int .i64 Frame) ∧ w.cell? ⟨b, off + i * 5 + 4, none⟩ = some (.bool W) ∧ K < 256 ∧ VM < 256 ∧ Page < 256
theorem take_kept {d : R5 → Bool} {L : List R5} {i : Nat} {r : R5} (hr : L[i]? = some r) (hd : d r = true) : (L.take i).filter d ++ [r] = (L.take (i + 1)).filter d := by
  rw [take_succ' L i r hr, List.filter_append]; simp [hd]
theorem take_gone {d : R5 → Bool} {L : List R5} {i : Nat} {r : R5} (hr : L[i]? = some r) (hd : d r = false) : (L.take i).filter d = (L.take (i + 1)).filter d := by
  rw [take_succ' L i r hr, List.filter_append]; simp [hd]
theorem keep_le {K : Nat} (hK : K ≤ 4) {vm pg : Int} {r : R5} {b : Bool} (h : hitK vm pg r = b) : keepB K vm pg r = !b := by unfold keepB; rw [if_pos hK, h]
theorem keep_5 {K : Nat} (hK : K = 5) {vm pg : Int} {r : R5} : keepB K vm pg r = !decide (r.vm = vm) := by unfold keepB; rw [if_neg (by omega), if_pos hK]
theorem keep_6 {K : Nat} (hK : K = 6) {vm pg : Int} {r : R5} : keepB K vm pg r = false := by unfold keepB; rw [if_neg (by omega), if_neg (by omega)]
theorem PI.far {w U V : World} {C : Nat} {lv nx v : Value} {L F : List R5} (HP : PI w U C lv L) (N : NX U V nx F) (hv : Ca U w.heap.size C v L) : ∀ g, nx.ownBlock = some g → w.heap.size ≤ g ∧ g < V.heap.size ∧ g ≠ C ∧ v.ownBlock ≠ some g := by
  intro g hg
  have h1 := N.own.lt g hg
  have h2 := hv.lt
  have h3 := HP.be.size
  refine ⟨by omega, h1.2, by omega, fun e => ?_⟩
  have := (hv.row_lt g e).2
  omega
/-- A call that turns the cache's rows, as the list was turned. -/
theorem PI.turn {w U V W : World} {C : Nat} {lv nx v : Value} {L F L' : List R5} {e : Ending} (HP : PI w U C lv L) (N : NX U V nx F) (hv : Ca U w.heap.size C v L) (hd : Cd V w.heap.size C v L' e W) (uq : Uq L') (hF : F = L') : PI w W C nx L' := by
  subst hF
  have hf := HP.far N hv
  have hvV := hv.below N.be
  obtain ⟨_, v', h1, h2⟩ := hd
  refine ⟨⟨v', h1, fun g hg => h2.apart (hf g hg).2.1 (hf g hg).2.2.2⟩, h2.under hvV (below_up HP.be N.be), ?_, fun g hg => (hf g hg).2.2.1, uq⟩
  exact (RowsAt.of_owns N.own).same (fun g hg => h2.block g (hf g hg).2.1 (hf g hg).2.2.1 (hf g hg).2.2.2) h2.size
/-- Behind a Put, ahead of the list's own append. -/
structure AP (w W : World) (C : Nat) (nx v2 : Value) (L' : List R5) : Prop where
  ca : Ca W w.heap.size C v2 L'
  be : Below w.heap.size w W
  far : ∀ g, nx.ownBlock = some g → w.heap.size ≤ g ∧ g < W.heap.size ∧ g ≠ C ∧ v2.ownBlock ≠ some g
theorem PI.put {w U V W : World} {C X : Nat} {lv nx v a b c : Value} {L F L' : List R5} {e : Ending} (HP : PI w U C lv L) (N : NX U V nx F) (hv : Ca U w.heap.size C v L) (hd : Cd V w.heap.size C v L' e W) (hx : L3 U X a b c) (hXC : X ≠ C) (hXv : v.ownBlock ≠ some X) :
    ∃ v2, AP w W C nx v2 L' ∧ W.ownsRow U.heap.size 34 5 nx F.length (rowL F) ∧ L3 W X a b c ∧ U.heap.size ≤ W.heap.size := by
  have hf := HP.far N hv
  have hvV := hv.below N.be
  obtain ⟨_, v', h1, h2⟩ := hd
  have hb : ∀ g, nx.ownBlock = some g → W.heap[g]? = V.heap[g]? := fun g hg => h2.block g (hf g hg).2.1 (hf g hg).2.2.1 (hf g hg).2.2.2
  refine ⟨v', ⟨h1, h2.under hvV (below_up HP.be N.be), fun g hg => ⟨(hf g hg).1, Nat.lt_of_lt_of_le (hf g hg).2.1 h2.size, (hf g hg).2.2.1, h2.apart (hf g hg).2.1 (hf g hg).2.2.2⟩⟩, ?_, (hx.later N.be).tc h2 hXC hXv, Nat.le_trans N.be.size h2.size⟩
  obtain ⟨o1, o2⟩ := N.own
  refine ⟨o1, o2.imp id ?_⟩
  rintro ⟨g, cap, cur, rfl, q1, q2, q3⟩
  exact ⟨g, cap, cur, rfl, q1, by rw [hb g rfl]; exact q2, q3⟩
theorem AP.done {w W W3 : World} {C : Nat} {nx nv v2 : Value} {L' : List R5} (h : AP w W C nx v2 L') (o : Obj) (hg : (W.alloc o).grownBy W3 nx.ownBlock) (rows : RowsAt W3 nv L') (hb : ∀ b, nv.ownBlock = some b → nx.ownBlock = some b ∨ (W.alloc o).heap.size ≤ b) (uq : Uq L') : PI w W3 C nv L' := by
  have b1 := below_new W o
  have c1 := h.ca.below b1
  have be1 := below_up h.be b1
  refine ⟨⟨v2, c1.kept hg (fun e => (h.far C e.symm).2.2.1 rfl) ?_, fun g hgv => ?_⟩, below_own be1 hg (fun g hgx => (h.far g hgx).1), rows, fun g hgv => ?_, uq⟩
  · cases hv : v2.ownBlock with
    | none => exact .inl rfl
    | some k => exact .inr (fun e => (h.far k e.symm).2.2.2 hv)
  · rcases hb g hgv with e | e
    · exact (h.far g e).2.2.2
    · intro e'; have := (c1.row_lt g e').2; omega
  · rcases hb g hgv with e | e
    · exact (h.far g e).2.2.1
    · have := c1.lt; omega
theorem nx_base {U wr : World} {nv : Value} {m : List R5} (H : NX U wr nv m) (o : Obj) : U.heap.size ≤ (wr.alloc o).heap.size := Nat.le_trans H.be.size (below_new wr o).size
/-! ### what Look answers, part by part -/
def oT : Option R5 → Bool
  | some r => r.th
  | none => false
def oF : Option R5 → Int
  | some r => r.fr
  | none => 0
def oW : Option R5 → Bool
  | some r => r.wr
  | none => false
theorem lkA_eq (o : Option R5) : lkA o = .tuple #[.agg #[.bool (oT o), .int .i64 (oF o), .bool (oW o)], .bool o.isSome] := by cases o <;> rfl
end Go.Proofs.Ytjidhmdphlmldaa
