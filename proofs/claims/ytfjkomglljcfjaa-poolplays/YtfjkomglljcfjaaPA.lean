/-
  Memory of package pool: rows of numbers and of truths in blocks; which blocks a call turns. And contracts of the heap's own small calls.
-/
import Derived.Test.YtfjkomglljcfjaaRows
import Derived.Test.YtfjkomglljcfjaaPM
import Derived.Test.YtfjkomglljcfjaaLT
import Derived.WalkKit
import Derived.ProofKit
import Derived.OpenShut
import Derived.Outline
import Derived.WalkLawsBesides
import Derived.Deep.QuietTactic
import Derived.BigQuiet
import Derived.BigRegion
import Derived.RegionTactic
import Derived.Deep.RegionLaw
import Derived.Deep.AppendLies
import Derived.Maps.AppendAt
import Derived.Laws.CopyOwn
import Derived.Laws.MakeOwn
import Derived.Laws.OwnMore
import Derived.Lib.Hide
namespace Go.Proofs.Ytfjkomglljcfjaa
open Go.ChangeShapes Go.WideShapes Go.ChangeAt Go.RowKit
open PM
set_option maxRecDepth 100000

theorem ret_int {k : IntKind} {a b : Int} (h : a = b) : Ending.returned (.int k a) = .returned (.int k b) := by rw [h]
theorem of_u8 {a : Int} (h : (Lit.int .u8 a).wf = true) : ∃ n : Nat, a = n ∧ n < 256 := by
  simp only [Lit.wf, IntKind.min, IntKind.max, IntKind.signed, IntKind.bits, Bool.and_eq_true] at h
  simp at h
  exact ⟨a.toNat, by omega, by omega⟩
theorem of_i64 {a : Int} (h : (Lit.int .i64 a).wf = true) : -9223372036854775808 ≤ a ∧ a ≤ 9223372036854775807 := by
  simp only [Lit.wf, IntKind.min, IntKind.max, IntKind.signed, IntKind.bits, Bool.and_eq_true, decide_eq_true_eq] at h
  simp at h
  omega

/-- What a call turns: blocks of S alone; what is new lies behind. -/
structure Ch (S : Nat → Prop) (w w' : World) : Prop where
  os : w'.os = w.os
  tape : w'.tape = w.tape
  output : w'.output = w.output
  size : w.heap.size ≤ w'.heap.size
  block : ∀ k, k < w.heap.size → ¬ S k → w'.heap[k]? = w.heap[k]?
theorem Ch.refl (S : Nat → Prop) (w : World) : Ch S w w := ⟨rfl, rfl, rfl, Nat.le_refl _, fun _ _ _ => rfl⟩
theorem Ch.trans {S T : Nat → Prop} {a b c : World} (h : Ch S a b) (k : Ch T b c) (hT : ∀ x, x < a.heap.size → ¬ S x → ¬ T x) : Ch S a c :=
  ⟨k.os.trans h.os, k.tape.trans h.tape, k.output.trans h.output, Nat.le_trans h.size k.size, fun i hi hs => (k.block i (Nat.lt_of_lt_of_le hi h.size) (hT i hi hs)).trans (h.block i hi hs)⟩
theorem Ch.mono {S T : Nat → Prop} {a b : World} (h : Ch S a b) (hT : ∀ x, x < a.heap.size → S x → T x) : Ch T a b :=
  ⟨h.os, h.tape, h.output, h.size, fun i hi hs => h.block i hi (fun e => hs (hT i hi e))⟩
theorem Ch.of_grown {w w' : World} {r : Option Nat} (h : w.grownBy w' r) : Ch (fun k => some k = r) w w' := ⟨h.os, h.tape, h.output, h.size, fun k hk hs => h.block k hk hs⟩
theorem Ch.grown {S : Nat → Prop} {a b c : World} {r : Option Nat} (h : Ch S a b) (k : b.grownBy c r) (hT : ∀ x, r = some x → x < a.heap.size → S x) : Ch S a c :=
  h.trans (Ch.of_grown k) (fun x hx hs e => hs (hT x e.symm hx))
theorem Ch.to_below {S : Nat → Prop} {a w w' : World} {B : Nat} (h : Ch S w w') (b : Below B a w) (hB : B ≤ w.heap.size) (hS : ∀ x, x < B → ¬ S x) : Below B a w' :=
  ⟨h.os.trans b.os, h.tape.trans b.tape, h.output.trans b.output, Nat.le_trans b.size h.size, fun k hk => (h.block k (Nat.lt_of_lt_of_le hk hB) (hS k hk)).trans (b.block k hk)⟩
theorem Ch.of_below {w w' : World} (h : Below w.heap.size w w') (S : Nat → Prop) : Ch S w w' := ⟨h.os, h.tape, h.output, h.size, fun k hk _ => h.block k hk⟩
theorem Ch.cell {S : Nat → Prop} {w w' : World} (h : Ch S w w') {a : Addr} {v : Value} (hc : w.cell? a = some v) (hs : ¬ S a.block) : w'.cell? a = some v := by
  have hb := World.block_lt_of_cell? _ _ hc
  rw [← hc]; exact World.cell?_of_block (h.block _ hb hs)
theorem Ch.drew {S : Nat → Prop} {a b : World} (h : Ch S a b) : Ch S a b.drew := ⟨h.os, h.tape, h.output, h.size, h.block⟩
theorem Ch.drewN {S : Nat → Prop} {a b : World} (h : Ch S a b) (n : Nat) : Ch S a (b.drewN n) := ⟨h.os, h.tape, h.output, h.size, h.block⟩
theorem grown_setCell (w : World) (p : Addr) (u : Value) : w.grownBy (w.setCell p u) (some p.block) :=
  ⟨rfl, rfl, rfl, by simp [World.setCell], fun k _ hk => Below.heap_setCell w p u k (fun e => hk (by rw [e]))⟩
theorem grown_trans {a b c : World} {r : Option Nat} (h : a.grownBy b r) (k : b.grownBy c r) : a.grownBy c r :=
  ⟨k.os.trans h.os, k.tape.trans h.tape, k.output.trans h.output, Nat.le_trans h.size k.size, fun i hi hs => (k.block i (Nat.lt_of_lt_of_le hi h.size) hs).trans (h.block i hi hs)⟩
theorem grown_drewN {a b : World} {r : Option Nat} (h : a.grownBy b r) (n : Nat) : a.grownBy (b.drewN n) r := ⟨h.os, h.tape, h.output, h.size, h.block⟩
theorem grown_drew {a b : World} {r : Option Nat} (h : a.grownBy b r) : a.grownBy b.drew r := ⟨h.os, h.tape, h.output, h.size, h.block⟩

/-- Block g begins with these n values; there is room for cap. -/
structure VR (w : World) (g : Nat) (T : TypeId) (F : Nat → Value) (n cap : Nat) : Prop where
  ex : ∃ cur : Array Value, w.heap[g]? = some (.cells cur T (0, 0)) ∧ cur.size = cap ∧ ∀ i, i < n → cur[i]? = some (F i)
  le : n ≤ cap
  max : cap ≤ maxLen
theorem VR.lt {w : World} {g : Nat} {T : TypeId} {F : Nat → Value} {n cap : Nat} (h : VR w g T F n cap) : g < w.heap.size := by
  obtain ⟨cur, hc, _⟩ := h.ex
  exact (Array.getElem?_eq_some_iff.1 hc).1
theorem VR.cell {w : World} {g : Nat} {T : TypeId} {F : Nat → Value} {n cap : Nat} (h : VR w g T F n cap) (i : Nat) (hi : i < n) : w.cell? ⟨g, i, none⟩ = some (F i) := by
  obtain ⟨cur, hc, _, h2⟩ := h.ex
  rw [← h2 i hi]; simp [World.cell?, hc]
theorem VR.frozen {w : World} {g : Nat} {T : TypeId} {F : Nat → Value} {n cap : Nat} (h : VR w g T F n cap) (i : Nat) : w.frozen? ⟨g, i, none⟩ = false := by
  obtain ⟨cur, hc, _, h2⟩ := h.ex
  simp [World.frozen?, hc]
theorem VR.of_block {w w' : World} {g : Nat} {T : TypeId} {F : Nat → Value} {n cap : Nat} (h : VR w g T F n cap) (e : w'.heap[g]? = w.heap[g]?) : VR w' g T F n cap := by
  obtain ⟨cur, hc, h1, h2⟩ := h.ex
  exact ⟨⟨cur, e.trans hc, h1, h2⟩, h.le, h.max⟩
theorem VR.kept {w w' : World} {g : Nat} {T : TypeId} {F : Nat → Value} {n cap : Nat} {r : Option Nat} (h : VR w g T F n cap) (hg : w.grownBy w' r) (hr : some g ≠ r) : VR w' g T F n cap := h.of_block (hg.block g h.lt hr)
theorem VR.ch {w w' : World} {g : Nat} {T : TypeId} {F : Nat → Value} {n cap : Nat} {S : Nat → Prop} (h : VR w g T F n cap) (hg : Ch S w w') (hr : ¬ S g) : VR w' g T F n cap := h.of_block (hg.block g h.lt hr)
theorem VR.less {w : World} {g : Nat} {T : TypeId} {F : Nat → Value} {n m cap : Nat} (h : VR w g T F n cap) (hm : m ≤ n) : VR w g T F m cap := by
  obtain ⟨cur, hc, h1, h2⟩ := h.ex
  exact ⟨⟨cur, hc, h1, fun i hi => h2 i (by omega)⟩, Nat.le_trans hm h.le, h.max⟩
theorem VR.congr {w : World} {g : Nat} {T : TypeId} {F G : Nat → Value} {n cap : Nat} (h : VR w g T F n cap) (e : ∀ i, i < n → F i = G i) : VR w g T G n cap := by
  obtain ⟨cur, hc, h1, h2⟩ := h.ex
  exact ⟨⟨cur, hc, h1, fun i hi => by rw [← e i hi]; exact h2 i hi⟩, h.le, h.max⟩
theorem VR.set {w : World} {g : Nat} {T : TypeId} {F : Nat → Value} {n cap : Nat} (h : VR w g T F n cap) (i : Nat) (v : Value) : VR (w.setCell ⟨g, i, none⟩ v) g T (upd F i v) n cap := by
  obtain ⟨cur, hc, h1, h2⟩ := h.ex
  refine ⟨⟨cur.setIfInBounds i v, heap_setCell_same w g i cur T v hc, by simpa using h1, fun j hj => ?_⟩, h.le, h.max⟩
  have hl := h.le
  rw [Array.getElem?_setIfInBounds]
  by_cases e : i = j
  · subst e
    rw [if_pos rfl, if_pos (by omega), upd_at]
  · rw [if_neg e, upd_ne F i v (Ne.symm e)]; exact h2 j hj
theorem VR.drewN {w : World} {g : Nat} {T : TypeId} {F : Nat → Value} {n cap : Nat} (h : VR w g T F n cap) (q : Nat) : VR (w.drewN q) g T F n cap := h.of_block rfl
theorem VR.drew {w : World} {g : Nat} {T : TypeId} {F : Nat → Value} {n cap : Nat} (h : VR w g T F n cap) : VR w.drew g T F n cap := h.of_block rfl
def vl (F : Nat → Value) (n : Nat) : List Value := (List.range n).map F
theorem vl_length (F : Nat → Value) (n : Nat) : (vl F n).length = n := by simp [vl]
theorem vl_get (F : Nat → Value) (n j : Nat) (h : j < n) : (vl F n)[j]? = some (F j) := by simp [vl, h]
theorem VR.owns {w : World} {g : Nat} {T : TypeId} {F : Nat → Value} {n cap : Nat} (h : VR w g T F n cap) : w.ownsRow 0 T 1 (.slice (some ⟨g, 0, none⟩) n cap) n (vl F n) := by
  obtain ⟨cur, hc, h1, h2⟩ := h.ex
  refine ⟨by rw [vl_length]; omega, .inr ⟨g, cap, cur, rfl, Nat.zero_le _, hc, h.le, h.max, by omega, ?_⟩⟩
  apply List.ext_getElem?
  intro j
  rw [Nat.mul_one, List.getElem?_take]
  by_cases hj : j < n
  · rw [if_pos hj, vl_get F n j hj, ← h2 j hj]; simp
  · rw [if_neg hj]; simp [vl, Nat.not_lt.1 hj]
theorem VR.of_owns {w : World} {T : TypeId} {F : Nat → Value} {v : Value} {n : Nat} {xs : List Value} {base : Nat} (h : w.ownsRow base T 1 v n xs) (hn : 0 < n) (hx : ∀ i, i < n → xs[i]? = some (F i)) :
    ∃ g cap, v = .slice (some ⟨g, 0, none⟩) n cap ∧ v.ownBlock = some g ∧ base ≤ g ∧ VR w g T F n cap := by
  rcases h.2 with ⟨_, h0⟩ | ⟨g, cap, cur, rfl, hb, hg, hnc, hm, hsz, ht⟩
  · omega
  · refine ⟨g, cap, rfl, rfl, hb, ⟨cur, hg, by omega, fun i hi => ?_⟩, hnc, hm⟩
    have := hx i hi
    rw [← ht, Nat.mul_one, List.getElem?_take, if_pos hi] at this
    rw [← this]; simp

def iv (h : Nat → Nat) : Nat → Value := fun j => .int .i64 (h j : Nat)
def bv (u : Nat → Bool) : Nat → Value := fun j => .bool (u j)
theorem iv_upd (h : Nat → Nat) (i x : Nat) : upd (iv h) i (.int .i64 (x : Nat)) = iv (upd h i x) := by
  funext j; show (if j = i then _ else _) = Value.int .i64 ((if j = i then x else h j : Nat) : Int); split <;> rfl
theorem bv_upd (u : Nat → Bool) (i : Nat) (x : Bool) : upd (bv u) i (.bool x) = bv (upd u i x) := by
  funext j; show (if j = i then _ else _) = Value.bool (if j = i then x else u j); split <;> rfl

/-! ### the heap's small calls -/
theorem len_in (w : World) (a : Option Addr) (n cap : Nat) :
    Calls Try.prog 41 #[.slice a n cap] w fun e w' => e = .returned (.int .i64 (n : Nat)) ∧ w = w' := by
  go_enter Try.func41, Try.ntmps41
  go_wp2
  go_ret
  exact ⟨rfl, rfl⟩
/-- Is the one less? -/
def lt (a b : Nat) : Bool := decide (a < b)
theorem less_in {w : World} {g n cap : Nat} {h : Nat → Nat} (hr : VR w g 3 (iv h) n cap) (i j : Int) (i0 : 0 ≤ i) (i1 : i < n) (j0 : 0 ≤ j) (j1 : j < n) :
    Calls Try.prog 42 #[.slice (some ⟨g, 0, none⟩) n cap, .int .i64 i, .int .i64 j] w fun e w' => e = .returned (.bool (lt (h i.toNat) (h j.toNat))) ∧ ∃ q, w' = w.drewN q := by
  obtain ⟨i, rfl⟩ := Int.eq_ofNat_of_zero_le i0
  obtain ⟨j, rfl⟩ := Int.eq_ofNat_of_zero_le j0
  have c1 : w.cell? ⟨g, i, none⟩ = some (.int .i64 (h i : Nat)) := hr.cell i (by omega)
  have c2 : w.cell? ⟨g, j, none⟩ = some (.int .i64 (h j : Nat)) := hr.cell j (by omega)
  obtain ⟨x, hx⟩ : ∃ x, h i = x := ⟨_, rfl⟩
  obtain ⟨y, hy⟩ : ∃ y, h j = y := ⟨_, rfl⟩
  simp only [Int.toNat_natCast]
  rw [hx] at c1 ⊢
  rw [hy] at c2 ⊢
  clear hx hy hr
  go_enter Try.func42, Try.ntmps42
  go_wp2
  go_quiet (fail)
  go_wp2
  go_ret
  exact ⟨by simp [lt], _, rfl⟩
theorem less_b {w : World} {g n cap : Nat} {h : Nat → Nat} (hr : VR w g 3 (iv h) n cap) (i j : Int) (i0 : 0 ≤ i) (i1 : i < n) (j0 : 0 ≤ j) (j1 : j < n) (b : Bool) (hb : lt (h i.toNat) (h j.toNat) = b) :
    Calls Try.prog 42 #[.slice (some ⟨g, 0, none⟩) n cap, .int .i64 i, .int .i64 j] w fun e w' => e = .returned (.bool b) ∧ ∃ q, w' = w.drewN q := by
  rw [← hb]; exact less_in hr i j i0 i1 j0 j1
theorem swap_in {w : World} {g n cap : Nat} {h : Nat → Nat} (hr : VR w g 3 (iv h) n cap) (i j : Int) (i0 : 0 ≤ i) (i1 : i < n) (j0 : 0 ≤ j) (j1 : j < n) :
    Calls Try.prog 43 #[.slice (some ⟨g, 0, none⟩) n cap, .int .i64 i, .int .i64 j] w fun e w' => e = .returned (.tuple #[]) ∧ VR w' g 3 (iv (swp h i.toNat j.toNat)) n cap ∧ w.grownBy w' (some g) := by
  obtain ⟨i, rfl⟩ := Int.eq_ofNat_of_zero_le i0
  obtain ⟨j, rfl⟩ := Int.eq_ofNat_of_zero_le j0
  have c1 : w.cell? ⟨g, i, none⟩ = some (.int .i64 (h i : Nat)) := hr.cell i (by omega)
  have c2 : w.cell? ⟨g, j, none⟩ = some (.int .i64 (h j : Nat)) := hr.cell j (by omega)
  have f1 : w.frozen? ⟨g, i, none⟩ = false := hr.frozen i
  have f2 : w.frozen? ⟨g, j, none⟩ = false := hr.frozen j
  simp only [Int.toNat_natCast]
  have key : VR ((w.setCell ⟨g, i, none⟩ (.int .i64 (h j : Nat))).setCell ⟨g, j, none⟩ (.int .i64 (h i : Nat))) g 3 (iv (swp h i j)) n cap := by
    have := (hr.set i (.int .i64 (h j : Nat))).set j (.int .i64 (h i : Nat))
    rw [iv_upd, iv_upd, ← swp_upd2] at this
    exact this
  have grow : w.grownBy ((w.setCell ⟨g, i, none⟩ (.int .i64 (h j : Nat))).setCell ⟨g, j, none⟩ (.int .i64 (h i : Nat))) (some g) := grown_trans (grown_setCell _ _ _) (grown_setCell _ _ _)
  have hk := Lib.hid key
  have hg := Lib.hid grow
  obtain ⟨x, hx⟩ : ∃ x, h i = x := ⟨_, rfl⟩
  obtain ⟨y, hy⟩ : ∃ y, h j = y := ⟨_, rfl⟩
  rw [hx] at c1 hk hg
  rw [hy] at c2 hk hg
  obtain ⟨F, hF⟩ : ∃ F, iv (swp h i j) = F := ⟨_, rfl⟩
  rw [hF] at hk ⊢
  clear hx hy hr key grow hF
  by_cases e : i = j
  · subst e
    have exy : x = y := by rw [c1] at c2; injection c2 with c2; injection c2 with _ c2; omega
    subst exy
    go_enter Try.func43, Try.ntmps43
    go_wp2
    go_region
    all_goals (go_end0; exact ⟨rfl, (hk.out).drew, grown_drew hg.out⟩)
  · have c3 : (w.setCell ⟨g, i, none⟩ (.int .i64 (y : Nat))).cell? ⟨g, j, none⟩ = some (.int .i64 (y : Nat)) := by
      rw [World.cell?_setCell_other _ _ _ _ (by simp)]; exact c2
    go_enter Try.func43, Try.ntmps43
    go_wp2
    go_region
    all_goals (go_end0; exact ⟨rfl, (hk.out).drew, grown_drew hg.out⟩)

/-- Behind a pointer: a slice. -/
def Hd (w : World) (P g n cap : Nat) : Prop := w.cell? ⟨P, 0, none⟩ = some (.slice (some ⟨g, 0, none⟩) n cap) ∧ w.frozen? ⟨P, 0, none⟩ = false
theorem Hd.lt {w : World} {P g n cap : Nat} (h : Hd w P g n cap) : P < w.heap.size := World.block_lt_of_cell? _ _ h.1
theorem Hd.kept {w w' : World} {P g n cap : Nat} {r : Option Nat} (h : Hd w P g n cap) (hg : w.grownBy w' r) (hr : some P ≠ r) : Hd w' P g n cap :=
  ⟨hg.cell h.1 hr, (World.frozen?_of_block (hg.block P h.lt hr)).trans h.2⟩
theorem Hd.far {w w2 : World} {P g n cap : Nat} (h : Hd w P g n cap) (o : Obj) (k : (w.alloc o).drew.grownBy w2 (some g)) (hne : P ≠ g) : Hd w2 P g n cap := by
  have h1 : Hd (w.alloc o).drew P g n cap := h.kept (w' := (w.alloc o).drew) (grown_drew (World.grownBy_alloc w o none)) (by simp)
  exact h1.kept k (by simpa using hne)
theorem Hd.set {w : World} {P g n cap : Nat} (h : Hd w P g n cap) (g' n' cap' : Nat) : Hd (w.setCell ⟨P, 0, none⟩ (.slice (some ⟨g', 0, none⟩) n' cap')) P g' n' cap' :=
  ⟨World.cell?_setCell_same _ _ _ h.1, by simp [h.2]⟩
theorem pop_in {w : World} {P g n cap : Nat} {h : Nat → Nat} (hd : Hd w P g (n + 1) cap) (hr : VR w g 3 (iv h) (n + 1) cap) :
    Calls Try.prog 44 #[.pointer (some ⟨P, 0, none⟩)] w fun e w' => e = .returned (.iface 3 (.int .i64 (h n : Nat))) ∧ w.setCell ⟨P, 0, none⟩ (.slice (some ⟨g, 0, none⟩) n cap) = w' := by
  obtain ⟨h1, h2⟩ := hd
  have c1 : w.cell? ⟨g, n, none⟩ = some (.int .i64 (h n : Nat)) := hr.cell n (by omega)
  have hl := hr.le
  have hm := hr.max
  unfold maxLen at hm
  obtain ⟨x, hx⟩ : ∃ x, h n = x := ⟨_, rfl⟩
  rw [hx] at c1 ⊢
  clear hr hx
  go_enter Try.func44, Try.ntmps44
  go_wp2
  go_ret
  exact ⟨rfl, rfl⟩

/-! ### append of one number -/
theorem iv_one (h : Nat → Nat) (n : Nat) : ∀ v ∈ vl (iv h) n, v.oneCell' = true := by
  intro v hv
  simp only [vl, List.mem_map] at hv
  obtain ⟨j, _, rfl⟩ := hv
  rfl
theorem vl_app (h : Nat → Nat) (n x : Nat) : ∀ i, i < n + 1 → (vl (iv h) n ++ [.int .i64 (x : Nat)])[i]? = some (iv (upd h n x) i) := by
  intro i hi
  rw [List.getElem?_append, vl_length]
  by_cases e : i = n
  · subst e
    rw [if_neg (by omega)]
    simp [iv, upd_at]
  · rw [if_pos (by omega), vl_get _ _ _ (by omega)]
    unfold iv; rw [upd_ne h n x e]
theorem app_run (w : World) (base : Nat) (t ty : TypeId) (hu : Try.prog.underlying t = some (.slice 3)) (v : Value) (n : Nat) (h : Nat → Nat) (hown : w.ownsRow base 3 1 v n (vl (iv h) n)) (hn : n ≤ 1000000) (ad : Addr) (c x : Nat)
    (hc : w.cell? ad = some (.int .i64 (x : Nat))) (hbase : base ≤ w.heap.size) :
    ∃ g' cap' w', (Builtin.append_ #[t, t] ty #[v, .slice (some ad) 1 c]).run Try.prog w = .ok (.slice (some ⟨g', 0, none⟩) (n + 1) cap') w' ∧ VR w' g' 3 (iv (upd h n x)) (n + 1) cap' ∧ w.grownBy w' v.ownBlock ∧ (v.ownBlock = some g' ∨ g' = w.heap.size) ∧ base ≤ g' := by
  have hi : (Try.prog.info? 3).map (fun i => (i.zero, i.size, i.bytes)) = some (some (.int .i64 0), 1, 8) := by kernel_rfl
  obtain ⟨i, hi, hz, h1, h2⟩ := info_parts hi
  have hsrc : ∀ j u, ([.int .i64 (x : Nat)] : List Value)[j]? = some u → w.cell? (ad.add j) = some u := by
    intro j u hj
    match j, hj with
    | 0, hj =>
      simp at hj; subst hj
      rw [← hc]
      simp [Addr.add]
  obtain ⟨v', w', hrun, h3, h4, _, h5⟩ := run_append_own_at (P := Try.prog) w base t ty 3 i (.int .i64 0) 1 8 hu hi hz h1 h2 rfl (by omega) v n (vl (iv h) n) hown ad 1 c [.int .i64 (x : Nat)] rfl hsrc (by intro u hu; simp at hu; subst hu; rfl) (by unfold maxLen; omega) (by omega) hbase
  obtain ⟨g', cap', rfl, hob, hb, hv⟩ := VR.of_owns h3 (by omega) (vl_app h n x)
  refine ⟨g', cap', w', hrun, hv, h4, ?_, hb⟩
  rw [hob] at h5
  rcases h5 with h5 | h5
  · exact .inl h5.symm
  · exact .inr (by injection h5)
theorem step_push {ops : Array Oper} {o : Oper} {a : Act} {w : World} {K : Act → World → Prop} {Q : Exit → Act → World → Prop} {E : Prop} (hgd : o.guard = none) (s x : Operand) (t : TypeId)
    (ho : o.op = .call { callee := .builtin .append, args := #[s, x], argTypes := #[t, t] }) (hu : Try.prog.underlying t = some (.slice 3)) (g n cap : Nat) (h : Nat → Nat)
    (hs : a.eval s = .slice (some ⟨g, 0, none⟩) n cap) (hr : VR w g 3 (iv h) n cap) (hn : n ≤ 1000000) (ad : Addr) (c y : Nat) (hx : a.eval x = .slice (some ad) 1 c) (hc : w.cell? ad = some (.int .i64 (y : Nat)))
    (hK : ∀ g' cap' w', VR w' g' 3 (iv (upd h n y)) (n + 1) cap' → w.grownBy w' (some g) → (g' = g ∨ g' = w.heap.size) → K (a.put o.dst (.slice (some ⟨g', 0, none⟩) (n + 1) cap')) w') :
    if Region.wanted o (yielded ops a.tmps) = true then Oper.wp Try.prog o a w K Q else E := by
  have hw : Region.wanted o (yielded ops a.tmps) = true := by simp [Region.wanted, hgd]
  rw [if_pos hw]
  obtain ⟨g', cap', w', hrun, h1, h2, h3, _⟩ := app_run w 0 t o.type hu _ n h hr.owns hn ad c y hc (Nat.zero_le _)
  unfold Oper.wp
  simp [execOp, ho, resolve, invoke, builtin, hs, hx, hrun, Result.andThen]
  refine hK g' cap' w' h1 h2 ?_
  rcases h3 with h3 | h3
  · left; simp only [Value.ownBlock, Option.some.injEq] at h3; exact h3.symm
  · exact .inr h3
theorem wpList_push {ops : Array Oper} {rest : List Oper} {o : Oper} {a : Act} {w : World} {Q : Exit → Act → World → Prop} (hgd : o.guard = none) (s x : Operand) (t : TypeId)
    (ho : o.op = .call { callee := .builtin .append, args := #[s, x], argTypes := #[t, t] }) (hu : Try.prog.underlying t = some (.slice 3)) (base : Nat) (v : Value) (n : Nat) (h : Nat → Nat)
    (hs : a.eval s = v) (hown : w.ownsRow base 3 1 v n (vl (iv h) n)) (hn : n ≤ 1000000) (hbase : base ≤ w.heap.size) (ad : Addr) (c y : Nat) (hx : a.eval x = .slice (some ad) 1 c) (hc : w.cell? ad = some (.int .i64 (y : Nat)))
    (hK : ∀ g' cap' w', VR w' g' 3 (iv (upd h n y)) (n + 1) cap' → w.grownBy w' v.ownBlock → (v.ownBlock = some g' ∨ g' = w.heap.size) → base ≤ g' → wpList Try.prog ops Q rest (a.put o.dst (.slice (some ⟨g', 0, none⟩) (n + 1) cap')) w') :
    wpList Try.prog ops Q (o :: rest) a w := by
  obtain ⟨g', cap', w', hrun, h1, h2, h3, h4⟩ := app_run w base t o.type hu v n h hown hn ad c y hc hbase
  refine wpList_plain hgd fun K hK' => ?_
  unfold Oper.wp execOp
  simp only [ho, resolve, invoke, builtin, Sem.run_bind, Sem.run_pure, Result.andThen_ok, List.map_toArray, List.map_cons, List.map_nil, hs, hx, hrun]
  exact hK' _ _ (hK g' cap' w' h1 h2 h3 h4)

theorem und_frees : Try.prog.underlying 46 = some (.slice 3) := by kernel_rfl
theorem und_ints : Try.prog.underlying 27 = some (.slice 3) := by kernel_rfl
theorem assert_int (x : Int) (w : World) : (Instr.typeAssert (.iface 3 (.int .i64 x)) 20 3 false).run Try.prog w = .ok (.int .i64 x) w := by kernel_rfl
/-- The other cells of a block stay. -/
def Off (P : Nat) (w w' : World) : Prop := (∀ o, o ≠ 0 → w'.cell? ⟨P, o, none⟩ = w.cell? ⟨P, o, none⟩) ∧ ∀ o, w'.frozen? ⟨P, o, none⟩ = w.frozen? ⟨P, o, none⟩
theorem Off.trans {P : Nat} {a b c : World} (h : Off P a b) (k : Off P b c) : Off P a c := ⟨fun o ho => (k.1 o ho).trans (h.1 o ho), fun o => (k.2 o).trans (h.2 o)⟩
theorem Off.of_grown {P : Nat} {w w' : World} {r : Option Nat} (h : w.grownBy w' r) (hP : P < w.heap.size) (hne : some P ≠ r) : Off P w w' :=
  ⟨fun _ _ => World.cell?_of_block (h.block P hP hne), fun _ => World.frozen?_of_block (h.block P hP hne)⟩
theorem Off.set (P : Nat) (w : World) (v : Value) : Off P w (w.setCell ⟨P, 0, none⟩ v) :=
  ⟨fun o ho => World.cell?_setCell_other _ _ _ _ (by simp), fun o => by simp⟩
theorem Off.far {P g : Nat} {w w2 : World} (hP : P < w.heap.size) (o : Obj) (k : (w.alloc o).drew.grownBy w2 (some g)) (hne : P ≠ g) : Off P w w2 := by
  have h1 : w.grownBy (w.alloc o).drew none := grown_drew (World.grownBy_alloc w o none)
  exact (Off.of_grown h1 hP (by simp)).trans (Off.of_grown k (Nat.lt_of_lt_of_le hP h1.size) (by simpa using hne))
theorem push_in {w : World} {P g n cap : Nat} {h : Nat → Nat} (hd : Hd w P g n cap) (hr : VR w g 3 (iv h) n cap) (hn : n ≤ 1000000) (hne : P ≠ g) (x : Nat) :
    Calls Try.prog 45 #[.pointer (some ⟨P, 0, none⟩), .iface 3 (.int .i64 (x : Nat))] w fun e w' => e = .returned (.tuple #[]) ∧
      ∃ g' cap', Hd w' P g' (n + 1) cap' ∧ VR w' g' 3 (iv (upd h n x)) (n + 1) cap' ∧ Ch (fun b => b = P ∨ b = g) w w' ∧ (g' = g ∨ w.heap.size ≤ g') ∧ Off P w w' := by
  have hlt := hd.lt
  have HD := Lib.hid hd
  have HR := Lib.hid hr
  obtain ⟨h1, h2⟩ := hd
  clear hr
  have hta := assert_int x
  go_enter Try.func45, Try.ntmps45
  go_wp2
  go_region_law (refine step_push rfl (.tmp 7) (.tmp 10) _ rfl und_frees g n cap h (by simp [Act.eval]) (((HR.out).kept (World.grownBy_alloc _ _ none) (by simp)).drew) hn ⟨w.heap.size, 0, none⟩ 1 x (by simp [Act.eval]) (by simp) ?_; intro g' cap' w' k1 k2 k3; have KV := Lib.hid k1; have KG := Lib.hid k2; have KO := Lib.hid k3; obtain ⟨k4, k5⟩ := (HD.out).far _ k2 hne; clear k1 k2 k3)
  all_goals
    go_end0
    have HH : Hd w' P g n cap := ⟨k4, k5⟩
    have hV : VR (w'.setCell ⟨P, 0, none⟩ (.slice (some ⟨g', 0, none⟩) (n + 1) cap')) g' 3 (iv (upd h n x)) (n + 1) cap' := (KV.out).kept (grown_setCell _ _ _) (by
      have := KO.out
      simp at this ⊢
      omega)
    have hC : Ch (fun b => b = P ∨ b = g) w w' := (Ch.of_below (below_new w (.cells #[.int .i64 (x : Nat)] 3)) _).drew.grown KG.out (fun y hy _ => .inr (by injection hy with hy; exact hy.symm))
    have hO : Off P w w' := Off.far hlt _ KG.out hne
    refine ⟨rfl, g', cap', HH.set _ _ _, hV, hC.grown (grown_setCell _ _ _) (fun y hy _ => .inl (by injection hy with hy; exact hy.symm)), ?_, hO.trans (Off.set _ _ _)⟩
    have := KO.out
    simp at this
    omega
end Go.Proofs.Ytfjkomglljcfjaa
