/-
  PROVED: for every n and every list of acts the law StorePlays returns true: bytes and words that are written, frames that are cleared and copied, in any order: as a list of lists; and the acts read as they did.
-/
import Derived.Test.YthgopodjplpefaaRows
import Derived.Test.YthgopodjplpefaaWM
import Derived.Test.YthgopodjplpefaaWC
import Derived.Test.YthgopodjplpefaaWB
import Derived.Test.YthgopodjplpefaaLT
import Derived.Test.YthgopodjplpefaaSM
import Derived.Test.YthgopodjplpefaaSC
import Derived.Test.YthgopodjplpefaaSD
import Derived.Test.YthgopodjplpefaaSP
import Derived.WalkKit
import Derived.ProofKit
import Derived.OpenShut
import Derived.ShutString
import Derived.ChangeOld
import Derived.Below
import Derived.Deep.CutBlock
import Derived.Deep.RegionHeld3
import Derived.Deep.Slices
import Derived.Deep.Fields
namespace Go.Proofs.Ythgopodjplpefaa.storePlays
open Go.Proofs.Ythgopodjplpefaa Go.Proofs.Ythgopodjplpefaa.WM
open Go.ChangeShapes Go.WideShapes Go.ChangeAt Go.RowKit
open Go.ChangeMaps (open_string shut_string)
set_option linter.unusedVariables false

theorem own : ownKnob Try.prog.godebug = none := by kernel_rfl
theorem laidOut : laidOutB Try.prog = true := by kernel_rfl
theorem wf_u8 {a : Int} (h : (Lit.int .u8 a).wf = true) : ∃ n : Nat, a = n ∧ n < 256 := by
  simp only [Lit.wf, IntKind.min, IntKind.max, IntKind.signed, IntKind.bits, Bool.and_eq_true] at h
  simp at h
  exact ⟨a.toNat, by omega, by omega⟩
theorem wf_i64 {a : Int} (h : (Lit.int .i64 a).wf = true) : -9223372036854775808 ≤ a ∧ a ≤ 9223372036854775807 := by
  simp only [Lit.wf, IntKind.min, IntKind.max, IntKind.signed, IntKind.bits, Bool.and_eq_true, decide_eq_true_eq] at h
  simp at h
  omega
theorem wf_u64 {a : Int} (h : (Lit.int .u64 a).wf = true) : ∃ n : Nat, a = n ∧ n < 18446744073709551616 := by
  simp only [Lit.wf, IntKind.min, IntKind.max, IntKind.signed, IntKind.bits, Bool.and_eq_true] at h
  simp at h
  exact ⟨a.toNat, by omega, by omega⟩
/-- What the walk is told of a slice of integers that came in: it is nil, or it leads to a row of as many cells as its capacity says. -/
def IsRow (k : IntKind) (w : World) (a : Option Addr) (len cap : Nat) (zs : List Int) : Prop :=
  (a = none ∧ len = 0 ∧ cap = 0 ∧ zs = []) ∨
  ∃ x, a = some x ∧ len ≤ cap ∧ cap ≤ maxLen ∧ zs.length = cap ∧ (∀ i, i < zs.length → w.cell? (x.add i) = some (.int k (zs.getD i 0))) ∧ ∀ n ∈ zs, (Lit.int k n).wf = true
theorem IsRow.bytes {w : World} {a : Option Addr} {len cap : Nat} {zs : List Int} (h : IsRow .u8 w a len cap zs) : len ≤ maxLen ∧ ∃ f : Nat → Nat, BytesAt w a len f ∧ (∀ i, f i < 256) ∧ ∀ i, i < len → f i = (zs.getD i 0).toNat := by
  rcases h with ⟨rfl, rfl, rfl, rfl⟩ | ⟨y, rfl, hl, hm, hz, hcell, hwz⟩
  · exact ⟨by omega, fun _ => 0, fun i hi => by omega, fun _ => (by decide : (0 : Nat) < 256), fun i hi => by omega⟩
  · have key : ∀ i, i < len → ∃ n : Nat, zs.getD i 0 = n ∧ n < 256 := fun i hi =>
      of_u8 (hwz (zs.getD i 0) (by simp [List.getD_eq_getElem?_getD, List.getElem?_eq_getElem (show i < zs.length by omega)]))
    refine ⟨by omega, fun i => (zs.getD i 0).toNat % 256, fun i hi => ?_, fun i => Nat.mod_lt _ (by omega), fun i hi => ?_⟩
    · obtain ⟨b, off, spot⟩ := y
      have hc := hcell i (by omega)
      have hspot : spot = none := by simpa [Addr.add] using World.cell?_spot (hcell 0 (by omega))
      subst hspot
      obtain ⟨n, en, hn⟩ := key i hi
      refine ⟨b, off, rfl, ?_⟩
      rw [en] at hc
      show w.cell? ⟨b, off + i, none⟩ = some (.int .u8 (((zs.getD i 0).toNat % 256 : Nat) : Int))
      rw [en, Int.toNat_natCast, Nat.mod_eq_of_lt hn, ← hc]
      unfold Addr.add
      split <;> simp_all
    · obtain ⟨n, en, hn⟩ := key i hi
      show (zs.getD i 0).toNat % 256 = _
      rw [en]; omega
/-- What the walk is told of a slice of structs that came in: for each of its elements the fields' cells. -/
def IsS22 (w : World) (a : Option Addr) (len : Nat) : Prop :=
  len ≤ maxLen ∧ ∀ i, i < len → ∃ b off, a = some ⟨b, off, none⟩ ∧ b < w.heap.size ∧ ∃ (K : Nat) (Frame : Int) (Off : Int) (P : Option Addr) (P_len P_cap : Nat) (P_z : List Int) (W : Nat), w.cell? ⟨b, off + i * 5 + 0, none⟩ = some (.int .u8 K) ∧ w.cell? ⟨b, off + i * 5 + 1, none⟩ = some (.int .i64 Frame) ∧ w.cell? ⟨b, off + i * 5 + 2, none⟩ = some (.int .i64 Off) ∧ w.cell? ⟨b, off + i * 5 + 3, none⟩ = some (.slice P P_len P_cap) ∧ w.cell? ⟨b, off + i * 5 + 4, none⟩ = some (.int .u64 W) ∧ K < 256 ∧ (-9223372036854775808 ≤ Frame ∧ Frame ≤ 9223372036854775807) ∧ (-9223372036854775808 ≤ Off ∧ Off ≤ 9223372036854775807) ∧ IsRow .u8 w P P_len P_cap P_z ∧ W < 18446744073709551616
theorem add_two (b off i j : Nat) : ((⟨b, off, none⟩ : Addr).add i).add j = ⟨b, off + i + j, none⟩ := by
  unfold Addr.add
  split <;> split <;> simp_all
theorem openS22 {H : Type} {enc : TypeId × Value → H} {w : World} {base : Nat} {a : Option Addr} {len cap : Nat} {d : DataW H} {p : List MemPlace}
    (h : DataW.Trod enc Try.prog w base (fun _ => true) true 22 (.slice a len cap) d p) : IsS22 w a len := by
  obtain ⟨fuel, hf⟩ := h
  rcases Go.Deep.open_slice Try.underlying22 hf with ⟨hcs, _⟩ | ⟨x, l, c, m, n, D, Pl, hcs, _, hl, hm, hmm, _, hi⟩
  · simp [Value.cells] at hcs
    obtain ⟨rfl, rfl, rfl⟩ := hcs
    exact ⟨by unfold maxLen; omega, fun i hi => by omega⟩
  · simp [Value.cells] at hcs
    obtain ⟨rfl, rfl, rfl⟩ := hcs
    refine ⟨by omega, fun i hil => ?_⟩
    have hC : Try.prog.cellsOf 30 = 5 := by kernel_rfl
    have hlm : len ≤ m := by rw [hmm]; split <;> omega
    obtain ⟨b, off, spot⟩ := x
    have hspot : spot = none := by
      obtain ⟨cs0, hc0, _⟩ := hi 0 (by omega)
      obtain ⟨_, hl0, hat0⟩ := World.cells?_some hc0
      rw [hC] at hl0 hat0
      have h0 := hat0 0 (by decide)
      rw [List.getElem?_eq_getElem (by omega)] at h0
      simpa [Addr.add] using World.cell?_spot h0
    subst hspot
    obtain ⟨cs', hc, ht'⟩ := hi i (by omega)
    obtain ⟨_, hcl, hat⟩ := World.cells?_some hc
    obtain ⟨xs, n', _, _, _, hxl, hfs⟩ := DataW.trod_struct Try.underlying30 ht'
    rw [hC] at hcl hat
    obtain ⟨y0, hy0⟩ : ∃ y, xs[0]? = some y := ⟨_, List.getElem?_eq_getElem (by rw [hxl]; decide)⟩
    have t0 := (hfs 0 _ rfl).trans hy0
    have e0 : (cs'.drop 0).take (Try.prog.cellsOf 5) = [cs'[0]'(by omega)] := by
      rw [show Try.prog.cellsOf 5 = 1 from by kernel_rfl, List.drop_eq_getElem_cons (by omega)]; rfl
    have q0 := hat 0 (by decide)
    rw [List.getElem?_eq_getElem (by omega), add_two] at q0
    replace t0 : DataW.trod enc Try.prog w base (fun _ => true) true n' 5 [cs'[0]'(by omega)] = some y0 := by rw [← e0]; exact t0
    obtain ⟨z0, k0, _, w0⟩ := DataW.trod_int Try.underlying5 t0
    rw [List.cons.injEq] at k0
    rw [k0.1] at q0
    obtain ⟨n0, rfl, b0⟩ := wf_u8 w0
    obtain ⟨y1, hy1⟩ : ∃ y, xs[1]? = some y := ⟨_, List.getElem?_eq_getElem (by rw [hxl]; decide)⟩
    have t1 := (hfs 1 _ rfl).trans hy1
    have e1 : (cs'.drop 1).take (Try.prog.cellsOf 3) = [cs'[1]'(by omega)] := by
      rw [show Try.prog.cellsOf 3 = 1 from by kernel_rfl, List.drop_eq_getElem_cons (by omega)]; rfl
    have q1 := hat 1 (by decide)
    rw [List.getElem?_eq_getElem (by omega), add_two] at q1
    replace t1 : DataW.trod enc Try.prog w base (fun _ => true) true n' 3 [cs'[1]'(by omega)] = some y1 := by rw [← e1]; exact t1
    obtain ⟨z1, k1, _, w1⟩ := DataW.trod_int Try.underlying3 t1
    rw [List.cons.injEq] at k1
    rw [k1.1] at q1
    have b1 := wf_i64 w1
    obtain ⟨y2, hy2⟩ : ∃ y, xs[2]? = some y := ⟨_, List.getElem?_eq_getElem (by rw [hxl]; decide)⟩
    have t2 := (hfs 2 _ rfl).trans hy2
    have e2 : (cs'.drop 2).take (Try.prog.cellsOf 3) = [cs'[2]'(by omega)] := by
      rw [show Try.prog.cellsOf 3 = 1 from by kernel_rfl, List.drop_eq_getElem_cons (by omega)]; rfl
    have q2 := hat 2 (by decide)
    rw [List.getElem?_eq_getElem (by omega), add_two] at q2
    replace t2 : DataW.trod enc Try.prog w base (fun _ => true) true n' 3 [cs'[2]'(by omega)] = some y2 := by rw [← e2]; exact t2
    obtain ⟨z2, k2, _, w2⟩ := DataW.trod_int Try.underlying3 t2
    rw [List.cons.injEq] at k2
    rw [k2.1] at q2
    have b2 := wf_i64 w2
    obtain ⟨y3, hy3⟩ : ∃ y, xs[3]? = some y := ⟨_, List.getElem?_eq_getElem (by rw [hxl]; decide)⟩
    have t3 := (hfs 3 _ rfl).trans hy3
    have e3 : (cs'.drop 3).take (Try.prog.cellsOf 27) = [cs'[3]'(by omega)] := by
      rw [show Try.prog.cellsOf 27 = 1 from by kernel_rfl, List.drop_eq_getElem_cons (by omega)]; rfl
    have q3 := hat 3 (by decide)
    rw [List.getElem?_eq_getElem (by omega), add_two] at q3
    replace t3 : DataW.trod enc Try.prog w base (fun _ => true) true n' 27 [cs'[3]'(by omega)] = some y3 := by rw [← e3]; exact t3
    obtain ⟨fa3, fl3, fc3, fz3, k3, r3⟩ : ∃ fa fl fc fz, cs'[3]'(by omega) = .slice fa fl fc ∧ IsRow .u8 w fa fl fc fz := by
      rcases open_ints Try.underlying27 Try.underlying5 (by kernel_rfl) t3 with ⟨hcs, _⟩ | ⟨x, l, c, zs, hcs, _, hl, hm, hz, _, hcell, hwz⟩
      · exact ⟨none, 0, 0, [], (List.cons.inj hcs).1, .inl ⟨rfl, rfl, rfl, rfl⟩⟩
      · exact ⟨some x, l, c, zs, (List.cons.inj hcs).1, .inr ⟨_, rfl, hl, hm, by simpa using hz, hcell, hwz⟩⟩
    rw [k3] at q3
    obtain ⟨y4, hy4⟩ : ∃ y, xs[4]? = some y := ⟨_, List.getElem?_eq_getElem (by rw [hxl]; decide)⟩
    have t4 := (hfs 4 _ rfl).trans hy4
    have e4 : (cs'.drop 4).take (Try.prog.cellsOf 28) = [cs'[4]'(by omega)] := by
      rw [show Try.prog.cellsOf 28 = 1 from by kernel_rfl, List.drop_eq_getElem_cons (by omega)]; rfl
    have q4 := hat 4 (by decide)
    rw [List.getElem?_eq_getElem (by omega), add_two] at q4
    replace t4 : DataW.trod enc Try.prog w base (fun _ => true) true n' 28 [cs'[4]'(by omega)] = some y4 := by rw [← e4]; exact t4
    obtain ⟨z4, k4, _, w4⟩ := DataW.trod_int Try.underlying28 t4
    rw [List.cons.injEq] at k4
    rw [k4.1] at q4
    obtain ⟨n4, rfl, b4⟩ := wf_u64 w4
    exact ⟨b, off, rfl, World.block_lt_of_cell? _ _ q0, n0, z1, z2, fa3, fl3, fc3, fz3, n4, q0, q1, q2, q3, q4, b0, b1, b2, r3, b4⟩

/-! ### the walk -/
set_option maxRecDepth 100000
/-- The first loop: k rows are there. -/
structure P1 (w wr : World) (B s g N : Nat) (v : Value) (k : Nat) : Prop where
  st : St wr s g N (fun _ => 0)
  ex : ∃ R : Nat → Nat, wr.ownsRow B 27 1 v k ((List.range k).map fun j => Value.slice (some ⟨R j, 0, none⟩) 256 256) ∧ (∀ j, j < k → RowP wr (R j) 256 (fun _ => 0)) ∧
    (∀ i j, i < k → j < k → R i = R j → i = j) ∧ ∀ j, j < k → B ≤ R j
  bel : Below w.heap.size w wr
  sz : B ≤ wr.heap.size
theorem und26 : Try.prog.underlying 26 = some (.slice 27) := by kernel_rfl
theorem info27 : (Try.prog.info? 27).map (fun i => (i.zero, i.size, i.bytes)) = some (some (.slice none 0 0), 1, 24) := by kernel_rfl
theorem one_cell (wr : World) (o : Obj) (v : Value) (T : TypeId) : ∀ (j : Nat) (u : Value), [v][j]? = some u → ((wr.alloc o).alloc (.cells #[v] T)).cell? ((⟨wr.heap.size + 1, 0, none⟩ : Addr).add j) = some u := by
  intro j u hj
  rcases j with _ | j
  · simp at hj
    subst hj
    have h := heap_alloc_new (wr.alloc o) (.cells #[v] T)
    rw [show (wr.alloc o).heap.size = wr.heap.size + 1 by simp] at h
    show ((wr.alloc o).alloc (.cells #[v] T)).cell? ⟨wr.heap.size + 1, 0, none⟩ = some v
    simp only [World.cell?, h]
    rfl
  · simp at hj
/-- One row more. -/
theorem P1.more {w wr w' : World} {B s g N k : Nat} {v v' : Value} (H : P1 w wr B s g N v k) (hs : s < B) (hg : g < B) (hB : w.heap.size ≤ B) (R : Nat → Nat)
    (h3 : wr.ownsRow B 27 1 v k ((List.range k).map fun j => Value.slice (some ⟨R j, 0, none⟩) 256 256)) (h4 : ∀ j, j < k → RowP wr (R j) 256 (fun _ => 0))
    (h5 : ∀ i j, i < k → j < k → R i = R j → i = j) (h6 : ∀ j, j < k → B ≤ R j)
    (ho : w'.ownsRow B 27 1 v' (k + 1) (((List.range k).map fun j => Value.slice (some ⟨R j, 0, none⟩) 256 256) ++ [.slice (some ⟨wr.heap.size, 0, none⟩) 256 256]))
    (w1 : World) (h1 : wr.grownBy w1 none) (hr : Row w1 wr.heap.size (fun _ => 0) 256) (h2 : w1.grownBy w' v.ownBlock) : P1 w w' B s g N v' (k + 1) := by
  have own := World.ownsRow.lt h3
  have hty : ∀ r c f, RowP wr r c f → some r ≠ v.ownBlock := by
    intro r c f hrp e
    obtain ⟨cur, hh, _⟩ := hrp
    rcases h3.2 with ⟨rfl, _⟩ | ⟨g', cap, cur', rfl, _, hh', _⟩
    · simp [Value.ownBlock] at e
    · simp [Value.ownBlock] at e
      subst e
      rw [hh'] at hh
      injection hh with hh
      injection hh with _ h7
      exact absurd h7 (by decide)
  have hnew : some wr.heap.size ≠ v.ownBlock := fun e => by have := (own _ e.symm).2; omega
  refine ⟨((H.st).kept h1 (by simp) (by simp)).kept h2 (fun e => by have := (own _ e.symm).1; omega) (fun e => by have := (own _ e.symm).1; omega), ?_, ?_, ?_⟩
  · refine ⟨fun j => if j = k then wr.heap.size else R j, ?_, fun j hj => ?_, fun i j hi hj e => ?_, fun j hj => ?_⟩
    · have h := ho
      have e : (List.range (k + 1)).map (fun j => Value.slice (some ⟨if j = k then wr.heap.size else R j, 0, none⟩) 256 256) =
          (List.range k).map (fun j => Value.slice (some ⟨R j, 0, none⟩) 256 256) ++ [.slice (some ⟨wr.heap.size, 0, none⟩) 256 256] := by
        rw [List.range_succ, List.map_append]
        congr 1
        · apply List.map_congr_left
          intro j hj
          have := List.mem_range.1 hj
          rw [if_neg (by omega)]
        · simp
      rw [e]; exact h
    · show RowP w' (if j = k then wr.heap.size else R j) 256 _
      by_cases c : j = k
      · rw [if_pos c]; exact (RowP.of_row hr).kept h2 hnew
      · rw [if_neg c]
        have hrp := h4 j (by omega)
        exact (hrp.kept h1 (by simp)).kept h2 (hty _ _ _ hrp)
    · change (if i = k then wr.heap.size else R i) = (if j = k then wr.heap.size else R j) at e
      have old : ∀ j, j < k → R j < wr.heap.size := fun j hj => (h4 j hj).lt
      by_cases c1 : i = k <;> by_cases c2 : j = k
      · omega
      · rw [if_pos c1, if_neg c2] at e; have := old j (by omega); omega
      · rw [if_neg c1, if_pos c2] at e; have := old i (by omega); omega
      · rw [if_neg c1, if_neg c2] at e; exact h5 i j (by omega) (by omega) e
    · show B ≤ if j = k then wr.heap.size else R j
      by_cases c : j = k
      · rw [if_pos c]; exact H.sz
      · rw [if_neg c]; exact h6 j (by omega)
  · have hb := below_up H.bel (below_of_grown h1)
    exact hb.grown h2 hb.size (fun j hj => by have := (own j hj).1; omega)
  · have := H.sz; have := h1.size; have := h2.size; omega
/-- What the second loop keeps. -/
structure PI (w wr : World) (B s g M N : Nat) (A : Option Addr) (F R C : Nat → Nat) : Prop where
  st : St wr s g N F
  md : Mdl wr B M N F R C
  pl : 0 < N → A = some ⟨M, 0, none⟩
  bel : Below w.heap.size w wr
  sz : B ≤ wr.heap.size
theorem P1.done {w wr : World} {B s g N : Nat} {v : Value} (H : P1 w wr B s g N v N) : ∃ A c M R C, v = .slice A N c ∧ N ≤ c ∧ PI w wr B s g M N A (fun _ => 0) R C := by
  obtain ⟨R, h3, h4, h5, h6⟩ := H.ex
  rcases h3.2 with ⟨rfl, rfl⟩ | ⟨g', cap, cur, rfl, hb, hg, hnc, hm, hsz, ht⟩
  · exact ⟨none, 0, 0, R, fun _ => 256, rfl, Nat.le_refl _, H.st, ⟨fun h => by omega, fun h => by omega, fun j hj => by omega, fun i j hi => by omega, fun j hj => by omega⟩, fun h => by omega, H.bel, H.sz⟩
  · refine ⟨_, cap, g', R, fun _ => 256, rfl, hnc, H.st, ⟨fun h => ⟨cur, hg, fun j hj => ?_⟩, fun _ => hb, h4, h5, h6⟩, fun _ => rfl, H.bel, H.sz⟩
    have h7 := congrArg (fun l => l[j]?) ht
    simp only [Nat.mul_one] at h7
    rw [List.getElem?_take, if_pos hj] at h7
    simpa [hj] using h7
theorem PI.below {w wr w' : World} {B s g M N : Nat} {A : Option Addr} {F R C : Nat → Nat} (H : PI w wr B s g M N A F R C) (hb : Below wr.heap.size wr w') : PI w w' B s g M N A F R C :=
  ⟨H.st.below hb, H.md.below hb, H.pl, below_up H.bel hb, Nat.le_trans H.sz hb.size⟩
theorem x_cell {w : World} {X : Nat} {cs : Array Value} {T : TypeId} {v : Value} (h : w.heap[X]? = some (.cells cs T (0, 0))) (j : Nat) (hj : cs[j]? = some v) : w.cell? ⟨X, j, none⟩ = some v := by
  rw [← hj]
  simp [World.cell?, h]
theorem below_drew (w : World) : Below w.heap.size w w.drew := ⟨rfl, rfl, rfl, Nat.le_refl _, fun _ _ => rfl⟩
theorem below_draw {w w' : World} (h : Below w.heap.size w w') : Below w.heap.size w w'.drew := ⟨h.os, h.tape, h.output, h.size, h.block⟩
theorem below_da (w : World) (o : Obj) : Below w.heap.size w (w.drew.alloc o) := ⟨(below_new w.drew o).os, (below_new w.drew o).tape, (below_new w.drew o).output, (below_new w.drew o).size, (below_new w.drew o).block⟩
/-- A store beside a model one of whose rows is a new one. -/
theorem PI.new {w w5 w7 : World} {B s g M N : Nat} {F F' R C f' : Nat → Nat} (H : St w5 s g N F') (hm : Mdl w5 B M N F R C) (hb : Below w.heap.size w w5) (hz : B ≤ w5.heap.size) (hs : s < B) (hg : g < B) (hw : w.heap.size ≤ g)
    (t r c : Nat) (ht : t < N) (h7 : w5.grownBy w7 none) (hr : RowP w7 r c f') (hl : w5.heap.size ≤ r) (h1 : ∀ i, i < 256 → f' i = F' (256 * t + i)) (h2 : ∀ j, j < N → j ≠ t → ∀ i, i < 256 → F (256 * j + i) = F' (256 * j + i)) :
    PI w (w7.setCell ⟨M, t, none⟩ (.slice (some ⟨r, 0, none⟩) 256 c)) B s g M N (some ⟨M, 0, none⟩) F' (fun j => if j = t then r else R j) (fun j => if j = t then c else C j) := by
  have hM := hm.mlo (by omega)
  have b7 := below_up hb (below_of_grown h7)
  exact ⟨(H.kept h7 (by simp) (by simp)).kept (grown_setCell w7 ⟨M, t, none⟩ _) (by simp; omega) (by simp; omega), hm.new t r c ht h7 hr hl hz h1 h2 rfl, fun _ => rfl,
    b7.setCell (p := ⟨M, t, none⟩) (show w.heap.size ≤ M by omega) _, by have := h7.size; simp [World.setCell]; omega⟩
theorem swap_cell (w : World) (b i : Nat) (u : Value) (o : Obj) (h : b < w.heap.size) : (w.setCell ⟨b, i, none⟩ u).alloc o = (w.alloc o).setCell ⟨b, i, none⟩ u := (World.setCell_alloc_past o b i u h).symm
/-- A store beside a model one of whose rows has turned. -/
theorem _root_.Go.Proofs.Ythgopodjplpefaa.St.kept' {w w5 w6 w7 : World} {B s g M N r : Nat} {F F' R C : Nat → Nat} (H : St w5 s g N F') (_hm : Mdl w5 B M N F R C) (hb : Below w.heap.size w w5) (hz : B ≤ w5.heap.size) (hs : s < B) (hg : g < B) (hr : B ≤ r)
    (h6 : Below w5.heap.size w5 w6) (h7 : w6.grownBy w7 (some r)) (hm : Mdl w7 B M N F' R C) (hw : w.heap.size ≤ g := by omega) : PI w w7 B s g M N (some ⟨M, 0, none⟩) F' R C :=
  ⟨(H.below h6).kept h7 (fun e => by injection e with e; omega) (fun e => by injection e with e; omega), hm, fun _ => rfl,
    (below_up hb h6).grown h7 (below_up hb h6).size (fun j hj => by injection hj with hj; omega), by have := h6.size; have := h7.size; omega⟩
set_option maxHeartbeats 8000000 in
theorem plays (n : Nat) (hn : n < 256) (a : Option Addr) (len cap : Nat) (w : World) (ha : IsS22 w a len) (hlen : len ≤ 50) :
    Calls Try.prog 3 #[.int .u8 n, .slice a len cap] w fun e w' => e = .returned (.bool true) ∧ Below w.heap.size w w' := by
  have HA := Lib.hid ha
  clear ha
  go_enter Try.func3, Try.ntmps3
  go_wp2_with fail
  refine (awake4_in _).mono ?_
  rintro e w1 ⟨rfl, b1⟩
  go_wp2_with fail
  obtain ⟨N, hN⟩ : ∃ N : Nat, (n : Int) % 5 = N := ⟨n % 5, by omega⟩
  have hN4 : N ≤ 4 := by omega
  rw [hN]
  clear hN
  have hnew := new_in N (by omega) w1
  rw [show clampN N = N by unfold clampN; omega] at hnew
  refine hnew.mono ?_
  clear hnew
  rintro e w2 ⟨rfl, h1, h2⟩
  have b2 := below_up b1 (below_of_grown h2)
  obtain ⟨s, hs⟩ : ∃ s, w1.heap.size + 1 = s := ⟨_, rfl⟩
  obtain ⟨g, hg⟩ : ∃ g, w1.heap.size = g := ⟨_, rfl⟩
  rw [hs, hg] at h1
  have hg1 : w.heap.size ≤ g := by rw [← hg]; exact b1.size
  have hsl := h1.lt
  have hgl := h1.row.lt
  rw [hs]
  have HL0 : Hid (P1 w w2 w2.heap.size s g N (.slice none 0 0) 0) := Lib.hid ⟨h1, ⟨fun _ => 0, World.ownsRow_nil _ _ _ _, fun j hj => by omega, fun i j hi => by omega, fun j hj => by omega⟩, b2, Nat.le_refl _⟩
  obtain ⟨B, hB⟩ : ∃ B, w2.heap.size = B := ⟨_, rfl⟩
  rw [hB] at HL0 hsl hgl
  clear h1 h2 hs hg b1 b2 hB
  obtain ⟨i0, hi0, hz0, hz1, hz2⟩ := info_parts info27
  have I0 := Lib.hid (And.intro hi0 (And.intro hz0 (And.intro hz1 hz2)))
  clear hi0 hz0 hz1 hz2
  go_wp2_with fail
  go_loopw [7, 8] (fun v i wr => ∃ k : Nat, k ≤ N ∧ i = .int .i64 k ∧ P1 w wr B s g N v k) (fun _ i _ => N - (intOf i).toNat)
  case atStart => exact ⟨0, by omega, rfl, HL0.out⟩
  case round =>
    obtain ⟨k, hk, rfl, HL⟩ := hrel
    have HL' := Lib.hid HL
    clear HL HL0
    by_cases hlt : k < N
    · obtain ⟨R, h3, h4, h5, h6⟩ := (HL'.out).ex
      have HX := Lib.hid (And.intro h3 (And.intro h4 (And.intro h5 h6)))
      clear h3 h4 h5 h6
      have hmk : (Instr.makeSlice 27 (.int .i64 256) (.int .i64 256)).run Try.prog wr = _ := make_run wr 256 (by omega)
      go_wp2_with (at_builtin
                   go_loud (
                   refine wpList_append_own _ rfl (.tmp 35) (.tmp 37) _ rfl B 27 i0 (.slice none 0 0) 1 24 und26 (I0.out).1 (I0.out).2.1 (I0.out).2.2.1 (I0.out).2.2.2 rfl (by omega) u7 k ((List.range k).map fun j => Value.slice (some ⟨R j, 0, none⟩) 256 256) rfl
                     (World.ownsRow.alloc (World.ownsRow.alloc (HX.out).1 _) _) ⟨wr.heap.size + 1, 0, none⟩ 1 1 [.slice (some ⟨wr.heap.size, 0, none⟩) 256 256] rfl rfl (one_cell wr _ _ _) (by simp [Value.oneCell']) (by unfold maxLen; omega) (by omega) (by have := (HL'.out).sz; simp; omega) ?_
                   intro v7 w7 ho7 hg7 hat7
                   have HL7 := Lib.hid ((HL'.out).more hsl hgl (by omega) R (HX.out).1 (HX.out).2.1 (HX.out).2.2.1 (HX.out).2.2.2 ho7 _ ((World.grownBy_alloc wr _ none).trans (World.grownBy_alloc _ _ none)) ((Row.new wr _ 256).kept (World.grownBy_alloc _ _ none) (by simp)) hg7)
                   clear ho7 hg7 hat7))
      go_roundw
      case rel => exact ⟨k + 1, by omega, by go_num, HL7.out⟩
      case measure => simp [intOf]; omega
    · obtain rfl : k = N := by omega
      obtain ⟨A, c, M, R0, C0, rfl, hkc, HI0⟩ := (HL'.out).done
      have HI0' := Lib.hid HI0
      clear HI0 HL' hlt
      go_wp2_with fail
      go_loopw [9] (fun i wr2 => ∃ (q : Nat) (F R C : Nat → Nat), q ≤ len ∧ i = .int .i64 q ∧ PI w wr2 B s g M k A F R C) (fun i _ => len - (intOf i).toNat)
      case atStart => exact ⟨0, _, R0, C0, by omega, rfl, HI0'.out⟩
      case round =>
        obtain ⟨q, F, R, C, hq, rfl, HI⟩ := hrel
        have HI' := Lib.hid HI
        clear HI HI0'
        by_cases hlt2 : q < len
        · obtain ⟨b, off, rfl, hbl, K, Fr, Of, Pa, Pl, Pc, Pz, W, q0, q1, q2, q3, q4, bK, bF, bO, rP, bW⟩ := (HA.out).2 q hlt2
          have e0 := ((HI'.out).bel.cell (p := ⟨b, off + q * 5 + 0, none⟩) hbl).trans q0
          have e1 := ((HI'.out).bel.cell (p := ⟨b, off + q * 5 + 1, none⟩) hbl).trans q1
          have e2 := ((HI'.out).bel.cell (p := ⟨b, off + q * 5 + 2, none⟩) hbl).trans q2
          have e3 := ((HI'.out).bel.cell (p := ⟨b, off + q * 5 + 3, none⟩) hbl).trans q3
          have e4 := ((HI'.out).bel.cell (p := ⟨b, off + q * 5 + 4, none⟩) hbl).trans q4
          simp only [Nat.add_zero] at e0
          clear q0 q1 q2 q3 q4
          go_upto_region 14 with fail
          obtain ⟨w3, hw3⟩ : ∃ w3, wr.alloc (.cells #[.int .u8 K, .int .i64 Fr, .int .i64 Of, .slice Pa Pl Pc, .int .u64 W] 30) = w3 := ⟨_, rfl⟩
          have HX3 := heap_alloc_new wr (.cells #[.int .u8 K, .int .i64 Fr, .int .i64 Of, .slice Pa Pl Pc, .int .u64 W] 30)
          have hb3 := below_new wr (.cells #[.int .u8 K, .int .i64 Fr, .int .i64 Of, .slice Pa Pl Pc, .int .u64 W] 30)
          rw [hw3] at HX3 hb3
          rw [hw3]
          have HI3 := Lib.hid ((HI'.out).below hb3)
          obtain ⟨X, hX⟩ : ∃ X, wr.heap.size = X := ⟨_, rfl⟩
          have hXB : B ≤ X := by rw [← hX]; exact (HI'.out).sz
          rw [hX] at HX3
          rw [hX]
          have HXB := Lib.hid HX3
          clear HX3 hb3 hw3 hX HI' e0 e1 e2 e3 e4
          obtain ⟨hPm, pf, hPb, hPf, _⟩ := IsRow.bytes rP
          have HPB := Lib.hid hPb
          have HPF := Lib.hid hPf
          unfold maxLen at hPm
          clear rP hPb hPf
          by_cases h300 : 300 < Pl
          · have x3 := x_cell HXB.out 3 rfl
            go_wp2
            go_ret
            exact ⟨rfl, (HI3.out).bel⟩
          · have x3 := x_cell HXB.out 3 rfl
            have x1 := x_cell HXB.out 1 rfl
            have x2 := x_cell HXB.out 2 rfl
            have x0 := x_cell HXB.out 0 rfl
            have x4 := x_cell HXB.out 4 rfl
            go_upto_region 16 with fail
            go_cut [11] from 39 to 219 (fun v wx => wx = w3 ∧ ∃ hb : Bool, v = .bool hb ∧ (hb = true ↔ 0 ≤ Fr ∧ Fr < k))
            case first =>
              have hfr : Fr < 0 ∨ (0 ≤ Fr ∧ (k : Int) ≤ Fr) ∨ (0 ≤ Fr ∧ Fr < k) := by omega
              rcases hfr with c1 | ⟨c1, c2⟩ | ⟨c1, c2⟩
              · go_wp2
                go_meet
                exact ⟨rfl, false, rfl, by simp; omega⟩
              · have t9 : decide (Fr < (k : Int)) = false := by simp; omega
                go_wp2
                go_meet
                exact ⟨rfl, false, rfl, by simp; omega⟩
              · go_wp2
                go_meet
                exact ⟨rfl, true, rfl, by simp; omega⟩
            case rest =>
              obtain ⟨rfl, hb, rfl, hhb⟩ := hcut
              have HHB := Lib.hid hhb
              clear hhb
              go_upto_block 4 with fail
              obtain ⟨d, hd⟩ : ∃ d : Nat, (K : Int) % 5 = d := ⟨K % 5, by omega⟩
              have hd5 : d < 5 := by omega
              rw [hd]
              clear hd x0
              go_cut [12, 13] from 39 to 219 (fun e o wx => ∃ F R C : Nat → Nat, PI w wx B s g M k A F R C ∧ ((o = .bool true ∧ e = .int .i64 0) ∨ (o = .bool false ∧ e = .int .i64 1)))
              case first =>
                have hd6 : d = 2 ∨ d = 3 ∨ d = 4 ∨ d = 0 ∨ d = 1 := by omega
                rcases hd6 with rfl | rfl | rfl | rfl | rfl
                --BEGIN B2
                · as_aux_lemma =>
                    have hc : hb = false ∨ (hb = true ∧ (Of < 0 ∨ (0 ≤ Of ∧ 32 ≤ Of) ∨ (0 ≤ Of ∧ Of < 32))) := by
                      cases hb <;> simp <;> omega
                    rcases hc with rfl | ⟨rfl, c1 | ⟨c1, c2⟩ | ⟨c1, c2⟩⟩
                    · have HS := Lib.hid (save_no (HI3.out).st Fr Of W (by have := HHB.out; simp at this; omega))
                      go_wp2_with fail
                      refine (HS.out).mono ?_
                      rintro e w5 ⟨rfl, b5⟩
                      have HI5 := Lib.hid ((HI3.out).below b5)
                      clear b5
                      go_wp2
                      go_meet
                      exact ⟨F, R, C, HI5.out, .inr ⟨rfl, rfl⟩⟩
                    · have HS := Lib.hid (save_no (HI3.out).st Fr Of W (by omega))
                      go_wp2_with fail
                      refine (HS.out).mono ?_
                      rintro e w5 ⟨rfl, b5⟩
                      have HI5 := Lib.hid ((HI3.out).below b5)
                      clear b5
                      go_wp2
                      go_meet
                      exact ⟨F, R, C, HI5.out, .inr ⟨rfl, rfl⟩⟩
                    · have HS := Lib.hid (save_no (HI3.out).st Fr Of W (by omega))
                      have t9 : decide (Of < 32) = false := by simp; omega
                      go_wp2_with fail
                      refine (HS.out).mono ?_
                      rintro e w5 ⟨rfl, b5⟩
                      have HI5 := Lib.hid ((HI3.out).below b5)
                      clear b5
                      go_wp2
                      go_meet
                      exact ⟨F, R, C, HI5.out, .inr ⟨rfl, rfl⟩⟩
                    · obtain ⟨f0, f1⟩ := (HHB.out).1 rfl
                      obtain ⟨t, rfl⟩ := Int.eq_ofNat_of_zero_le f0
                      obtain ⟨o, rfl⟩ := Int.eq_ofNat_of_zero_le c1
                      have HS := Lib.hid (save_ok (HI3.out).st t o W (by omega) (by omega))
                      go_wp2_with fail
                      refine (HS.out).mono ?_
                      rintro e w5 ⟨rfl, h5, hg5⟩
                      have md5 := (HI3.out).md.low g hg5 hgl
                      have bl5 := (HI3.out).bel.grown hg5 (HI3.out).bel.size (fun j hj => by injection hj with hj; omega)
                      have sz5 : B ≤ w5.heap.size := by have := hg5.size; have := (HI3.out).sz; omega
                      have hXB5 := (hg5.block X (Array.getElem?_eq_some_iff.1 HXB.out).1 (by simp; omega)).trans HXB.out
                      obtain rfl := (HI3.out).pl (by omega)
                      have mc := md5.cell t (by omega)
                      clear x1 x2 x3 x4 hg5 HS
                      have x1 := x_cell hXB5 1 rfl
                      have x2 := x_cell hXB5 2 rfl
                      have x4 := x_cell hXB5 4 rfl
                      have hX5 : X < w5.heap.size := (Array.getElem?_eq_some_iff.1 hXB5).1
                      have hM5 := md5.mlt (by omega)
                      have hR5 := (md5.rows t (by omega)).lt
                      have n1 : R t ≠ X := (md5.rows t (by omega)).ne_blk hXB5 (by decide)
                      have n2 : R t ≠ M := md5.ne t (by omega)
                      have n3 : B ≤ R t := md5.lo t (by omega)
                      have n5 : M ≠ X := md5.ne_blk (by omega) hXB5 (by decide)
                      have n4 : 256 ≤ C t := by obtain ⟨_, _, _, h, _⟩ := md5.rows t (by omega); exact h
                      have hcf : ¬ (C t = 8 * o) := by omega
                      have k1 : IntKind.i64.wrap (8 * (o : Int)) = 8 * (o : Int) := IntWalk.i64_in _ (by omega)
                      have k2 : (0 : Int) ≤ 8 * (o : Int) := by omega
                      have k3 : 8 * (o : Int) ≤ 256 := by omega
                      have k4 : (8 * (o : Int)).toNat = 8 * o := by omega
                      have MD5 := Lib.hid md5
                      have H5 := Lib.hid h5
                      clear md5 h5 hXB5
                      go_wp2_with fail
                      go_region_held3 (fun w' => w'.cell? ⟨X, 1, none⟩ = some (.int .i64 (t : Nat)) ∧ w'.cell? ⟨X, 2, none⟩ = some (.int .i64 (o : Nat)) ∧ w'.cell? ⟨X, 4, none⟩ = some (.int .u64 (W : Nat)) ∧ w'.cell? ⟨M, t, none⟩ = some (.slice (some ⟨R t, 0, none⟩) 256 (C t)))
                        (first
                          | go_keep
                          | (go_split_ands
                             refine ⟨?_, ?_, ?_, ?_⟩
                             · (rw [hg7.cell_far _ (by simp; omega) (by simp; omega)]; assumption)
                             · (rw [hg7.cell_far _ (by simp; omega) (by simp; omega)]; assumption)
                             · (rw [hg7.cell_far _ (by simp; omega) (by simp; omega)]; assumption)
                             · (rw [hg7.cell_far _ (by simp; omega) (by simp; omega)]; assumption)))
                        (first
                          | (go_at_call 11; refine (bytes_in W _).mono ?_; rintro e w' ⟨rfl, rfl⟩)
                          | (refine step_putP rfl (.tmp 136) (.tmp 139) _ _ rfl _ und8 one8 (some ⟨R t, 8 * o, none⟩) (some ⟨w5.heap.size, 0, none⟩) (256 - 8 * o) (C t - 8 * o) 8 8 (by simp [Act.eval]) (by simp [Act.eval]) (R t) (C t) (8 * o) 8 (fun i => F (256 * t + i)) (byteN W) (((MD5.out).rows t (by omega)).da _) (by show 8 = Nat.min 8 (256 - 8 * o); exact (Nat.min_eq_left (by omega)).symm) (by omega) (fun _ => rfl) (bytes_at W w5.drew) ?_
                             intro w7 hr7 hg7))
                      all_goals
                        have bd := below_da w5 (.cells (bytesArr W 8) 5)
                        have HI7 := Lib.hid ((H5.out).kept' (MD5.out) bl5 sz5 hsl hgl n3 bd hg7 (((MD5.out).below bd).put t (by omega) hg7 hr7 (fun i _ => put_same F (byteN W) t (8 * o) 8 _ (by omega) i) (fun j hj hne i hi => put_other F (byteN W) t (8 * o) 8 _ (by omega) (by omega) j i hne hi)))
                        clear hr7 hg7 bd
                        go_wp2
                        go_meet
                        exact ⟨_, R, C, HI7.out, .inl ⟨rfl, rfl⟩⟩
                --END B2
                --BEGIN B3
                · as_aux_lemma =>
                    cases hb
                    · have HS := Lib.hid (clear_no (HI3.out).st Fr (by have := HHB.out; simp at this; omega))
                      go_wp2_with fail
                      refine (HS.out).mono ?_
                      rintro e w5 ⟨rfl, rfl⟩
                      go_wp2
                      go_meet
                      exact ⟨F, R, C, HI3.out, .inr ⟨rfl, rfl⟩⟩
                    · obtain ⟨f0, f1⟩ := (HHB.out).1 rfl
                      obtain ⟨t, rfl⟩ := Int.eq_ofNat_of_zero_le f0
                      have HS := Lib.hid (clear_ok (HI3.out).st t (by omega))
                      go_wp2_with fail
                      refine (HS.out).mono ?_
                      rintro e w5 ⟨rfl, h5, hg5⟩
                      have md5 := (HI3.out).md.low g hg5 hgl
                      have bl5 := (HI3.out).bel.grown hg5 (HI3.out).bel.size (fun j hj => by injection hj with hj; omega)
                      have sz5 : B ≤ w5.heap.size := by have := hg5.size; have := (HI3.out).sz; omega
                      have hXB5 := (hg5.block X (Array.getElem?_eq_some_iff.1 HXB.out).1 (by simp; omega)).trans HXB.out
                      obtain rfl := (HI3.out).pl (by omega)
                      have mc := md5.cell t (by omega)
                      clear x1 x2 x3 x4 hg5 HS
                      have x1 := x_cell hXB5 1 rfl
                      have hX5 : X < w5.heap.size := (Array.getElem?_eq_some_iff.1 hXB5).1
                      have hM5 := md5.mlt (by omega)
                      have hR5 := (md5.rows t (by omega)).lt
                      have n1 : R t ≠ X := (md5.rows t (by omega)).ne_blk hXB5 (by decide)
                      have n2 : R t ≠ M := md5.ne t (by omega)
                      have n3 : B ≤ R t := md5.lo t (by omega)
                      have n5 : M ≠ X := md5.ne_blk (by omega) hXB5 (by decide)
                      have n4 : 256 ≤ C t := by obtain ⟨_, _, _, h, _⟩ := md5.rows t (by omega); exact h
                      have mf := md5.frozen (by omega) t
                      have hmk : ∀ V : World, (Instr.makeSlice 27 (.int .i64 256) (.int .i64 256)).run Try.prog V = .ok (.slice (some ⟨V.heap.size, 0, none⟩) 256 256) (V.alloc (.cells (rowV (fun _ => 0) 256).toArray 5)) := fun V => make_run V 256 (by omega)
                      have MD5 := Lib.hid md5
                      have H5 := Lib.hid h5
                      clear md5 h5 hXB5
                      go_wp2_with fail
                      go_region
                      have HI7 := Lib.hid ((PI.new (H5.out) (MD5.out) bl5 sz5 hsl hgl (by omega) t w5.heap.size 256 (by omega) (World.grownBy_alloc w5 (.cells (rowV (fun _ => 0) 256).toArray 5) none) (RowP.of_row (Row.new w5 (fun _ => 0) 256)) (Nat.le_refl _)
                        (fun i hi => by unfold putF; rw [if_pos (by omega)]) (fun j hj hne i hi => put_other F (fun _ => 0) t 0 256 _ (by omega) (by omega) j i hne hi)).below (below_drew _))
                      rw [← swap_cell w5 M t _ _ hM5] at HI7
                      go_wp2
                      go_meet
                      exact ⟨_, _, _, HI7.out, .inl ⟨rfl, rfl⟩⟩
                --END B3
                --BEGIN B4
                · as_aux_lemma =>
                    have hc : hb = false ∨ (hb = true ∧ (Of < 0 ∨ (0 ≤ Of ∧ (k : Int) ≤ Of) ∨ (0 ≤ Of ∧ Of < k))) := by
                      cases hb <;> simp <;> omega
                    rcases hc with rfl | ⟨rfl, c1 | ⟨c1, c2⟩ | ⟨c1, c2⟩⟩
                    · have HS := Lib.hid (copy_no (HI3.out).st Fr Of (by have := HHB.out; simp at this; omega))
                      go_wp2_with fail
                      refine (HS.out).mono ?_
                      rintro e w5 ⟨rfl, rfl⟩
                      go_wp2
                      go_meet
                      exact ⟨F, R, C, HI3.out, .inr ⟨rfl, rfl⟩⟩
                    · have HS := Lib.hid (copy_no (HI3.out).st Fr Of (by omega))
                      go_wp2_with fail
                      refine (HS.out).mono ?_
                      rintro e w5 ⟨rfl, rfl⟩
                      go_wp2
                      go_meet
                      exact ⟨F, R, C, HI3.out, .inr ⟨rfl, rfl⟩⟩
                    · have HS := Lib.hid (copy_no (HI3.out).st Fr Of (by omega))
                      have t9 : decide (Of < (k : Int)) = false := by simp; omega
                      go_wp2_with fail
                      refine (HS.out).mono ?_
                      rintro e w5 ⟨rfl, rfl⟩
                      go_wp2
                      go_meet
                      exact ⟨F, R, C, HI3.out, .inr ⟨rfl, rfl⟩⟩
                    · obtain ⟨f0, f1⟩ := (HHB.out).1 rfl
                      obtain ⟨t, rfl⟩ := Int.eq_ofNat_of_zero_le f0
                      obtain ⟨o, rfl⟩ := Int.eq_ofNat_of_zero_le c1
                      have HS := Lib.hid (copy_ok (HI3.out).st t o (by omega) (by omega))
                      go_wp2_with fail
                      refine (HS.out).mono ?_
                      rintro e w5 ⟨rfl, h5, hg5⟩
                      have md5 := (HI3.out).md.low g hg5 hgl
                      have bl5 := (HI3.out).bel.grown hg5 (HI3.out).bel.size (fun j hj => by injection hj with hj; omega)
                      have sz5 : B ≤ w5.heap.size := by have := hg5.size; have := (HI3.out).sz; omega
                      have hXB5 := (hg5.block X (Array.getElem?_eq_some_iff.1 HXB.out).1 (by simp; omega)).trans HXB.out
                      obtain rfl := (HI3.out).pl (by omega)
                      have mc := md5.cell t (by omega)
                      clear x1 x2 x3 x4 hg5 HS
                      have x1 := x_cell hXB5 1 rfl
                      have x2 := x_cell hXB5 2 rfl
                      have hX5 : X < w5.heap.size := (Array.getElem?_eq_some_iff.1 hXB5).1
                      have hM5 := md5.mlt (by omega)
                      have hR5 := (md5.rows t (by omega)).lt
                      have n1 : R t ≠ X := (md5.rows t (by omega)).ne_blk hXB5 (by decide)
                      have n2 : R t ≠ M := md5.ne t (by omega)
                      have n3 : B ≤ R t := md5.lo t (by omega)
                      have n5 : M ≠ X := md5.ne_blk (by omega) hXB5 (by decide)
                      have n4 : 256 ≤ C t := by obtain ⟨_, _, _, h, _⟩ := md5.rows t (by omega); exact h
                      have mco := md5.cell o (by omega)
                      have mf := md5.frozen (by omega) t
                      have MD5 := Lib.hid md5
                      have H5 := Lib.hid h5
                      clear md5 h5 hXB5
                      go_wp2_with fail
                      go_region_law (refine step_app8 rfl _ (.tmp 181) rfl rfl (some ⟨R o, 0, none⟩) (C o) (fun i => F (256 * o + i)) (by simp [Act.eval]) ((MD5.out).rows o (by omega)).bytes ?_
                                     intro r7 c7 w7 hr7 hl7 hg7
                                     have x17 := (hg7.cell_far ⟨X, 1, none⟩ hX5 (by simp)).trans x1
                                     have mc7 := (hg7.cell_far ⟨M, t, none⟩ hM5 (by simp)).trans mc
                                     have mf7 := (hg7.frozen_far ⟨M, t, none⟩ hM5 (by simp)).trans mf)
                      all_goals
                        have hg8 : w5.grownBy w7 none := ⟨hg7.os, hg7.tape, hg7.output, hg7.size, hg7.block⟩
                        have HI7 := Lib.hid (PI.new (H5.out) (MD5.out) bl5 sz5 hsl hgl (by omega) t r7 c7 (by omega) hg8 hr7 hl7
                          (fun i hi => by unfold putF; rw [if_pos (by omega)]; congr 1; omega) (fun j hj hne i hi => put_other F (fun i => F (o * 256 + i)) t 0 256 _ (by omega) (by omega) j i hne hi))
                        clear hr7 hg7 hg8 hl7 x17 mc7 mf7
                        go_wp2
                        go_meet
                        exact ⟨_, _, _, HI7.out, .inl ⟨rfl, rfl⟩⟩
                --END B4
                --BEGIN B00
                · as_aux_lemma =>
                    have hc : hb = false ∨ (hb = true ∧ (Of < 0 ∨ (0 ≤ Of ∧ 256 < Of) ∨ (0 ≤ Of ∧ Of ≤ 256 ∧ 256 - Of < Pl) ∨ (0 ≤ Of ∧ Of < 256 ∧ Pl ≤ 256 - Of) ∨ (Of = 256 ∧ Pl ≤ 256 - Of))) := by
                      cases hb <;> simp <;> omega
                    rcases hc with rfl | ⟨rfl, c1 | ⟨c1, c2⟩ | ⟨c1, c2, c3⟩ | ⟨c1, c2, c3⟩ | ⟨rfl, c3⟩⟩
                    · have HS := Lib.hid (write_no (HI3.out).st Fr Of Pa Pl Pc bO (by have := HHB.out; simp at this; unfold PartOk; omega))
                      go_wp2_with fail
                      refine (HS.out).mono ?_
                      rintro e w5 ⟨rfl, rfl⟩
                      go_wp2
                      go_meet
                      exact ⟨F, R, C, HI3.out, .inr ⟨rfl, rfl⟩⟩
                    · have HS := Lib.hid (write_no (HI3.out).st Fr Of Pa Pl Pc bO (by unfold PartOk; omega))
                      go_wp2_with fail
                      refine (HS.out).mono ?_
                      rintro e w5 ⟨rfl, rfl⟩
                      go_wp2
                      go_meet
                      exact ⟨F, R, C, HI3.out, .inr ⟨rfl, rfl⟩⟩
                    · have HS := Lib.hid (write_no (HI3.out).st Fr Of Pa Pl Pc bO (by unfold PartOk; omega))
                      go_wp2_with fail
                      refine (HS.out).mono ?_
                      rintro e w5 ⟨rfl, rfl⟩
                      go_wp2
                      go_meet
                      exact ⟨F, R, C, HI3.out, .inr ⟨rfl, rfl⟩⟩
                    · have HS := Lib.hid (write_no (HI3.out).st Fr Of Pa Pl Pc bO (by unfold PartOk; omega))
                      have t9 : decide ((Pl : Int) ≤ 256 - Of) = false := by simp; omega
                      go_wp2_with fail
                      refine (HS.out).mono ?_
                      rintro e w5 ⟨rfl, rfl⟩
                      go_wp2
                      go_meet
                      exact ⟨F, R, C, HI3.out, .inr ⟨rfl, rfl⟩⟩
                    · obtain ⟨f0, f1⟩ := (HHB.out).1 rfl
                      obtain ⟨t, rfl⟩ := Int.eq_ofNat_of_zero_le f0
                      obtain ⟨o, rfl⟩ := Int.eq_ofNat_of_zero_le c1
                      have HS := Lib.hid (write_ok (HI3.out).st t o Pa Pl Pc pf HPF.out ((HPB.out).kept (HI3.out).bel) (by unfold PartOk; omega))
                      go_wp2_with fail
                      refine (HS.out).mono ?_
                      rintro e w5 ⟨rfl, h5, hg5⟩
                      rw [Int.toNat_natCast, Int.toNat_natCast] at h5
                      have md5 := (HI3.out).md.low g hg5 hgl
                      have bl5 := (HI3.out).bel.grown hg5 (HI3.out).bel.size (fun j hj => by injection hj with hj; omega)
                      have sz5 : B ≤ w5.heap.size := by have := hg5.size; have := (HI3.out).sz; omega
                      have hXB5 := (hg5.block X (Array.getElem?_eq_some_iff.1 HXB.out).1 (by simp; omega)).trans HXB.out
                      obtain rfl := (HI3.out).pl (by omega)
                      have mc := md5.cell t (by omega)
                      clear x1 x2 x3 x4 hg5 HS
                      have x1 := x_cell hXB5 1 rfl
                      have x2 := x_cell hXB5 2 rfl
                      have x3 := x_cell hXB5 3 rfl
                      have hX5 : X < w5.heap.size := (Array.getElem?_eq_some_iff.1 hXB5).1
                      have hM5 := md5.mlt (by omega)
                      have hR5 := (md5.rows t (by omega)).lt
                      have n1 : R t ≠ X := (md5.rows t (by omega)).ne_blk hXB5 (by decide)
                      have n2 : R t ≠ M := md5.ne t (by omega)
                      have n3 : B ≤ R t := md5.lo t (by omega)
                      have n5 : M ≠ X := md5.ne_blk (by omega) hXB5 (by decide)
                      have n4 : 256 ≤ C t := by obtain ⟨_, _, _, h, _⟩ := md5.rows t (by omega); exact h
                      have hcf : ¬ (C t = o) := by omega
                      have k2 : (0 : Int) ≤ (o : Int) := by omega
                      have k3 : (o : Int) ≤ 256 := by omega
                      have MD5 := Lib.hid md5
                      have H5 := Lib.hid h5
                      clear md5 h5 hXB5
                      go_wp2_with fail
                      go_region_held3 (fun w' => w'.cell? ⟨X, 1, none⟩ = some (.int .i64 (t : Nat)) ∧ w'.cell? ⟨X, 2, none⟩ = some (.int .i64 (o : Nat)) ∧ w'.cell? ⟨X, 3, none⟩ = some (.slice Pa Pl Pc) ∧ w'.cell? ⟨M, t, none⟩ = some (.slice (some ⟨R t, 0, none⟩) 256 (C t)))
                        (first
                          | go_keep
                          | (go_split_ands
                             refine ⟨?_, ?_, ?_, ?_⟩
                             · (rw [hg7.cell_far _ (by simp; omega) (by simp; omega)]; assumption)
                             · (rw [hg7.cell_far _ (by simp; omega) (by simp; omega)]; assumption)
                             · (rw [hg7.cell_far _ (by simp; omega) (by simp; omega)]; assumption)
                             · (rw [hg7.cell_far _ (by simp; omega) (by simp; omega)]; assumption)))
                        (first
                          | (refine step_putP rfl (.tmp 102) (.tmp 104) _ _ rfl _ und8 one8 (some ⟨R t, o, none⟩) Pa (256 - o) (C t - o) Pl Pc (by simp [Act.eval]) (by simp [Act.eval]) (R t) (C t) o Pl (fun i => F (256 * t + i)) pf (((MD5.out).rows t (by omega)).dr) (by show Pl = Nat.min Pl (256 - o); exact (Nat.min_eq_left (by omega)).symm) (by omega) (fun _ => rfl) ((HPB.out).kept (below_draw bl5)) ?_
                             intro w7 hr7 hg7))
                      all_goals
                        have bd := below_drew w5
                        have HI7 := Lib.hid ((H5.out).kept' (MD5.out) bl5 sz5 hsl hgl n3 bd hg7 (((MD5.out).below bd).put t (by omega) hg7 hr7 (fun i _ => put_same F pf t o Pl _ rfl i) (fun j hj hne i hi => put_other F pf t o Pl _ rfl (by omega) j i hne hi)))
                        clear hr7 hg7 bd
                        go_wp2
                        go_meet
                        exact ⟨_, R, C, HI7.out, .inl ⟨rfl, rfl⟩⟩
                    · obtain ⟨f0, f1⟩ := (HHB.out).1 rfl
                      obtain ⟨t, rfl⟩ := Int.eq_ofNat_of_zero_le f0
                      obtain rfl : Pl = 0 := by omega
                      have HS := Lib.hid (write_ok (HI3.out).st t 256 Pa 0 Pc pf HPF.out (BytesAt.none_ _ _ _) (by unfold PartOk; omega))
                      go_wp2_with fail
                      refine (HS.out).mono ?_
                      rintro e w5 ⟨rfl, h5, hg5⟩
                      rw [putF_none] at h5
                      have md5 := (HI3.out).md.low g hg5 hgl
                      have bl5 := (HI3.out).bel.grown hg5 (HI3.out).bel.size (fun j hj => by injection hj with hj; omega)
                      have sz5 : B ≤ w5.heap.size := by have := hg5.size; have := (HI3.out).sz; omega
                      have hXB5 := (hg5.block X (Array.getElem?_eq_some_iff.1 HXB.out).1 (by simp; omega)).trans HXB.out
                      obtain rfl := (HI3.out).pl (by omega)
                      have mc := md5.cell t (by omega)
                      clear x1 x2 x3 x4 hg5 HS
                      have x1 := x_cell hXB5 1 rfl
                      have x2 := x_cell hXB5 2 rfl
                      have x3 := x_cell hXB5 3 rfl
                      have hX5 : X < w5.heap.size := (Array.getElem?_eq_some_iff.1 hXB5).1
                      have hM5 := md5.mlt (by omega)
                      have hR5 := (md5.rows t (by omega)).lt
                      have n1 : R t ≠ X := (md5.rows t (by omega)).ne_blk hXB5 (by decide)
                      have n2 : R t ≠ M := md5.ne t (by omega)
                      have n3 : B ≤ R t := md5.lo t (by omega)
                      have n5 : M ≠ X := md5.ne_blk (by omega) hXB5 (by decide)
                      have n4 : 256 ≤ C t := by obtain ⟨_, _, _, h, _⟩ := md5.rows t (by omega); exact h
                      have MD5 := Lib.hid md5
                      have H5 := Lib.hid h5
                      clear md5 h5 hXB5
                      by_cases h256 : C t = 256
                      · rw [h256] at mc
                        have H256 := Lib.hid h256
                        clear h256 n4
                        go_wp2_with fail
                        go_region_held3 (fun w' => w'.cell? ⟨X, 1, none⟩ = some (.int .i64 (t : Nat)) ∧ w'.cell? ⟨X, 2, none⟩ = some (.int .i64 256) ∧ w'.cell? ⟨X, 3, none⟩ = some (.slice Pa 0 Pc) ∧ w'.cell? ⟨M, t, none⟩ = some (.slice (some ⟨R t, 0, none⟩) 256 256))
                          (first
                            | go_keep
                            | (go_split_ands
                               refine ⟨?_, ?_, ?_, ?_⟩
                               · (rw [hg7.cell_far _ (by simp; omega) (by simp; omega)]; assumption)
                               · (rw [hg7.cell_far _ (by simp; omega) (by simp; omega)]; assumption)
                               · (rw [hg7.cell_far _ (by simp; omega) (by simp; omega)]; assumption)
                               · (rw [hg7.cell_far _ (by simp; omega) (by simp; omega)]; assumption)))
                          (first
                            | (refine step_putP rfl (.tmp 102) (.tmp 104) _ _ rfl _ und8 one8 (some ⟨R t, 0, none⟩) Pa 0 (0) 0 Pc (by simp [Act.eval]) (by simp [Act.eval]) (R t) (C t) 0 0 (fun i => F (256 * t + i)) pf (((MD5.out).rows t (by omega)).dr) (by decide) (by omega) (fun h => absurd h (by decide)) (BytesAt.none_ _ _ _) ?_
                               intro w7 hr7 hg7))
                        all_goals
                          have bd := below_drew w5
                          have HI7 := Lib.hid ((H5.out).kept' (MD5.out) bl5 sz5 hsl hgl n3 bd hg7 (((MD5.out).below bd).put t (by omega) hg7 hr7 (fun i _ => congrFun (putF_none _ _ _) i) (fun j hj hne i hi => rfl)))
                          clear hr7 hg7 bd
                          go_wp2
                          go_meet
                          exact ⟨_, R, C, HI7.out, .inl ⟨rfl, rfl⟩⟩
                      · skip
                        go_wp2_with fail
                        go_region_held3 (fun w' => w'.cell? ⟨X, 1, none⟩ = some (.int .i64 (t : Nat)) ∧ w'.cell? ⟨X, 2, none⟩ = some (.int .i64 256) ∧ w'.cell? ⟨X, 3, none⟩ = some (.slice Pa 0 Pc) ∧ w'.cell? ⟨M, t, none⟩ = some (.slice (some ⟨R t, 0, none⟩) 256 (C t)))
                          (first
                            | go_keep
                            | (go_split_ands
                               refine ⟨?_, ?_, ?_, ?_⟩
                               · (rw [hg7.cell_far _ (by simp; omega) (by simp; omega)]; assumption)
                               · (rw [hg7.cell_far _ (by simp; omega) (by simp; omega)]; assumption)
                               · (rw [hg7.cell_far _ (by simp; omega) (by simp; omega)]; assumption)
                               · (rw [hg7.cell_far _ (by simp; omega) (by simp; omega)]; assumption)))
                          (first
                            | (refine step_putP rfl (.tmp 102) (.tmp 104) _ _ rfl _ und8 one8 (some ⟨R t, 256, none⟩) Pa 0 (C t - 256) 0 Pc (by simp [Act.eval]) (by simp [Act.eval]) (R t) (C t) 0 0 (fun i => F (256 * t + i)) pf (((MD5.out).rows t (by omega)).dr) (by decide) (by omega) (fun h => absurd h (by decide)) (BytesAt.none_ _ _ _) ?_
                               intro w7 hr7 hg7))
                        all_goals
                          have bd := below_drew w5
                          have HI7 := Lib.hid ((H5.out).kept' (MD5.out) bl5 sz5 hsl hgl n3 bd hg7 (((MD5.out).below bd).put t (by omega) hg7 hr7 (fun i _ => congrFun (putF_none _ _ _) i) (fun j hj hne i hi => rfl)))
                          clear hr7 hg7 bd
                          go_wp2
                          go_meet
                          exact ⟨_, R, C, HI7.out, .inl ⟨rfl, rfl⟩⟩
                --END B00
                --BEGIN B01
                · as_aux_lemma =>
                    have hc : hb = false ∨ (hb = true ∧ (Of < 0 ∨ (0 ≤ Of ∧ 256 < Of) ∨ (0 ≤ Of ∧ Of ≤ 256 ∧ 256 - Of < Pl) ∨ (0 ≤ Of ∧ Of < 256 ∧ Pl ≤ 256 - Of) ∨ (Of = 256 ∧ Pl ≤ 256 - Of))) := by
                      cases hb <;> simp <;> omega
                    rcases hc with rfl | ⟨rfl, c1 | ⟨c1, c2⟩ | ⟨c1, c2, c3⟩ | ⟨c1, c2, c3⟩ | ⟨rfl, c3⟩⟩
                    · have HS := Lib.hid (write_no (HI3.out).st Fr Of Pa Pl Pc bO (by have := HHB.out; simp at this; unfold PartOk; omega))
                      go_wp2_with fail
                      refine (HS.out).mono ?_
                      rintro e w5 ⟨rfl, rfl⟩
                      go_wp2
                      go_meet
                      exact ⟨F, R, C, HI3.out, .inr ⟨rfl, rfl⟩⟩
                    · have HS := Lib.hid (write_no (HI3.out).st Fr Of Pa Pl Pc bO (by unfold PartOk; omega))
                      go_wp2_with fail
                      refine (HS.out).mono ?_
                      rintro e w5 ⟨rfl, rfl⟩
                      go_wp2
                      go_meet
                      exact ⟨F, R, C, HI3.out, .inr ⟨rfl, rfl⟩⟩
                    · have HS := Lib.hid (write_no (HI3.out).st Fr Of Pa Pl Pc bO (by unfold PartOk; omega))
                      go_wp2_with fail
                      refine (HS.out).mono ?_
                      rintro e w5 ⟨rfl, rfl⟩
                      go_wp2
                      go_meet
                      exact ⟨F, R, C, HI3.out, .inr ⟨rfl, rfl⟩⟩
                    · have HS := Lib.hid (write_no (HI3.out).st Fr Of Pa Pl Pc bO (by unfold PartOk; omega))
                      have t9 : decide ((Pl : Int) ≤ 256 - Of) = false := by simp; omega
                      go_wp2_with fail
                      refine (HS.out).mono ?_
                      rintro e w5 ⟨rfl, rfl⟩
                      go_wp2
                      go_meet
                      exact ⟨F, R, C, HI3.out, .inr ⟨rfl, rfl⟩⟩
                    · obtain ⟨f0, f1⟩ := (HHB.out).1 rfl
                      obtain ⟨t, rfl⟩ := Int.eq_ofNat_of_zero_le f0
                      obtain ⟨o, rfl⟩ := Int.eq_ofNat_of_zero_le c1
                      have HS := Lib.hid (write_ok (HI3.out).st t o Pa Pl Pc pf HPF.out ((HPB.out).kept (HI3.out).bel) (by unfold PartOk; omega))
                      go_wp2_with fail
                      refine (HS.out).mono ?_
                      rintro e w5 ⟨rfl, h5, hg5⟩
                      rw [Int.toNat_natCast, Int.toNat_natCast] at h5
                      have md5 := (HI3.out).md.low g hg5 hgl
                      have bl5 := (HI3.out).bel.grown hg5 (HI3.out).bel.size (fun j hj => by injection hj with hj; omega)
                      have sz5 : B ≤ w5.heap.size := by have := hg5.size; have := (HI3.out).sz; omega
                      have hXB5 := (hg5.block X (Array.getElem?_eq_some_iff.1 HXB.out).1 (by simp; omega)).trans HXB.out
                      obtain rfl := (HI3.out).pl (by omega)
                      have mc := md5.cell t (by omega)
                      clear x1 x2 x3 x4 hg5 HS
                      have x1 := x_cell hXB5 1 rfl
                      have x2 := x_cell hXB5 2 rfl
                      have x3 := x_cell hXB5 3 rfl
                      have hX5 : X < w5.heap.size := (Array.getElem?_eq_some_iff.1 hXB5).1
                      have hM5 := md5.mlt (by omega)
                      have hR5 := (md5.rows t (by omega)).lt
                      have n1 : R t ≠ X := (md5.rows t (by omega)).ne_blk hXB5 (by decide)
                      have n2 : R t ≠ M := md5.ne t (by omega)
                      have n3 : B ≤ R t := md5.lo t (by omega)
                      have n5 : M ≠ X := md5.ne_blk (by omega) hXB5 (by decide)
                      have n4 : 256 ≤ C t := by obtain ⟨_, _, _, h, _⟩ := md5.rows t (by omega); exact h
                      have hcf : ¬ (C t = o) := by omega
                      have k2 : (0 : Int) ≤ (o : Int) := by omega
                      have k3 : (o : Int) ≤ 256 := by omega
                      have MD5 := Lib.hid md5
                      have H5 := Lib.hid h5
                      clear md5 h5 hXB5
                      go_wp2_with fail
                      go_region_held3 (fun w' => w'.cell? ⟨X, 1, none⟩ = some (.int .i64 (t : Nat)) ∧ w'.cell? ⟨X, 2, none⟩ = some (.int .i64 (o : Nat)) ∧ w'.cell? ⟨X, 3, none⟩ = some (.slice Pa Pl Pc) ∧ w'.cell? ⟨M, t, none⟩ = some (.slice (some ⟨R t, 0, none⟩) 256 (C t)))
                        (first
                          | go_keep
                          | (go_split_ands
                             refine ⟨?_, ?_, ?_, ?_⟩
                             · (rw [hg7.cell_far _ (by simp; omega) (by simp; omega)]; assumption)
                             · (rw [hg7.cell_far _ (by simp; omega) (by simp; omega)]; assumption)
                             · (rw [hg7.cell_far _ (by simp; omega) (by simp; omega)]; assumption)
                             · (rw [hg7.cell_far _ (by simp; omega) (by simp; omega)]; assumption)))
                        (first
                          | (refine step_putP rfl (.tmp 102) (.tmp 104) _ _ rfl _ und8 one8 (some ⟨R t, o, none⟩) Pa (256 - o) (C t - o) Pl Pc (by simp [Act.eval]) (by simp [Act.eval]) (R t) (C t) o Pl (fun i => F (256 * t + i)) pf (((MD5.out).rows t (by omega)).dr) (by show Pl = Nat.min Pl (256 - o); exact (Nat.min_eq_left (by omega)).symm) (by omega) (fun _ => rfl) ((HPB.out).kept (below_draw bl5)) ?_
                             intro w7 hr7 hg7))
                      all_goals
                        have bd := below_drew w5
                        have HI7 := Lib.hid ((H5.out).kept' (MD5.out) bl5 sz5 hsl hgl n3 bd hg7 (((MD5.out).below bd).put t (by omega) hg7 hr7 (fun i _ => put_same F pf t o Pl _ rfl i) (fun j hj hne i hi => put_other F pf t o Pl _ rfl (by omega) j i hne hi)))
                        clear hr7 hg7 bd
                        go_wp2
                        go_meet
                        exact ⟨_, R, C, HI7.out, .inl ⟨rfl, rfl⟩⟩
                    · obtain ⟨f0, f1⟩ := (HHB.out).1 rfl
                      obtain ⟨t, rfl⟩ := Int.eq_ofNat_of_zero_le f0
                      obtain rfl : Pl = 0 := by omega
                      have HS := Lib.hid (write_ok (HI3.out).st t 256 Pa 0 Pc pf HPF.out (BytesAt.none_ _ _ _) (by unfold PartOk; omega))
                      go_wp2_with fail
                      refine (HS.out).mono ?_
                      rintro e w5 ⟨rfl, h5, hg5⟩
                      rw [putF_none] at h5
                      have md5 := (HI3.out).md.low g hg5 hgl
                      have bl5 := (HI3.out).bel.grown hg5 (HI3.out).bel.size (fun j hj => by injection hj with hj; omega)
                      have sz5 : B ≤ w5.heap.size := by have := hg5.size; have := (HI3.out).sz; omega
                      have hXB5 := (hg5.block X (Array.getElem?_eq_some_iff.1 HXB.out).1 (by simp; omega)).trans HXB.out
                      obtain rfl := (HI3.out).pl (by omega)
                      have mc := md5.cell t (by omega)
                      clear x1 x2 x3 x4 hg5 HS
                      have x1 := x_cell hXB5 1 rfl
                      have x2 := x_cell hXB5 2 rfl
                      have x3 := x_cell hXB5 3 rfl
                      have hX5 : X < w5.heap.size := (Array.getElem?_eq_some_iff.1 hXB5).1
                      have hM5 := md5.mlt (by omega)
                      have hR5 := (md5.rows t (by omega)).lt
                      have n1 : R t ≠ X := (md5.rows t (by omega)).ne_blk hXB5 (by decide)
                      have n2 : R t ≠ M := md5.ne t (by omega)
                      have n3 : B ≤ R t := md5.lo t (by omega)
                      have n5 : M ≠ X := md5.ne_blk (by omega) hXB5 (by decide)
                      have n4 : 256 ≤ C t := by obtain ⟨_, _, _, h, _⟩ := md5.rows t (by omega); exact h
                      have MD5 := Lib.hid md5
                      have H5 := Lib.hid h5
                      clear md5 h5 hXB5
                      by_cases h256 : C t = 256
                      · rw [h256] at mc
                        have H256 := Lib.hid h256
                        clear h256 n4
                        go_wp2_with fail
                        go_region_held3 (fun w' => w'.cell? ⟨X, 1, none⟩ = some (.int .i64 (t : Nat)) ∧ w'.cell? ⟨X, 2, none⟩ = some (.int .i64 256) ∧ w'.cell? ⟨X, 3, none⟩ = some (.slice Pa 0 Pc) ∧ w'.cell? ⟨M, t, none⟩ = some (.slice (some ⟨R t, 0, none⟩) 256 256))
                          (first
                            | go_keep
                            | (go_split_ands
                               refine ⟨?_, ?_, ?_, ?_⟩
                               · (rw [hg7.cell_far _ (by simp; omega) (by simp; omega)]; assumption)
                               · (rw [hg7.cell_far _ (by simp; omega) (by simp; omega)]; assumption)
                               · (rw [hg7.cell_far _ (by simp; omega) (by simp; omega)]; assumption)
                               · (rw [hg7.cell_far _ (by simp; omega) (by simp; omega)]; assumption)))
                          (first
                            | (refine step_putP rfl (.tmp 102) (.tmp 104) _ _ rfl _ und8 one8 (some ⟨R t, 0, none⟩) Pa 0 (0) 0 Pc (by simp [Act.eval]) (by simp [Act.eval]) (R t) (C t) 0 0 (fun i => F (256 * t + i)) pf (((MD5.out).rows t (by omega)).dr) (by decide) (by omega) (fun h => absurd h (by decide)) (BytesAt.none_ _ _ _) ?_
                               intro w7 hr7 hg7))
                        all_goals
                          have bd := below_drew w5
                          have HI7 := Lib.hid ((H5.out).kept' (MD5.out) bl5 sz5 hsl hgl n3 bd hg7 (((MD5.out).below bd).put t (by omega) hg7 hr7 (fun i _ => congrFun (putF_none _ _ _) i) (fun j hj hne i hi => rfl)))
                          clear hr7 hg7 bd
                          go_wp2
                          go_meet
                          exact ⟨_, R, C, HI7.out, .inl ⟨rfl, rfl⟩⟩
                      · skip
                        go_wp2_with fail
                        go_region_held3 (fun w' => w'.cell? ⟨X, 1, none⟩ = some (.int .i64 (t : Nat)) ∧ w'.cell? ⟨X, 2, none⟩ = some (.int .i64 256) ∧ w'.cell? ⟨X, 3, none⟩ = some (.slice Pa 0 Pc) ∧ w'.cell? ⟨M, t, none⟩ = some (.slice (some ⟨R t, 0, none⟩) 256 (C t)))
                          (first
                            | go_keep
                            | (go_split_ands
                               refine ⟨?_, ?_, ?_, ?_⟩
                               · (rw [hg7.cell_far _ (by simp; omega) (by simp; omega)]; assumption)
                               · (rw [hg7.cell_far _ (by simp; omega) (by simp; omega)]; assumption)
                               · (rw [hg7.cell_far _ (by simp; omega) (by simp; omega)]; assumption)
                               · (rw [hg7.cell_far _ (by simp; omega) (by simp; omega)]; assumption)))
                          (first
                            | (refine step_putP rfl (.tmp 102) (.tmp 104) _ _ rfl _ und8 one8 (some ⟨R t, 256, none⟩) Pa 0 (C t - 256) 0 Pc (by simp [Act.eval]) (by simp [Act.eval]) (R t) (C t) 0 0 (fun i => F (256 * t + i)) pf (((MD5.out).rows t (by omega)).dr) (by decide) (by omega) (fun h => absurd h (by decide)) (BytesAt.none_ _ _ _) ?_
                               intro w7 hr7 hg7))
                        all_goals
                          have bd := below_drew w5
                          have HI7 := Lib.hid ((H5.out).kept' (MD5.out) bl5 sz5 hsl hgl n3 bd hg7 (((MD5.out).below bd).put t (by omega) hg7 hr7 (fun i _ => congrFun (putF_none _ _ _) i) (fun j hj hne i hi => rfl)))
                          clear hr7 hg7 bd
                          go_wp2
                          go_meet
                          exact ⟨_, R, C, HI7.out, .inl ⟨rfl, rfl⟩⟩
                --END B01
              case rest =>
                obtain ⟨F', R', C', HI, ho⟩ := hcut
                have HI4 := Lib.hid HI
                clear HI HI3 HHB HXB x1 x2 x3 x4
                rcases ho with ⟨rfl, rfl⟩ | ⟨rfl, rfl⟩
                --BEGIN R1
                · as_aux_lemma =>
                    go_wp2_with fail
                    go_loopw [14] (fun i wx => ∃ f : Nat, f ≤ k ∧ i = .int .i64 f ∧ PI w wx B s g M k A F' R' C') (fun i _ => k - (intOf i).toNat)
                    case atStart => exact ⟨0, by omega, rfl, HI4.out⟩
                    case round =>
                      obtain ⟨f, hf, rfl, HI⟩ := hrel
                      have HI5 := Lib.hid HI
                      clear HI HI4
                      by_cases hlt3 : f < k
                      · go_wp2_with fail
                        refine (read_ok (HI5.out).st f 0 256 (by unfold PartOk; omega)).mono ?_
                        rintro e w8 ⟨rfl, h8, b8⟩
                        obtain rfl := (HI5.out).pl (by omega)
                        have HI8 := Lib.hid ((HI5.out).below b8)
                        have mc := (HI8.out).md.cell f hlt3
                        have h8' := h8.bytes0 256 (Nat.le_refl _)
                        have cv1 := fun n => conv_at (h8'.drewN n) 256
                        have hrow := ((HI8.out).md.rows f hlt3).bytes
                        have cv2 := fun n => conv_at (hrow.drewN n) (C' f)
                        rw [strF_congr _ (fun i => F' (256 * f + i)) 256 (fun i hi => by congr 1; simp; omega)] at cv1
                        clear h8 b8 h8' hrow HI5
                        go_wp2_with fail
                        go_quiet (fail)
                        go_wp2
                        go_roundw
                        case rel => exact ⟨f + 1, by omega, by go_num, (HI8.out).below (below_draws (Below.refl _ _) _)⟩
                        case measure => simp [intOf]; omega
                      · obtain rfl : f = k := by omega
                        go_wp2
                        go_roundw
                        case rel => exact ⟨q + 1, F', R', C', by omega, by go_num, HI5.out⟩
                        case measure => simp [intOf]; omega
                --END R1
                --BEGIN R2
                · as_aux_lemma =>
                    go_wp2_with fail
                    go_loopw [14] (fun i wx => ∃ f : Nat, f ≤ k ∧ i = .int .i64 f ∧ PI w wx B s g M k A F' R' C') (fun i _ => k - (intOf i).toNat)
                    case atStart => exact ⟨0, by omega, rfl, HI4.out⟩
                    case round =>
                      obtain ⟨f, hf, rfl, HI⟩ := hrel
                      have HI5 := Lib.hid HI
                      clear HI HI4
                      by_cases hlt3 : f < k
                      · go_wp2_with fail
                        refine (read_ok (HI5.out).st f 0 256 (by unfold PartOk; omega)).mono ?_
                        rintro e w8 ⟨rfl, h8, b8⟩
                        obtain rfl := (HI5.out).pl (by omega)
                        have HI8 := Lib.hid ((HI5.out).below b8)
                        have mc := (HI8.out).md.cell f hlt3
                        have h8' := h8.bytes0 256 (Nat.le_refl _)
                        have cv1 := fun n => conv_at (h8'.drewN n) 256
                        have hrow := ((HI8.out).md.rows f hlt3).bytes
                        have cv2 := fun n => conv_at (hrow.drewN n) (C' f)
                        rw [strF_congr _ (fun i => F' (256 * f + i)) 256 (fun i hi => by congr 1; simp; omega)] at cv1
                        clear h8 b8 h8' hrow HI5
                        go_wp2_with fail
                        go_quiet (fail)
                        go_wp2
                        go_roundw
                        case rel => exact ⟨f + 1, by omega, by go_num, (HI8.out).below (below_draws (Below.refl _ _) _)⟩
                        case measure => simp [intOf]; omega
                      · obtain rfl : f = k := by omega
                        go_wp2
                        go_roundw
                        case rel => exact ⟨q + 1, F', R', C', by omega, by go_num, HI5.out⟩
                        case measure => simp [intOf]; omega
                --END R2
        · obtain rfl : q = len := by omega
          have HF := Lib.hid (frames_in (HI'.out).st)
          have bl := (HI'.out).bel
          go_wp2_with fail
          refine (HF.out).mono ?_
          rintro e w9 ⟨rfl, rfl⟩
          go_wp2
          go_ret
          exact ⟨rfl, bl⟩
theorem walk (p_n : Nat) (hp_n : p_n < 256) (p_acts : Option Addr) (p_acts_len p_acts_cap : Nat) (w : World) (hp_acts : IsS22 w p_acts p_acts_len) :
    Calls Try.prog 3 #[.int .u8 p_n, .slice p_acts p_acts_len p_acts_cap] w fun e w' => e = .returned (.bool true) ∧ Below w.heap.size w w' := by
  by_cases h1 : p_acts_len ≤ 50
  · exact plays p_n hp_n p_acts p_acts_len p_acts_cap w hp_acts h1
  · have hm := hp_acts.1
    unfold maxLen at hm
    go_enter Try.func3, Try.ntmps3
    go_wp2_with fail
    refine (awake4_in _).mono ?_
    rintro e w1 ⟨rfl, b1⟩
    go_wp2_with fail
    refine (awake4_in _).mono ?_
    rintro e w2 ⟨rfl, b2⟩
    go_wp2
    go_ret
    exact ⟨rfl, below_up b1 b2⟩

/-! ### the row's step -/
set_option maxRecDepth 100000 in
theorem lifted (os : Os) (started : os.Started) (H : Type) (enc : TypeId × Value → H) :
    ReturnsInHanded {} Try.checked os 3 .any (Rows.storePlaysSpec.pre6 enc Try.prog Try.f3 Rows.storePlaysRow.domain false) (Rows.storePlaysSpec.post enc Try.prog Try.f3 false true false false) := by
  refine returnsInHanded_of_change (C := Try.checked) own started (by kernel_rfl) Try.func3
    (ChangeSpec.witness6 (enc := enc) (C := Try.checked) false ⟨#[], #[.int .u8 0, .slice none 0 0], []⟩ 8 (by kernel_rfl) (by kernel_rfl) (by kernel_rfl) (by kernel_rfl)) ?_
  intro W base args ds gs before hval0 hW hcnd _
  have hval : ∀ (j : Nat) t v, Try.f3.params[j]? = some t → args[j]? = some v → Value.okWide Try.prog W .any base t v := hval0
  have hW' := hW
  obtain ⟨p, q, hA0, hV, rfl, hfz, hnd⟩ := hW
  have hA : DataW.TrodAll enc Try.prog W 0 (fun _ => true) true Try.f3.params.toList args.toList ds p := hA0
  rw [Try.params3] at hA hval
  obtain ⟨v0, vs0, d0, ds0, p0, q0, hargs, rfl, rfl, h0, r0⟩ := trodAll_cons hA
  obtain ⟨v1, vs1, d1, ds1, p1, q1, rfl, rfl, rfl, h1, r1⟩ := trodAll_cons r0
  obtain ⟨rfl, rfl, rfl⟩ := trodAll_nil r1
  obtain rfl : args = #[v0, v1] := by cases args; simp_all
  obtain ⟨rfl, rfl⟩ := trodVars_none hV
  obtain ⟨a0, rfl, rfl, rfl, w0⟩ := open_int Try.underlying5 (hval 0 5 v0 rfl rfl) h0
  obtain ⟨n0, rfl, b0⟩ := wf_u8 w0
  obtain ⟨a1, len1, cap1, rfl⟩ := okWide_slice Try.underlying22 (hval 1 22 v1 rfl rfl)
  have k1 := h1
  have lt1 : ∀ x ∈ p1, x.block < W.heap.size := by obtain ⟨m, hm⟩ := k1; exact DataW.trod_lt m _ _ _ hm
  have w1 := openS22 h1
  clear hA0 hval0
  refine (walk n0 b0 a1 len1 cap1 W w1).mono fun e W' ⟨he, bel⟩ => ?_
  subst he
  exact ⟨_, rfl, _, _, _, [], _, [], hW', trodAll_mk1 (shut_bool Try.underlying4 _), (trodAll_cons_mk (shut_int Try.underlying5 w0) (trodAll_cons_mk (Below.trod laidOut (by kernel_rfl) (of_decide_eq_true (by kernel_rfl)) k1 bel lt1) trodAll_mk0)), rfl, bel.frame _, fun h => by cases h⟩

theorem over : Rows.storePlaysRow.holds Try.pinned (OpenSpec.ofChange Rows.storePlaysSpec) :=
  OpenClaim.holds_of_wide 3 Try.f3 rfl rfl rfl rfl rfl rfl rfl ⟨rfl, rfl, rfl, rfl, rfl⟩ rfl rfl rfl rfl rfl (by kernel_rfl) Try.func3 (by kernel_rfl)
    (of_decide_eq_true (by kernel_rfl)) (by unfold Func.isWrapper; first | (rw [if_pos (by decide +kernel)]; kernel_rfl) | (rw [if_neg (by decide +kernel)]; exact ⟨rfl, rfl⟩))
    (fun os started H enc _ => lifted os started H enc)

/-- THE STATEMENT -/
theorem proved : Rows.StorePlaysSaid := over
#print axioms proved
end Go.Proofs.Ythgopodjplpefaa.storePlays
