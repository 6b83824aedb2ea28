/-
  PROVED: for every list of instructions l and every list of numbers of blanks the law TextLays returns true: lines, parted by semicolons, with blanks around, are laid as bytes, and read back line by line; and the arguments read as they did. Condition (tied to the program's text by the card): the package variables hold what their initialisers lay.
-/
import Derived.Test.YtclieoeaknlfbaaDoorRows
import Derived.Test.YtclieoeaknlfbaaDoorWM
import Derived.Test.YtclieoeaknlfbaaDoorWC
import Derived.Test.YtclieoeaknlfbaaDoorLT
import Derived.Test.YtclieoeaknlfbaaDoorCM
import Derived.Test.YtclieoeaknlfbaaDoorCC
import Derived.Test.YtclieoeaknlfbaaDoorCD
import Derived.Test.YtclieoeaknlfbaaDoorCE
import Derived.Test.YtclieoeaknlfbaaDoorCR
import Derived.Test.YtclieoeaknlfbaaDoorTX
import Derived.Test.YtclieoeaknlfbaaDoorTS
import Derived.Test.YtclieoeaknlfbaaDoorTR
import Derived.Test.YtclieoeaknlfbaaDoorTG
import Derived.Test.YtclieoeaknlfbaaDoorTD
import Derived.Test.YtclieoeaknlfbaaDoorTL
import Derived.Test.YtclieoeaknlfbaaDoorTT
import Derived.Test.YtclieoeaknlfbaaDoorTU
import Derived.Test.YtclieoeaknlfbaaDoorCN
import Derived.Test.YtclieoeaknlfbaaDoorTP
import Derived.Test.YtclieoeaknlfbaaDoorTE
import Derived.Test.YtclieoeaknlfbaaDoorTY
import Derived.Test.YtclieoeaknlfbaaDoorTZ
import Derived.Test.YtclieoeaknlfbaaDoorTF
import Derived.Test.YtclieoeaknlfbaaDoorTA
import Derived.Test.YtclieoeaknlfbaaDoorTB
import Derived.WalkKit
import Derived.ProofKit
import Derived.OpenShut
import Derived.ShutString
import Derived.ChangeOld
import Derived.Below
import Derived.Deep.CutBlock
import Derived.Deep.RegionHeld3
import Derived.Deep.Slices
import Derived.Deep.Fields
import Derived.Test.YtclieoeaknlfbaaDoorCards
import Derived.Test.YtclieoeaknlfbaaDoorTie
import Derived.Deep.DeepHandedRow
import Derived.Deep.DeepWitnessRowRef
import Derived.LaidMore
import Derived.Stop.Joined
import Derived.SevenTiedAt
namespace Go.Proofs.YtclieoeaknlfbaaDoor.textLays
open Go.Proofs.YtclieoeaknlfbaaDoor Go.Proofs.YtclieoeaknlfbaaDoor.WM Go.Proofs.YtclieoeaknlfbaaDoor.CM
open Go.ChangeShapes Go.WideShapes Go.ChangeAt Go.RowKit
open Go.ChangeMaps (open_string shut_string)
set_option linter.unusedVariables false
set_option maxRecDepth 100000

theorem own : ownKnob Tryd.prog.godebug = none := by kernel_rfl
theorem laidOut : laidOutB Tryd.prog = true := by kernel_rfl
theorem wf_u8 {a : Int} (h : (Lit.int .u8 a).wf = true) : ∃ n : Nat, a = n ∧ n < 256 := by
  simp only [Lit.wf, IntKind.min, IntKind.max, IntKind.signed, IntKind.bits, Bool.and_eq_true] at h
  simp at h
  exact ⟨a.toNat, by omega, by omega⟩
theorem wf_i16 {a : Int} (h : (Lit.int .i16 a).wf = true) : -32768 ≤ a ∧ a ≤ 32767 := by
  simp only [Lit.wf, IntKind.min, IntKind.max, IntKind.signed, IntKind.bits, Bool.and_eq_true, decide_eq_true_eq] at h
  simp at h
  omega
/-- What the walk is told of a slice of integers that came in: it is nil, or it leads to a row of as many cells as its capacity says. -/
def IsRow (k : IntKind) (w : World) (a : Option Addr) (len cap : Nat) (zs : List Int) : Prop :=
  (a = none ∧ len = 0 ∧ cap = 0 ∧ zs = []) ∨
  ∃ x, a = some x ∧ len ≤ cap ∧ cap ≤ maxLen ∧ zs.length = cap ∧ (∀ i, i < zs.length → w.cell? (x.add i) = some (.int k (zs.getD i 0))) ∧ ∀ n ∈ zs, (Lit.int k n).wf = true
theorem IsRow.bytes {w : World} {a : Option Addr} {len cap : Nat} {zs : List Int} (h : IsRow .u8 w a len cap zs) : len ≤ maxLen ∧ ∃ f : Nat → Nat, BytesAt w a len f ∧ (∀ i, f i < 256) ∧ ∀ i, i < len → f i = (zs.getD i 0).toNat := by
  rcases h with ⟨rfl, rfl, rfl, rfl⟩ | ⟨y, rfl, hl, hm, hz, hcell, hwz⟩
  · exact ⟨by omega, fun _ => 0, fun i hi => by omega, fun _ => (by decide : (0 : Nat) < 256), fun i hi => by omega⟩
  · have key : ∀ i, i < len → ∃ n : Nat, zs.getD i 0 = n ∧ n < 256 := fun i hi =>
      of_u8 (hwz (zs.getD i 0) (by simp [List.getD_eq_getElem?_getD, List.getElem?_eq_getElem (show i < zs.length by omega)]))
    refine ⟨by omega, fun i => (zs.getD i 0).toNat % 256, fun i hi => ?_, fun i => Nat.mod_lt _ (by omega), fun i hi => ?_⟩
    · obtain ⟨b, off, spot⟩ := y
      have hc := hcell i (by omega)
      have hspot : spot = none := by simpa [Addr.add] using World.cell?_spot (hcell 0 (by omega))
      subst hspot
      obtain ⟨n, en, hn⟩ := key i hi
      refine ⟨b, off, rfl, ?_⟩
      rw [en] at hc
      show w.cell? ⟨b, off + i, none⟩ = some (.int .u8 (((zs.getD i 0).toNat % 256 : Nat) : Int))
      rw [en, Int.toNat_natCast, Nat.mod_eq_of_lt hn, ← hc]
      unfold Addr.add
      split <;> simp_all
    · obtain ⟨n, en, hn⟩ := key i hi
      show (zs.getD i 0).toNat % 256 = _
      rw [en]; omega
/-- What the walk is told of a slice of structs that came in: for each of its elements the fields' cells. -/
def IsS22 (w : World) (a : Option Addr) (len : Nat) : Prop :=
  len ≤ maxLen ∧ ∀ i, i < len → ∃ b off, a = some ⟨b, off, none⟩ ∧ b < w.heap.size ∧ ∃ (Code : Nat) (A : Nat) (B : Nat) (C : Nat) (N : Int), w.cell? ⟨b, off + i * 5 + 0, none⟩ = some (.int .u8 Code) ∧ w.cell? ⟨b, off + i * 5 + 1, none⟩ = some (.int .u8 A) ∧ w.cell? ⟨b, off + i * 5 + 2, none⟩ = some (.int .u8 B) ∧ w.cell? ⟨b, off + i * 5 + 3, none⟩ = some (.int .u8 C) ∧ w.cell? ⟨b, off + i * 5 + 4, none⟩ = some (.int .i16 N) ∧ Code < 256 ∧ A < 256 ∧ B < 256 ∧ C < 256 ∧ (-32768 ≤ N ∧ N ≤ 32767)
theorem add_two (b off i j : Nat) : ((⟨b, off, none⟩ : Addr).add i).add j = ⟨b, off + i + j, none⟩ := by
  unfold Addr.add
  split <;> split <;> simp_all
theorem openS22 {H : Type} {enc : TypeId × Value → H} {w : World} {base : Nat} {a : Option Addr} {len cap : Nat} {d : DataW H} {p : List MemPlace}
    (h : DataW.Trod enc Tryd.prog w base (fun _ => true) true 22 (.slice a len cap) d p) : IsS22 w a len := by
  obtain ⟨fuel, hf⟩ := h
  rcases Go.Deep.open_slice Tryd.underlying22 hf with ⟨hcs, _⟩ | ⟨x, l, c, m, n, D, Pl, hcs, _, hl, hm, hmm, _, hi⟩
  · simp [Value.cells] at hcs
    obtain ⟨rfl, rfl, rfl⟩ := hcs
    exact ⟨by unfold maxLen; omega, fun i hi => by omega⟩
  · simp [Value.cells] at hcs
    obtain ⟨rfl, rfl, rfl⟩ := hcs
    refine ⟨by omega, fun i hil => ?_⟩
    have hC : Tryd.prog.cellsOf 27 = 5 := by kernel_rfl
    have hlm : len ≤ m := by rw [hmm]; split <;> omega
    obtain ⟨b, off, spot⟩ := x
    have hspot : spot = none := by
      obtain ⟨cs0, hc0, _⟩ := hi 0 (by omega)
      obtain ⟨_, hl0, hat0⟩ := World.cells?_some hc0
      rw [hC] at hl0 hat0
      have h0 := hat0 0 (by decide)
      rw [List.getElem?_eq_getElem (by omega)] at h0
      simpa [Addr.add] using World.cell?_spot h0
    subst hspot
    obtain ⟨cs', hc, ht'⟩ := hi i (by omega)
    obtain ⟨_, hcl, hat⟩ := World.cells?_some hc
    obtain ⟨xs, n', _, _, _, hxl, hfs⟩ := DataW.trod_struct Tryd.underlying27 ht'
    rw [hC] at hcl hat
    obtain ⟨y0, hy0⟩ : ∃ y, xs[0]? = some y := ⟨_, List.getElem?_eq_getElem (by rw [hxl]; decide)⟩
    have t0 := (hfs 0 _ rfl).trans hy0
    have e0 : (cs'.drop 0).take (Tryd.prog.cellsOf 5) = [cs'[0]'(by omega)] := by
      rw [show Tryd.prog.cellsOf 5 = 1 from by kernel_rfl, List.drop_eq_getElem_cons (by omega)]; rfl
    have q0 := hat 0 (by decide)
    rw [List.getElem?_eq_getElem (by omega), add_two] at q0
    replace t0 : DataW.trod enc Tryd.prog w base (fun _ => true) true n' 5 [cs'[0]'(by omega)] = some y0 := by rw [← e0]; exact t0
    obtain ⟨z0, k0, _, w0⟩ := DataW.trod_int Tryd.underlying5 t0
    rw [List.cons.injEq] at k0
    rw [k0.1] at q0
    obtain ⟨n0, rfl, b0⟩ := wf_u8 w0
    obtain ⟨y1, hy1⟩ : ∃ y, xs[1]? = some y := ⟨_, List.getElem?_eq_getElem (by rw [hxl]; decide)⟩
    have t1 := (hfs 1 _ rfl).trans hy1
    have e1 : (cs'.drop 1).take (Tryd.prog.cellsOf 5) = [cs'[1]'(by omega)] := by
      rw [show Tryd.prog.cellsOf 5 = 1 from by kernel_rfl, List.drop_eq_getElem_cons (by omega)]; rfl
    have q1 := hat 1 (by decide)
    rw [List.getElem?_eq_getElem (by omega), add_two] at q1
    replace t1 : DataW.trod enc Tryd.prog w base (fun _ => true) true n' 5 [cs'[1]'(by omega)] = some y1 := by rw [← e1]; exact t1
    obtain ⟨z1, k1, _, w1⟩ := DataW.trod_int Tryd.underlying5 t1
    rw [List.cons.injEq] at k1
    rw [k1.1] at q1
    obtain ⟨n1, rfl, b1⟩ := wf_u8 w1
    obtain ⟨y2, hy2⟩ : ∃ y, xs[2]? = some y := ⟨_, List.getElem?_eq_getElem (by rw [hxl]; decide)⟩
    have t2 := (hfs 2 _ rfl).trans hy2
    have e2 : (cs'.drop 2).take (Tryd.prog.cellsOf 5) = [cs'[2]'(by omega)] := by
      rw [show Tryd.prog.cellsOf 5 = 1 from by kernel_rfl, List.drop_eq_getElem_cons (by omega)]; rfl
    have q2 := hat 2 (by decide)
    rw [List.getElem?_eq_getElem (by omega), add_two] at q2
    replace t2 : DataW.trod enc Tryd.prog w base (fun _ => true) true n' 5 [cs'[2]'(by omega)] = some y2 := by rw [← e2]; exact t2
    obtain ⟨z2, k2, _, w2⟩ := DataW.trod_int Tryd.underlying5 t2
    rw [List.cons.injEq] at k2
    rw [k2.1] at q2
    obtain ⟨n2, rfl, b2⟩ := wf_u8 w2
    obtain ⟨y3, hy3⟩ : ∃ y, xs[3]? = some y := ⟨_, List.getElem?_eq_getElem (by rw [hxl]; decide)⟩
    have t3 := (hfs 3 _ rfl).trans hy3
    have e3 : (cs'.drop 3).take (Tryd.prog.cellsOf 5) = [cs'[3]'(by omega)] := by
      rw [show Tryd.prog.cellsOf 5 = 1 from by kernel_rfl, List.drop_eq_getElem_cons (by omega)]; rfl
    have q3 := hat 3 (by decide)
    rw [List.getElem?_eq_getElem (by omega), add_two] at q3
    replace t3 : DataW.trod enc Tryd.prog w base (fun _ => true) true n' 5 [cs'[3]'(by omega)] = some y3 := by rw [← e3]; exact t3
    obtain ⟨z3, k3, _, w3⟩ := DataW.trod_int Tryd.underlying5 t3
    rw [List.cons.injEq] at k3
    rw [k3.1] at q3
    obtain ⟨n3, rfl, b3⟩ := wf_u8 w3
    obtain ⟨y4, hy4⟩ : ∃ y, xs[4]? = some y := ⟨_, List.getElem?_eq_getElem (by rw [hxl]; decide)⟩
    have t4 := (hfs 4 _ rfl).trans hy4
    have e4 : (cs'.drop 4).take (Tryd.prog.cellsOf 25) = [cs'[4]'(by omega)] := by
      rw [show Tryd.prog.cellsOf 25 = 1 from by kernel_rfl, List.drop_eq_getElem_cons (by omega)]; rfl
    have q4 := hat 4 (by decide)
    rw [List.getElem?_eq_getElem (by omega), add_two] at q4
    replace t4 : DataW.trod enc Tryd.prog w base (fun _ => true) true n' 25 [cs'[4]'(by omega)] = some y4 := by rw [← e4]; exact t4
    obtain ⟨z4, k4, _, w4⟩ := DataW.trod_int Tryd.underlying25 t4
    rw [List.cons.injEq] at k4
    rw [k4.1] at q4
    have b4 := wf_i16 w4
    exact ⟨b, off, rfl, World.block_lt_of_cell? _ _ q0, n0, n1, n2, n3, z4, q0, q1, q2, q3, q4, b0, b1, b2, b3, b4⟩

/-! ### the walk -/
set_option maxRecDepth 100000
theorem walk (p_l : Option Addr) (p_l_len p_l_cap : Nat) (p_blanks : Option Addr) (p_blanks_len p_blanks_cap : Nat) (p_blanks_z : List Int) (w : World) (hp_l : IsS22 w p_l p_l_len) (hp_blanks : IsRow .u8 w p_blanks p_blanks_len p_blanks_cap p_blanks_z) (hT : TW w) :
    Calls Tryd.prog 3 #[.slice p_l p_l_len p_l_cap, .slice p_blanks p_blanks_len p_blanks_cap] w fun e w' => e = .returned (.bool true) ∧ Below w.heap.size w w' := by
  obtain ⟨hm, hE⟩ := hp_l
  obtain ⟨_, bf, hbb, hbf, _⟩ := IsRow.bytes hp_blanks
  clear hp_blanks
  unfold maxLen at hm
  by_cases h1 : p_l_len = 0 ∨ 20 < p_l_len
  · exact lays_short p_l p_l_len p_l_cap p_blanks p_blanks_len p_blanks_cap w h1 (by omega) hT
  · have hch : ∀ i, ∃ x : Nat × Nat × Nat × Nat × Int, i < p_l_len → ∃ b off, p_l = some ⟨b, off, none⟩ ∧ b < w.heap.size ∧ w.cell? ⟨b, off + i * 5 + 0, none⟩ = some (.int .u8 x.1) ∧ w.cell? ⟨b, off + i * 5 + 1, none⟩ = some (.int .u8 x.2.1) ∧ w.cell? ⟨b, off + i * 5 + 2, none⟩ = some (.int .u8 x.2.2.1) ∧
        w.cell? ⟨b, off + i * 5 + 3, none⟩ = some (.int .u8 x.2.2.2.1) ∧ w.cell? ⟨b, off + i * 5 + 4, none⟩ = some (.int .i16 x.2.2.2.2) ∧ (-32768 ≤ x.2.2.2.2 ∧ x.2.2.2.2 ≤ 32767) := fun i => by
      by_cases hi : i < p_l_len
      · obtain ⟨b, off, ha, hb, Co, A, B, C, N, q0, q1, q2, q3, q4, _, _, _, _, b4⟩ := hE i hi
        exact ⟨(Co, A, B, C, N), fun _ => ⟨b, off, ha, hb, q0, q1, q2, q3, q4, b4⟩⟩
      · exact ⟨(0, 0, 0, 0, 0), fun h => absurd h hi⟩
    obtain ⟨f, hf⟩ := Classical.axiomOfChoice hch
    exact lays_walk p_l p_l_len p_l_cap p_blanks p_blanks_len p_blanks_cap (fun i => (f i).1) (fun i => (f i).2.1) (fun i => (f i).2.2.1) (fun i => (f i).2.2.2.1) (fun i => (f i).2.2.2.2) bf w
      ⟨fun i hi => by
        obtain ⟨b, off, ha, hb, q0, q1, q2, q3, q4, _⟩ := hf i hi
        exact ⟨b, off, ha, hb, q0, q1, q2, q3, q4⟩, fun i hi => by
        obtain ⟨b, off, ha, hb, q0, q1, q2, q3, q4, h5⟩ := hf i hi
        exact h5⟩ hbb hbf (by omega) (by omega) hT

/-! ### the row's step -/
set_option maxRecDepth 100000 in
theorem contract (H : Type) (enc : TypeId × Value → H) (W : World) (base : Nat) (args : Array Value) (ds gs : List (DataW H)) (before : List MemPlace)
    (hval0 : ∀ (j : Nat) t v, Tryd.f3.params[j]? = some t → args[j]? = some v → Value.okWide Tryd.prog W .any base t v)
    (hW : DataW.Whole enc Tryd.prog Tryd.f3.params.toList Rows.textLaysSpec.vars false W args.toList ds gs before) (hT : TW W) :
    Calls Tryd.prog 3 args W fun e W' => ∃ v, e = .returned v ∧ Rows.textLaysSpec.post enc Tryd.prog Tryd.f3 false true false false W args v W' := by
  have hval : ∀ (j : Nat) t v, Tryd.f3.params[j]? = some t → args[j]? = some v → Value.okWide Tryd.prog W .any base t v := hval0
  have hW' := hW
  obtain ⟨p, q, hA0, hV, rfl, hfz, hnd⟩ := hW
  have hA : DataW.TrodAll enc Tryd.prog W 0 (fun _ => true) true Tryd.f3.params.toList args.toList ds p := hA0
  rw [Tryd.params3] at hA hval
  obtain ⟨v0, vs0, d0, ds0, p0, q0, hargs, rfl, rfl, h0, r0⟩ := trodAll_cons hA
  obtain ⟨v1, vs1, d1, ds1, p1, q1, rfl, rfl, rfl, h1, r1⟩ := trodAll_cons r0
  obtain ⟨rfl, rfl, rfl⟩ := trodAll_nil r1
  obtain rfl : args = #[v0, v1] := by cases args; simp_all
  obtain ⟨rfl, rfl⟩ := trodVars_none hV
  obtain ⟨a0, len0, cap0, rfl⟩ := okWide_slice Tryd.underlying22 (hval 0 22 v0 rfl rfl)
  have k0 := h0
  have lt0 : ∀ x ∈ p0, x.block < W.heap.size := by obtain ⟨m, hm⟩ := k0; exact DataW.trod_lt m _ _ _ hm
  have w0 := openS22 h0
  obtain ⟨a1, len1, cap1, rfl⟩ := okWide_slice Tryd.underlying23 (hval 1 23 v1 rfl rfl)
  have k1 := h1
  have lt1 : ∀ x ∈ p1, x.block < W.heap.size := by obtain ⟨m, hm⟩ := k1; exact DataW.trod_lt m _ _ _ hm
  obtain ⟨z1, w1⟩ : ∃ zs, IsRow .u8 W a1 len1 cap1 zs := by
    obtain ⟨fuel, hf⟩ := h1
    rcases open_ints Tryd.underlying23 Tryd.underlying5 (by kernel_rfl) hf with ⟨hcs, _⟩ | ⟨x, l, c, zs, hcs, _, hl, hm, hz, _, hcell, hwz⟩
    · simp [Value.cells] at hcs
      obtain ⟨rfl, rfl, rfl⟩ := hcs
      exact ⟨[], .inl ⟨rfl, rfl, rfl, rfl⟩⟩
    · simp [Value.cells] at hcs
      obtain ⟨rfl, rfl, rfl⟩ := hcs
      exact ⟨zs, .inr ⟨_, rfl, hl, hm, by simpa using hz, hcell, hwz⟩⟩
  clear hA0 hval0
  refine (walk a0 len0 cap0 a1 len1 cap1 z1 W w0 w1 hT).mono fun e W' ⟨he, bel⟩ => ?_
  subst he
  exact ⟨_, rfl, _, _, _, [], _, [], hW', trodAll_mk1 (shut_bool Tryd.underlying4 _), (trodAll_cons_mk (Below.trod laidOut (by kernel_rfl) (of_decide_eq_true (by kernel_rfl)) k0 bel lt0) (trodAll_cons_mk (Below.trod laidOut (by kernel_rfl) (of_decide_eq_true (by kernel_rfl)) k1 bel lt1) trodAll_mk0)), rfl, bel.frame _, fun h => by cases h⟩

theorem laid_met (os : Os) : laidMet Tryd.prog Rows.textLaysRow.laid ((World.laidAll Tryd.prog os Rows.textLaysRow.laid).forCall (fun _ _ => 0) ⟨#[], #[.slice none 0 0, .slice none 0 0], []⟩).memory :=
  laidMet_laidAll _ (by kernel_rfl) (by kernel_rfl)
theorem reads (os : Os) {H : Type} (enc : TypeId × Value → H) : ∃ places, DataW.whole enc Tryd.prog ((World.laidAll Tryd.prog os Rows.textLaysRow.laid).forCall (fun _ _ => 0) ⟨#[], #[.slice none 0 0, .slice none 0 0], []⟩).memory Tryd.f3.params.toList Rows.textLaysSpec.vars false #[Value.slice none 0 0, .slice none 0 0].toList 8 = some ([.nil, .nil], [], places) :=
  ⟨[], by kernel_rfl⟩
set_option maxRecDepth 100000 in
theorem lifted (os : Os) (started : os.Started) (H : Type) (enc : TypeId × Value → H) (F : Stop.Interp) :
    ReturnsInHanded {} Tryd.checked os 3 .any ((OpenSpec.ofChange Rows.textLaysSpec).preRow enc Tryd.prog Tryd.f3 Rows.textLaysRow.domain false Rows.textLaysRow.laid) (((OpenSpec.ofChange Rows.textLaysSpec).at F).post enc Tryd.prog Tryd.f3 false true false false) := by
  obtain ⟨places, hx⟩ := reads os enc
  refine returnsInHanded_of_row (C := Tryd.checked) (s := OpenSpec.ofChange Rows.textLaysSpec) own started (by kernel_rfl) Tryd.func3
    (wit_zip (enc := enc) (C := Tryd.checked) false (World.laidAll Tryd.prog os Rows.textLaysRow.laid) #[.slice none 0 0, .slice none 0 0] (World.laidAll_os _ _ _) (World.shaped_of_ZipB (by kernel_rfl) (by kernel_rfl)) (by kernel_rfl)
      (OpenSpec.preRow_of_cond 8 hx (by kernel_rfl) (fun k hk => by cases hk) (by kernel_rfl) (laid_met os))) ?_
  intro W base args ds gs before hval hW _ _ _ hL hS _
  exact contract H enc W base args ds gs before hval hW (tw_of2 hL hS)
theorem said : Rows.TextLaysSaid :=
  OpenClaim.holds_of_cond 3 Tryd.f3 rfl rfl rfl rfl rfl rfl rfl ⟨rfl, rfl, rfl, rfl, rfl⟩ rfl rfl rfl rfl rfl (by kernel_rfl) Tryd.func3 (by kernel_rfl)
    (of_decide_eq_true (by kernel_rfl)) (by unfold Func.isWrapper; first | (rw [if_pos (by decide +kernel)]; kernel_rfl) | (rw [if_neg (by decide +kernel)]; exact ⟨rfl, rfl⟩))
    (fun os started H enc _ F => by rw [OpenClaim.pre_eq_preRow]; exact lifted os started H enc F)
theorem plain (f : FuncId) (fn : Func) (hf : Tryd.pinned.checked.prog.funcNamed Rows.textLaysRow.func = some f) (hfn : Tryd.pinned.checked.prog.funcs[f]? = some fn) :
    Rows.textLaysCard.stood.looks = Tryd.pinned.checked.prog.looks [] ∧ ∀ (j : Nat) t, fn.params[j]? = some t → Tryd.pinned.checked.prog.wantsStandIn t = false := by
  obtain rfl : f = 3 := Option.some.inj ((show Tryd.prog.funcNamed Rows.textLaysRow.func = some 3 by kernel_rfl).symm.trans hf) |>.symm
  obtain rfl : fn = Tryd.f3 := (Option.some.inj (Tryd.func3.symm.trans hfn)).symm
  refine ⟨by kernel_rfl, fun j t ht => ?_⟩
  rw [Tryd.params3] at ht
  have hm : t ∈ [22, 23] := by simpa using Array.mem_of_getElem? ht
  have hall : ([22, 23].all fun u => !Tryd.prog.wantsStandIn u) = true := by kernel_rfl
  exact (show Tryd.prog.wantsStandIn t = false by simpa using List.all_eq_true.1 hall t hm)
/-- THE TIED CARD. -/
theorem proved : Rows.TextLaysCardSaid :=
  Claim7.holds_tied_plain_at .later [] _ _ _ _ said (fun _ h => by cases h) (by kernel_rfl) (fun _ h => by cases h) textLays_row_tie rfl ⟨rfl, rfl⟩ (by kernel_rfl) rfl plain (by kernel_rfl)
#print axioms proved
end Go.Proofs.YtclieoeaknlfbaaDoor.textLays
