/-
  LineAll's walk.
-/
import Derived.Test.YtfiahkjaeeoepaaDoorLG
import Derived.Deep.Slices
namespace Go.Proofs.YtfiahkjaeeoepaaDoor
open Go.ChangeShapes Go.WideShapes Go.ChangeAt Go.RowKit
set_option maxRecDepth 100000
set_option linter.unusedVariables false

/-- The slice's bytes, as far as its length goes. -/
def U8At (w : World) (a : Option Addr) (len : Nat) (x : Nat → Nat) : Prop := ∀ i, i < len → ∃ b off, a = some ⟨b, off, none⟩ ∧ b < w.heap.size ∧ w.cell? ⟨b, off + i, none⟩ = some (.int .u8 (x i : Nat))
theorem U8At.kept {w w' : World} {a : Option Addr} {len : Nat} {x : Nat → Nat} (h : U8At w a len x) (hb : Below w.heap.size w w') : U8At w' a len x := fun i hi => by
  obtain ⟨b, off, ha, hl, hc⟩ := h i hi
  exact ⟨b, off, ha, by have := hb.size; omega, (hb.cell hl).trans hc⟩
def zero8 : Array Value := #[.bool false, .bool false, .bool false, .bool false, .bool false, .bool false, .bool false, .bool false]
theorem zero8_run (W : World) : (zeroValue 39).run Tryd.prog W = .ok (.agg zero8) W := by kernel_rfl
theorem zero8_at (j : Nat) (h : j < 8) : zero8[j]? = some (.bool ((0 : Nat).testBit j)) := by
  have e : j = 0 ∨ j = 1 ∨ j = 2 ∨ j = 3 ∨ j = 4 ∨ j = 5 ∨ j = 6 ∨ j = 7 := by omega
  rw [Nat.zero_testBit]
  rcases e with rfl | rfl | rfl | rfl | rfl | rfl | rfl | rfl <;> rfl
/-- A seat, and eight truths, of a law's own: which bits of p stand. -/
structure Rz (w w' : World) (B C : Nat) (s : SV) (p : Nat) : Prop where
  o : Ow w w' B s
  ar : ∀ j, j < 8 → w'.cell? ⟨C, j, none⟩ = some (.bool (p.testBit j))
  fz : ∀ j, w'.frozen? ⟨C, j, none⟩ = false
  lt : C < w'.heap.size
  lc : w.heap.size ≤ C
  ne : B ≠ C
theorem Rz.turn {w w1 w2 : World} {B C : Nat} {s t : SV} {p : Nat} (h : Rz w w1 B C s p) (k : Sn w1 w2 B t) : Rz w w2 B C t p := by
  have hb := k.gr.block C h.lt (fun e => h.ne (by injection e with e; exact e.symm))
  exact ⟨h.o.turn k, fun j hj => (World.cell?_of_block (a := ⟨C, j, none⟩) hb).trans (h.ar j hj), fun j => (World.frozen?_of_block (a := ⟨C, j, none⟩) hb).trans (h.fz j), Nat.lt_of_lt_of_le h.lt k.gr.size, h.lc, h.ne⟩
theorem Rz.put {w w1 : World} {B C : Nat} {s : SV} {p : Nat} (h : Rz w w1 B C s p) (k : Nat) (hk : k < 8) : Rz w (w1.setCell ⟨C, k, none⟩ (.bool true)) B C s (p ||| 2 ^ k) := by
  refine ⟨h.o.kept (grown_setCellS _ ⟨C, k, none⟩ _) h.ne h.lc, fun j hj => ?_, fun j => ?_, ?_, h.lc, h.ne⟩
  · rw [or_bit]
    by_cases e : k = j
    · subst e
      rw [World.cell?_setCell_same' w1 _ _ (by rw [h.ar k hk]; rfl)]
      simp
    · rw [World.cell?_setCell_other _ _ _ _ (by simp), h.ar j hj]
      simp [e]
  · simp [h.fz j]
  · simp [World.setCell]; exact h.lt
theorem rz_new {w0 w : World} {B : Nat} {s : SV} (h : Ow w0 w B s) : Rz w0 (w.alloc (.cells zero8 39)) B w.heap.size s 0 :=
  ⟨h.below (below_new w _), fun j hj => by rw [World.cell?_alloc_new]; exact zero8_at j hj, fun j => by simp, by simp, h.bel.size, by have := h.ls.lt; omega⟩
/-- Line i is the least of q and m. -/
theorem least_is (x i : Nat) (hx : x < 256) (hi : i < 8) (h : x.testBit i = true) (hl : ∀ j, j < i → x.testBit j = false) : x ≠ 0 ∧ Lib.ctz 64 x = i := by
  have h0 : x ≠ 0 := by rintro rfl; simp at h
  obtain ⟨c8, cb⟩ := ctz_bit x hx h0
  refine ⟨h0, ?_⟩
  rcases Nat.lt_trichotomy (Lib.ctz 64 x) i with c | c | c
  · rw [hl _ c] at cb; cases cb
  · exact c
  · rw [ctz_least x hx i c] at h; cases h
/-- What stands before round i of the second loop: of p those below i that may come are gone. -/
structure QI (q p m i : Nat) : Prop where
  lt : q < 256
  bit : ∀ j, j < 8 → q.testBit j = (p.testBit j && !(decide (j < i) && m.testBit j))
theorem QI.zero {p m : Nat} (hp : p < 256) : QI p p m 0 := ⟨hp, fun j hj => by simp⟩
theorem QI.pass {q p m i : Nat} (h : QI q p m i) (hi : i < 8) (hn : (p.testBit i && m.testBit i) = false) : QI q p m (i + 1) := by
  refine ⟨h.lt, fun j hj => ?_⟩
  rw [h.bit j hj]
  by_cases e : j = i
  · subst e
    cases h1 : p.testBit j
    · simp
    · rw [h1] at hn; simp at hn; simp [hn]
  · have : decide (j < i + 1) = decide (j < i) := by congr 1; apply propext; omega
    rw [this]
theorem QI.least {q p m i : Nat} (h : QI q p m i) (hi : i < 8) (h1 : p.testBit i = true) (h2 : m.testBit i = true) : q &&& m ≠ 0 ∧ Lib.ctz 64 (q &&& m) = i := by
  refine least_is _ i (Nat.lt_of_le_of_lt Nat.and_le_left h.lt) hi ?_ (fun j hj => ?_)
  · rw [Nat.testBit_and, h.bit i hi, h1, h2]; simp
  · rw [Nat.testBit_and, h.bit j (by omega)]
    cases hm : m.testBit j <;> simp [hj]
theorem QI.take {q p m i : Nat} (h : QI q p m i) (hi : i < 8) (h1 : p.testBit i = true) (h2 : m.testBit i = true) : QI (q - 2 ^ i) p m (i + 1) := by
  have hq : q.testBit i = true := by rw [h.bit i hi, h1]; simp
  have hl := h.lt
  refine ⟨Nat.lt_of_le_of_lt (Nat.sub_le _ _) hl, fun j hj => ?_⟩
  rw [sub_bit q h.lt i hi hq j hj, h.bit j hj]
  by_cases e : j = i
  · subst e; simp [h1, h2]
  · have : decide (j < i + 1) = decide (j < i) := by congr 1; apply propext; omega
    rw [this]; simp [e]
theorem QI.done {q p m : Nat} (h : QI q p m 8) (hm : m < 256) : q &&& m = 0 := by
  have hx : q &&& m < 256 := Nat.lt_of_le_of_lt Nat.and_le_left h.lt
  by_cases h0 : q &&& m = 0
  · exact h0
  · obtain ⟨c8, cb⟩ := ctz_bit _ hx h0
    rw [Nat.testBit_and, h.bit _ c8] at cb
    cases hm' : m.testBit (Lib.ctz 64 (q &&& m))
    · rw [hm'] at cb; simp at cb
    · rw [hm'] at cb; simp [c8] at cb
theorem all_long (a : Option Addr) (len cap m : Nat) (h : 30 < len) (w : World) (hT : TW w) :
    Calls Tryd.prog 6 #[.slice a len cap, .int .u8 m] w fun e w' => e = .returned (.bool true) ∧ Below w.heap.size w w' := by
  have HA := Lib.hid (fun U (h : TabAt U) => awake9_in U h)
  have HT := Lib.hid hT
  clear hT
  go_enter Tryd.func6, Tryd.ntmps6
  go_wp2_with fail
  refine (HA.out _ HT.out).mono ?_
  rintro e w1 ⟨rfl, b1⟩
  have T1 := Lib.hid ((HT.out).below b1)
  have B1 := Lib.hid b1
  clear b1
  go_wp2_with fail
  refine (HA.out _ T1.out).mono ?_
  rintro e w2 ⟨rfl, b2⟩
  have B2 := Lib.hid (below_up B1.out b2)
  clear b2
  go_wp2
  go_ret
  exact ⟨rfl, B2.out⟩
set_option maxHeartbeats 2000000 in
theorem all_in (a : Option Addr) (len cap m : Nat) (hm : m < 256) (f : Nat → Nat) (hf : ∀ i, f i < 256) (hlen : len ≤ 30) (w : World) (ha : U8At w a len f) (hT : TW w) :
    Calls Tryd.prog 6 #[.slice a len cap, .int .u8 m] w fun e w' => e = .returned (.bool true) ∧ Below w.heap.size w w' := by
  have HZ := zeroS_run
  have HZ8 := zero8_run
  have HAW := Lib.hid (awake9_in w hT)
  have HT := Lib.hid hT
  have HA := Lib.hid ha
  have HF := Lib.hid hf
  clear hT ha hf
  unfold SV.agg at *
  have l1 : ¬ (30 : Int) < (len : Int) := by omega
  go_enter Tryd.func6, Tryd.ntmps6
  go_wp2_with fail
  refine (HAW.out).mono ?_
  rintro e w1 ⟨rfl, b1⟩
  have O1 := Lib.hid (ow_new b1 (seatM true m 0))
  clear b1 HAW
  have R1 := Lib.hid (rz_new O1.out)
  have hz : ((w1.alloc (.cells SV.zero.cells 26)).setRow w1.heap.size (seatM true m 0).cells).heap.size = w1.heap.size + 1 := by simp [World.setRow]
  rw [hz] at R1
  clear hz O1
  go_wp2_with (first
    | (refine wpList_bdS rfl (.tmp 25) (.const (.bool true)) rfl m true rfl rfl ?_; rw [show ({ SV.zero with op := true, ma := m } : SV).agg = .agg (seatM true m 0).cells from rfl])
    | (refine wpList_stS rfl (.tmp 5) (.tmp 26) rfl w1.heap.size rfl SV.zero (seatM true m 0) rfl (ls_new w1 _) ?_))
  go_loopw [4, 7] (fun _ i wr => ∃ (k p : Nat), k ≤ len ∧ i = .int .i64 k ∧ p < 256 ∧ Rz w wr w1.heap.size (w1.heap.size + 1) (seatM true m p) p) (fun _ i _ => (len - (intOf i).toNat))
  case atStart => exact ⟨0, 0, by omega, rfl, by omega, R1.out⟩
  case round =>
    clear R1
    obtain ⟨k, p, hk, rfl, hp, hR⟩ := hrel
    by_cases hlt : k < len
    · obtain ⟨b, off, rfl, hbl, hc⟩ := ((HA.out).kept hR.o.bel) k hlt
      have hfj := (HF.out) k
      generalize f k = x at *
      have e3 : ((x : Int).tmod 8) = ((x % 8 : Nat) : Int) := (Int.ofNat_tmod x 8).symm
      have e4 : ((x : Int) % 8) = ((x % 8 : Nat) : Int) := by omega
      have hq : x % 8 < 8 := Nat.mod_lt _ (by omega)
      generalize x % 8 = q at *
      have hcr := hR.ar q hq
      have hfr := hR.fz q
      have R2 := hR.put q hq
      have hc2 := R2.o.bel
      have hpl := or_lt p hp q hq
      have HRS := Lib.hid (fun U (h : LS U w1.heap.size (seatM true m p)) => raiseM h q hq hp hm)
      have HK := Lib.hid R2
      have HP := Lib.hid hpl
      have hc3 : (wr.setCell ⟨w1.heap.size + 1, q, none⟩ (.bool true)).cell? ⟨b, off + k, none⟩ = some (.int .u8 x) := by
        have hbw : b < w.heap.size := by
          obtain ⟨b', off', e1, hb', _⟩ := (HA.out) k hlt
          simp only [Option.some.injEq, Addr.mk.injEq, and_true] at e1
          omega
        have hlc := R2.lc
        rw [World.cell?_setCell_other _ _ _ _ (by intro e; injection e with e1 e2; omega)]
        exact hc
      clear hR R2 hc2 hpl
      go_wp2_with fail
      refine (HRS.out _ (HK.out).o.ls).mono ?_
      rintro e w3 ⟨rfl, h3⟩
      have R3 := Lib.hid ((HK.out).turn h3)
      clear h3 HK hc hc3 hcr hfr
      go_wp2
      go_roundw
      case rel => exact ⟨k + 1, _, by omega, by go_num, HP.out, R3.out⟩
      case measure => simp [intOf]; omega
    · obtain rfl : k = len := by omega
      have R2 := Lib.hid hR
      clear hR hlt hk
      go_wp2_with fail
      go_loopw [4, 8, 9, 10] (fun _ i _ _ wr => ∃ (j q : Nat), j ≤ 8 ∧ i = .int .i64 j ∧ QI q p m j ∧ Rz w wr w1.heap.size (w1.heap.size + 1) (seatM true m q) p) (fun _ i _ _ _ => (8 - (intOf i).toNat))
      case atStart => exact ⟨0, p, by omega, rfl, QI.zero hp, R2.out⟩
      case round =>
        clear R2
        obtain ⟨j, q, hj, rfl, hq, hR⟩ := hrel
        by_cases hlt : j < 8
        · have hcr := hR.ar j hlt
          have z2 := shr_bit8 m j
          cases h1 : p.testBit j
          · rw [h1] at hcr
            have HQ := Lib.hid (hq.pass hlt (by rw [h1]; rfl))
            have HR := Lib.hid hR
            clear hq hR h1 z2
            go_wp2
            go_roundw
            case rel => exact ⟨j + 1, q, by omega, by go_num, HQ.out, HR.out⟩
            case measure => simp [intOf]; omega
          · rw [h1] at hcr
            cases h2 : m.testBit j
            · rw [h2] at z2
              have HQ := Lib.hid (hq.pass hlt (by rw [h1, h2]; rfl))
              have HR := Lib.hid hR
              clear hq hR h1 h2
              go_wp2
              go_roundw
              case rel => exact ⟨j + 1, q, by omega, by go_num, HQ.out, HR.out⟩
              case measure => simp [intOf]; omega
            · rw [h2] at z2
              obtain ⟨y0, y1⟩ := hq.least hlt h1 h2
              have HQ := Lib.hid (hq.take hlt h1 h2)
              have HK := Lib.hid (takeM_yes hR.o.ls (hR.o.tab HT.out) hq.lt hm y0 y1)
              have HR := Lib.hid hR
              clear hq hR h1 h2 y0 y1
              go_wp2_with fail
              refine (HK.out).mono ?_
              rintro e w4 ⟨rfl, h4⟩
              have R4 := Lib.hid ((HR.out).turn h4)
              clear h4 HR HK hcr z2
              go_wp2
              go_roundw
              case rel => exact ⟨j + 1, _, by omega, by go_num, HQ.out, R4.out⟩
              case measure => simp [intOf]; omega
        · obtain rfl : j = 8 := by omega
          have HK := Lib.hid (takeM_no hR.o.ls hq.lt hm (.inr (hq.done hm)))
          have HR := Lib.hid hR
          clear hq hR hlt hj
          have HWN := Lib.hid wake_nil
          have HNN := Lib.hid next_nil
          have HRN := Lib.hid (raise_nil 0)
          go_wp2_with fail
          refine (HK.out).mono ?_
          rintro e w4 ⟨rfl, h4⟩
          have R4 := Lib.hid ((HR.out).turn h4)
          clear h4 HR HK
          go_wp2_with fail
          refine (HWN.out _).mono ?_
          rintro e w5 ⟨rfl, rfl⟩
          go_wp2_with fail
          refine (HNN.out _).mono ?_
          rintro e w6 ⟨rfl, n, rfl⟩
          go_wp2_with fail
          refine (HRN.out _).mono ?_
          rintro e w7 ⟨rfl, rfl⟩
          go_wp2
          go_ret
          exact ⟨rfl, below_draws (R4.out).o.bel n⟩
end Go.Proofs.YtfiahkjaeeoepaaDoor
