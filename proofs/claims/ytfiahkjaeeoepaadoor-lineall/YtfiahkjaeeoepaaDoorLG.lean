/-
  The walks of LineMasks and LineAll.
-/
import Derived.Test.YtfiahkjaeeoepaaDoorLD
namespace Go.Proofs.YtfiahkjaeeoepaaDoor
open Go.ChangeShapes Go.WideShapes Go.ChangeAt Go.RowKit
set_option maxRecDepth 100000
set_option linter.unusedVariables false

theorem of_u8 {a : Int} (h : (Lit.int .u8 a).wf = true) : ∃ n : Nat, a = n ∧ n < 256 := by
  simp only [Lit.wf, IntKind.min, IntKind.max, IntKind.signed, IntKind.bits, Bool.and_eq_true] at h
  simp at h
  exact ⟨a.toNat, by omega, by omega⟩
theorem shr_bit8 (x i : Nat) : (((x : Int) / 2 ^ i).tmod 2 == 1) = x.testBit i := by
  have e : (x : Int) / 2 ^ i = ((x / 2 ^ i : Nat) : Int) := by simp
  rw [e, Int.tmod_eq_emod_of_nonneg (Int.natCast_nonneg _)]
  have h : (((x / 2 ^ i : Nat) : Int) % 2) = ((WM.bitN x i : Nat) : Int) := by
    unfold WM.bitN
    generalize x / 2 ^ i = y
    omega
  rw [h, WM.bitN_eq]
  cases x.testBit i <;> rfl
theorem only_bit (k : Nat) (hk : k < 8) (m : Nat) (hm : m < 256) (h : m.testBit k = true) : 2 ^ k &&& m ≠ 0 ∧ Lib.ctz 64 (2 ^ k &&& m) = k := by
  have h' : ∀ k < 8, ∀ m < 256, m.testBit k = true → 2 ^ k &&& m ≠ 0 ∧ Lib.ctz 64 (2 ^ k &&& m) = k := by decide +kernel
  exact h' k hk m hm h
theorem no_bit (k : Nat) (hk : k < 8) (m : Nat) (hm : m < 256) (h : m.testBit k = false) : 2 ^ k &&& m = 0 := by
  have h' : ∀ k < 8, ∀ m < 256, m.testBit k = false → 2 ^ k &&& m = 0 := by decide +kernel
  exact h' k hk m hm h
/-- A seat that is nought but for these. -/
def seatM (o : Bool) (m p : Nat) : SV := { SV.zero with op := o, ma := m, pd := p }
theorem two_lt8 (k : Nat) (hk : k < 8) : 2 ^ k < 256 := by
  have : 2 ^ k < 2 ^ 8 := Nat.pow_lt_pow_right (by decide) hk
  simpa using this
theorem raiseM {w : World} {B : Nat} {o : Bool} {m p : Nat} (h : LS w B (seatM o m p)) (k : Nat) (hk : k < 8) (hp : p < 256) (hm : m < 256) :
    Calls Tryd.prog 9 #[.pointer (some ⟨B, 0, none⟩), .int .i64 k] w fun e w' => e = .returned (.int .i64 0) ∧ Sn w w' B (seatM o m (p ||| 2 ^ k)) := by
  have h2 := raise_ok h k hk (show (0 : Nat) ≠ 2 by decide) hp hm
  rw [wake_ready _ (show (0 : Nat) ≠ 1 by decide)] at h2
  exact h2
theorem takeM_no {w : World} {B : Nat} {o : Bool} {m p : Nat} (h : LS w B (seatM o m p)) (hp : p < 256) (hm : m < 256) (h0 : o = false ∨ p &&& m = 0) :
    Calls Tryd.prog 13 #[.pointer (some ⟨B, 0, none⟩)] w fun e w' => e = .returned (.tuple #[.int .i64 0, .bool false]) ∧ Sn w w' B (seatM o m p) :=
  (take_none h (show p < 4294967296 by omega) (show m < 4294967296 by omega) h0).mono fun _ _ ⟨he, n, hn⟩ => ⟨he, by subst hn; exact ⟨h, ⟨rfl, rfl, rfl, Nat.le_refl _, fun _ _ _ => rfl⟩⟩⟩
theorem takeM_yes {w : World} {B : Nat} {m p k : Nat} (h : LS w B (seatM true m p)) (hT : TabAt w) (hp : p < 256) (hm : m < 256) (h0 : p &&& m ≠ 0) (hk : Lib.ctz 64 (p &&& m) = k) :
    Calls Tryd.prog 13 #[.pointer (some ⟨B, 0, none⟩)] w fun e w' => e = .returned (.tuple #[.int .i64 k, .bool true]) ∧ Sn w w' B (seatM true m (p - 2 ^ k)) := by
  have h2 := take_yes h hT hp hm h0 rfl
  have e : Lib.ctz 64 (coN (seatM true m p)) = k := hk
  unfold takeV at h2
  rw [e] at h2
  exact h2
set_option maxHeartbeats 1000000 in
theorem lineMasks_core (n m : Nat) (hn : n < 256) (hm : m < 256) (o : Bool) (w : World) (hT : TW w) : Calls Tryd.prog 7 #[.int .u8 n, .int .u8 m, .bool o] w fun e w' => e = .returned (.bool true) ∧ Below w.heap.size w w' := by
  have HZ := zeroS_run
  have HT := Lib.hid hT
  have HAW := Lib.hid (awake9_in w hT)
  have en : ((n : Int) % 8) = ((n % 8 : Nat) : Int) := by omega
  have hk : n % 8 < 8 := Nat.mod_lt _ (by omega)
  have H2k := two_lt8 (n % 8) hk
  have Z0 : (0 : Nat) ||| 2 ^ (n % 8) = 2 ^ (n % 8) := by simp
  have HR := Lib.hid (fun U B (h : LS U B (seatM o m 0)) => raiseM h (n % 8) hk (by omega) hm)
  rw [Z0] at HR
  have f1 := shr_bit8 m (n % 8)
  have HB := Lib.hid (only_bit (n % 8) hk m hm)
  have HB0 := Lib.hid (no_bit (n % 8) hk m hm)
  have HB2 := Lib.hid (only_bit (n % 8) hk 255 (by omega) (by
    have : ∀ k < 8, Nat.testBit 255 k = true := by decide +kernel
    exact this _ hk))
  clear hT Z0
  generalize n % 8 = k at *
  by_cases hy : o = true ∧ m.testBit k = true
  · obtain ⟨rfl, hb⟩ := hy
    rw [hb] at f1
    have h1 := HB.out hb
    have HK := Lib.hid (fun U B (h : LS U B (seatM true m (2 ^ k))) hU => takeM_yes h hU H2k hm h1.1 h1.2)
    rw [Nat.sub_self] at HK
    have HK2 := Lib.hid (fun U B (h : LS U B (seatM true 255 0)) => takeM_no h (by omega) (by omega) (.inr (Nat.zero_and _)))
    clear hb h1 HB HB0 HB2 H2k
    unfold SV.agg at *
    go_enter Tryd.func7, Tryd.ntmps7
    go_wp2_with fail
    refine (HAW.out).mono ?_
    rintro e w1 ⟨rfl, b1⟩
    have O1 := Lib.hid (ow_new b1 (seatM true m 0))
    clear b1 HAW
    go_wp2_with (first
      | (refine wpList_bdS rfl (.tmp 20) (.tmp 21) rfl m true rfl rfl ?_; rw [show ({ SV.zero with op := true, ma := m } : SV).agg = .agg (seatM true m 0).cells from rfl])
      | (refine wpList_stS rfl (.tmp 8) (.tmp 22) rfl w1.heap.size rfl SV.zero (seatM true m 0) rfl (ls_new w1 _) ?_))
    refine (HR.out _ _ (O1.out).ls).mono ?_
    rintro e w2 ⟨rfl, h2⟩
    have O2 := Lib.hid ((O1.out).turn h2)
    clear h2 O1 HR
    go_wp2_with fail
    refine (HK.out _ _ (O2.out).ls ((O2.out).tab HT.out)).mono ?_
    rintro e w3 ⟨rfl, h3⟩
    have O3 := Lib.hid ((O2.out).turn h3)
    have O4 : Hid (Ow w ((w3.setCell ⟨w1.heap.size, 25, none⟩ (.int .u32 255)).setCell ⟨w1.heap.size, 22, none⟩ (.bool true)) w1.heap.size (seatM true 255 0)) :=
      Lib.hid (((O3.out).turn ⟨(O3.out).ls.setMa 255, grown_setCellS _ ⟨w1.heap.size, 25, none⟩ _⟩).turn ⟨((O3.out).ls.setMa 255).setOp true, grown_setCellS _ ⟨w1.heap.size, 22, none⟩ _⟩)
    have g1 := (O3.out).ls.ma'
    have g2 := (O3.out).ls.op'
    have g3 := (O3.out).ls.fz 22
    have g4 := (O3.out).ls.fz 25
    clear h3 O2 O3 HK
    go_wp2_with fail
    refine (HK2.out _ _ (O4.out).ls).mono ?_
    rintro e w5 ⟨rfl, h5⟩
    have O5 := Lib.hid ((O4.out).turn h5)
    have g5 : w5.cell? ⟨w1.heap.size, 24, none⟩ = some (.int .u32 0) := (O5.out).ls.pd'
    clear h5 O4 g1 g2 g3 g4
    go_wp2
    go_ret
    exact ⟨rfl, (O5.out).bel⟩
  · have HK2 := Lib.hid (fun U B (h : LS U B (seatM true 255 (2 ^ k))) hU => takeM_yes h hU H2k (by omega) HB2.out.1 HB2.out.2)
    rw [Nat.sub_self] at HK2
    cases ho : o
    · subst ho
      have HK := Lib.hid (fun U B (h : LS U B (seatM false m (2 ^ k))) => takeM_no h H2k hm (.inl rfl))
      clear hy HB HB0 HB2 H2k f1
      unfold SV.agg at *
      go_enter Tryd.func7, Tryd.ntmps7
      go_wp2_with fail
      refine (HAW.out).mono ?_
      rintro e w1 ⟨rfl, b1⟩
      have O1 := Lib.hid (ow_new b1 (seatM false m 0))
      clear b1 HAW
      go_wp2_with (first
        | (refine wpList_bdS rfl (.tmp 20) (.tmp 21) rfl m false rfl rfl ?_; rw [show ({ SV.zero with op := false, ma := m } : SV).agg = .agg (seatM false m 0).cells from rfl])
        | (refine wpList_stS rfl (.tmp 8) (.tmp 22) rfl w1.heap.size rfl SV.zero (seatM false m 0) rfl (ls_new w1 _) ?_))
      refine (HR.out _ _ (O1.out).ls).mono ?_
      rintro e w2 ⟨rfl, h2⟩
      have O2 := Lib.hid ((O1.out).turn h2)
      clear h2 O1 HR
      go_wp2_with fail
      refine (HK.out _ _ (O2.out).ls).mono ?_
      rintro e w3 ⟨rfl, h3⟩
      have O3 := Lib.hid ((O2.out).turn h3)
      have O4 : Hid (Ow w ((w3.setCell ⟨w1.heap.size, 25, none⟩ (.int .u32 255)).setCell ⟨w1.heap.size, 22, none⟩ (.bool true)) w1.heap.size (seatM true 255 (2 ^ k))) :=
        Lib.hid (((O3.out).turn ⟨(O3.out).ls.setMa 255, grown_setCellS _ ⟨w1.heap.size, 25, none⟩ _⟩).turn ⟨((O3.out).ls.setMa 255).setOp true, grown_setCellS _ ⟨w1.heap.size, 22, none⟩ _⟩)
      have g1 := (O3.out).ls.ma'
      have g2 := (O3.out).ls.op'
      have g3 := (O3.out).ls.fz 22
      have g4 := (O3.out).ls.fz 25
      clear h3 O2 O3 HK
      go_wp2_with fail
      refine (HK2.out _ _ (O4.out).ls ((O4.out).tab HT.out)).mono ?_
      rintro e w5 ⟨rfl, h5⟩
      have O5 := Lib.hid ((O4.out).turn h5)
      have g5 : w5.cell? ⟨w1.heap.size, 24, none⟩ = some (.int .u32 0) := (O5.out).ls.pd'
      clear h5 O4 g1 g2 g3 g4
      go_wp2
      go_ret
      exact ⟨rfl, (O5.out).bel⟩
    · subst ho
      have hb : m.testBit k = false := by cases h : m.testBit k
                                          · rfl
                                          · exact absurd ⟨rfl, h⟩ hy
      rw [hb] at f1
      have HK := Lib.hid (fun U B (h : LS U B (seatM true m (2 ^ k))) => takeM_no h H2k hm (.inr (HB0.out hb)))
      clear hy HB HB0 HB2 H2k hb
      unfold SV.agg at *
      go_enter Tryd.func7, Tryd.ntmps7
      go_wp2_with fail
      refine (HAW.out).mono ?_
      rintro e w1 ⟨rfl, b1⟩
      have O1 := Lib.hid (ow_new b1 (seatM true m 0))
      clear b1 HAW
      go_wp2_with (first
        | (refine wpList_bdS rfl (.tmp 20) (.tmp 21) rfl m true rfl rfl ?_; rw [show ({ SV.zero with op := true, ma := m } : SV).agg = .agg (seatM true m 0).cells from rfl])
        | (refine wpList_stS rfl (.tmp 8) (.tmp 22) rfl w1.heap.size rfl SV.zero (seatM true m 0) rfl (ls_new w1 _) ?_))
      refine (HR.out _ _ (O1.out).ls).mono ?_
      rintro e w2 ⟨rfl, h2⟩
      have O2 := Lib.hid ((O1.out).turn h2)
      clear h2 O1 HR
      go_wp2_with fail
      refine (HK.out _ _ (O2.out).ls).mono ?_
      rintro e w3 ⟨rfl, h3⟩
      have O3 := Lib.hid ((O2.out).turn h3)
      have O4 : Hid (Ow w ((w3.setCell ⟨w1.heap.size, 25, none⟩ (.int .u32 255)).setCell ⟨w1.heap.size, 22, none⟩ (.bool true)) w1.heap.size (seatM true 255 (2 ^ k))) :=
        Lib.hid (((O3.out).turn ⟨(O3.out).ls.setMa 255, grown_setCellS _ ⟨w1.heap.size, 25, none⟩ _⟩).turn ⟨((O3.out).ls.setMa 255).setOp true, grown_setCellS _ ⟨w1.heap.size, 22, none⟩ _⟩)
      have g1 := (O3.out).ls.ma'
      have g2 := (O3.out).ls.op'
      have g3 := (O3.out).ls.fz 22
      have g4 := (O3.out).ls.fz 25
      clear h3 O2 O3 HK
      go_wp2_with fail
      refine (HK2.out _ _ (O4.out).ls ((O4.out).tab HT.out)).mono ?_
      rintro e w5 ⟨rfl, h5⟩
      have O5 := Lib.hid ((O4.out).turn h5)
      have g5 : w5.cell? ⟨w1.heap.size, 24, none⟩ = some (.int .u32 0) := (O5.out).ls.pd'
      clear h5 O4 g1 g2 g3 g4
      go_wp2
      go_ret
      exact ⟨rfl, (O5.out).bel⟩
end Go.Proofs.YtfiahkjaeeoepaaDoor
