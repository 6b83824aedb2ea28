/-
  Contracts of package line, of word.First, and of what the laws of layer 9 call.
-/
import Derived.Test.YtpbjfjedgcabhaaDoorLA
import Derived.Test.YtpbjfjedgcabhaaDoorWM
import Derived.Test.YtpbjfjedgcabhaaDoorYA
import Derived.Lib.TrailingZeros
import Derived.Lib.LaidTab
import Derived.LaidMore
import Derived.MakeChecks
import Derived.Laws.Bits64b
import Derived.Laws.BitsAllLaws
import Derived.Laws.BitsLemmas
import Derived.Outline
import Derived.WalkLawsBesides
import Derived.Deep.QuietTactic
import Derived.BigQuiet
import Derived.Deep.RegionHeld3
import Derived.Deep.RegionWith
namespace Go.Proofs.YtpbjfjedgcabhaaDoor
open Go.ChangeShapes Go.WideShapes Go.ChangeAt Go.RowKit
open WM
set_option maxRecDepth 100000
set_option linter.unusedVariables false

/-! ### the table of math/bits -/
def TabAt (w : World) : Prop := ∀ j, j < 64 → w.cell? ⟨0, j, none⟩ = some (.int .u8 (Lib.deBruijn64tab.getD j 0 : Nat))
abbrev TW (w : World) : Prop := TabAt w
theorem TabAt.pos {w : World} (h : TabAt w) : 0 < w.heap.size := World.block_lt_of_cell? _ _ (h 0 (by omega))
theorem TabAt.below {w w' : World} (h : TabAt w) (hb : Below w.heap.size w w') : TabAt w' := fun j hj => (hb.cell (p := ⟨0, j, none⟩) h.pos).trans (h j hj)
theorem TabAt.kept {w w' : World} {row : Option Nat} (h : TabAt w) (hg : w.grownBy w' row) (hr : some 0 ≠ row) : TabAt w' := fun j hj => (World.cell?_of_block (a := ⟨0, j, none⟩) (hg.block 0 h.pos hr)).trans (h j hj)
theorem TabAt.apart {w : World} {B : Nat} {s : SV} (h : TabAt w) (hL : LS w B s) : B ≠ 0 := by
  rintro rfl
  have h1 := h 22 (by omega)
  rw [hL.op'] at h1
  simp at h1
theorem gTab : Tryd.prog.globalNamed "math/bits.deBruijn64tab" = some 0 := by kernel_rfl
theorem tTab : (Tryd.prog.globals[0]?).map (·.type) = some 131 := by kernel_rfl
theorem laid_tab : Rows.laid_math_bits_deBruijn64tab = (Lib.tabData .u8 (Lib.deBruijn64tab.map fun n : Nat => (n : Int)) : DataW Unit) := by rfl
theorem tw_of {W : World} (h : laidMetH Tryd.prog [("math/bits.deBruijn64tab", Rows.laid_math_bits_deBruijn64tab)] W) (_ : W.ShapedOpen Tryd.prog) : TW W := by
  rw [MakeChecks.laidMetH_plain _ _ _ (by kernel_rfl)] at h
  have ht := Lib.tabIs_of_head (P := Tryd.prog) (k := .u8) (zs := Lib.deBruijn64tab.map fun n : Nat => (n : Int)) (rest := []) gTab tTab Tryd.underlying131 Tryd.underlying5 (by kernel_rfl) (by kernel_rfl) h
  intro j hj
  have hc := ht.cell gTab j (by simpa [Lib.deBruijn64tab] using hj)
  rw [hc]
  simp [List.getD_eq_getElem?_getD, List.getElem?_map]
  cases Lib.deBruijn64tab[j]? <;> simp

/-! ### math/bits.TrailingZeros64, word.First -/
theorem tz_key (x a : Nat) (hx : x < 18446744073709551616) (hx0 : x ≠ 0) (hlow : x &&& (18446744073709551616 - x) = a) :
    IntKind.u64.wrap (bits BinOp.and IntKind.u64 (x : Int) (IntKind.u64.wrap (-(x : Int))) * 285870213051353865) / 288230376151711744 = ((a * 285870213051353865 % 18446744073709551616 / 288230376151711744 : Nat) : Int) := by
  have e1 : IntKind.u64.wrap (-(x : Int)) = ((18446744073709551616 - x : Nat) : Int) := by rw [IntKind.wrap_u64]; omega
  rw [e1, bits_and_u64_nat x _ hx (by omega), hlow, IntKind.wrap_u64]
  omega
set_option maxHeartbeats 1000000 in
theorem tz_core (x k idx : Nat) (w : World) (hx0 : ((x : Int) == 0) = false)
    (key : IntKind.u64.wrap (bits BinOp.and IntKind.u64 (x : Int) (IntKind.u64.wrap (-(x : Int))) * 285870213051353865) / 288230376151711744 = (idx : Int))
    (hi : idx < 64) (hk : k < 64) (hcell : w.cell? ⟨0, idx, none⟩ = some (.int .u8 k)) :
    Calls Tryd.prog 67 #[.int .u64 x] w fun e w' => e = .returned (.int .i64 k) ∧ w = w' := by
  go_enter Tryd.func67, Tryd.ntmps67
  go_wp2_with (simp only [key])
  go_ret
  exact ⟨rfl, rfl⟩
theorem first_in (x : Nat) (w : World) (hx : x < 18446744073709551616) (hx0 : x ≠ 0) (hT : TabAt w) :
    Calls Tryd.prog 52 #[.int .u64 x] w fun e w' => e = .returned (.int .i64 (Lib.ctz 64 x : Nat)) ∧ w = w' := by
  obtain ⟨hlow, hk⟩ := Lib.lowest_bit 64 x hx0 hx
  obtain ⟨hi, htab⟩ := Lib.deBruijn64_at _ hk
  have hcell := hT _ hi
  rw [htab] at hcell
  have c := tz_core x _ _ w (by simp; omega) (tz_key x _ hx hx0 hlow) hi hk hcell
  go_enter Tryd.func52, Tryd.ntmps52
  go_wp2_with (go_at_call 67; refine c.mono ?_; rintro e w' ⟨rfl, rfl⟩)
  go_ret
  exact ⟨rfl, rfl⟩

/-! ### line.Right, bit -/
theorem two_lt (k : Nat) (hk : k < 32) : 2 ^ k < 4294967296 := by
  have : 2 ^ k < 2 ^ 32 := Nat.pow_lt_pow_right (by decide) hk
  simpa using this
theorem wrap32 (n : Nat) (h : n < 4294967296) : IntKind.u32.wrap (n : Int) = (n : Int) := by rw [IntKind.wrap_u32]; omega
theorem shl_one (k : Nat) (hk : k < 32) : (2 ^ k : Int) % 4294967296 = ((2 ^ k : Nat) : Int) := by
  have e : ((2 : Int) ^ k) = ((2 ^ k : Nat) : Int) := by simp
  have := two_lt k hk
  rw [e]
  generalize 2 ^ k = t at *
  omega
theorem bitS_in (k : Nat) (w : World) (hk : k < 32) : Calls Tryd.prog 30 #[.int .i64 k] w fun e w' => e = .returned (.int .u32 (2 ^ k : Nat)) ∧ w = w' := by
  have h := Lib.hid (shl_one k hk)
  go_enter Tryd.func30, Tryd.ntmps30
  go_wp2
  go_ret
  exact ⟨by rw [h.out]; rfl, rfl⟩

/-! ### line.coming -/
theorem and32 (a b : Nat) (ha : a < 4294967296) (hb : b < 4294967296) : bits .and .u32 (a : Int) (b : Int) = ((a &&& b : Nat) : Int) :=
  (bits_nat .u32 32 (by decide) (fun n h0 h1 => by rw [IntKind.wrap_u32]; omega) a b (by simpa using ha) (by simpa using hb)).1
theorem or32 (a b : Nat) (ha : a < 4294967296) (hb : b < 4294967296) : bits .or .u32 (a : Int) (b : Int) = ((a ||| b : Nat) : Int) :=
  (bits_nat .u32 32 (by decide) (fun n h0 h1 => by rw [IntKind.wrap_u32]; omega) a b (by simpa using ha) (by simpa using hb)).2
def coN (s : SV) : Nat := s.pd &&& s.ma
theorem coN_lt (s : SV) (hp : s.pd < 4294967296) : coN s < 4294967296 := Nat.lt_of_le_of_lt Nat.and_le_left hp
theorem coming_in {w : World} {B : Nat} {s : SV} (h : LS w B s) (hp : s.pd < 4294967296) (hm : s.ma < 4294967296) :
    Calls Tryd.prog 51 #[.pointer (some ⟨B, 0, none⟩)] w fun e w' => e = .returned (.int .u32 (coN s : Nat)) ∧ ∃ n, w' = w.drewN n := by
  have c1 := h.pd'
  have c2 := h.ma'
  have e := Lib.hid (and32 s.pd s.ma hp hm)
  unfold coN
  generalize s.pd = p at *
  generalize s.ma = m at *
  clear h
  go_enter Tryd.func51, Tryd.ntmps51
  go_wp2
  go_quiet (fail)
  go_wp2
  go_ret
  exact ⟨by rw [e.out]; rfl, _, rfl⟩
theorem grown_from {a b : World} {r : Option Nat} (n : Nat) (h : (a.drewN n).grownBy b r) : a.grownBy b r := ⟨h.os, h.tape, h.output, h.size, h.block⟩
theorem TabAt.drewN {w : World} (h : TabAt w) (n : Nat) : TabAt (w.drewN n) := h

/-! ### line.Next, line.Take -/
theorem next_nil (w : World) : Calls Tryd.prog 29 #[.pointer none] w fun e w' => e = .returned (.tuple #[.int .i64 0, .bool false]) ∧ ∃ n, w' = w.drewN n := by
  go_enter Tryd.func29, Tryd.ntmps29
  go_wp2
  go_ret2
  exact ⟨rfl, 0, rfl⟩
theorem next_shut {w : World} {B : Nat} {s : SV} (h : LS w B s) (ho : s.op = false) :
    Calls Tryd.prog 29 #[.pointer (some ⟨B, 0, none⟩)] w fun e w' => e = .returned (.tuple #[.int .i64 0, .bool false]) ∧ ∃ n, w' = w.drewN n := by
  have c1 := h.op'
  rw [ho] at c1
  clear h ho
  go_enter Tryd.func29, Tryd.ntmps29
  go_wp2
  go_ret2
  exact ⟨rfl, 0, rfl⟩
theorem next_none {w : World} {B : Nat} {s : SV} (h : LS w B s) (hp : s.pd < 4294967296) (hm : s.ma < 4294967296) (h0 : coN s = 0) :
    Calls Tryd.prog 29 #[.pointer (some ⟨B, 0, none⟩)] w fun e w' => e = .returned (.tuple #[.int .i64 0, .bool false]) ∧ ∃ n, w' = w.drewN n := by
  have c1 := h.op'
  have HC := Lib.hid (coming_in h hp hm)
  rw [h0] at HC
  cases ho : s.op
  · exact next_shut h ho
  · rw [ho] at c1
    clear h ho h0 hp hm
    go_enter Tryd.func29, Tryd.ntmps29
    go_wp2_with fail
    refine (HC.out).mono ?_
    rintro e w1 ⟨rfl, n, rfl⟩
    go_wp2
    go_ret2
    exact ⟨rfl, n, rfl⟩
set_option maxHeartbeats 400000 in
theorem next_yes {w : World} {B : Nat} {s : SV} (h : LS w B s) (hT : TabAt w) (hp : s.pd < 4294967296) (hm : s.ma < 4294967296) (h0 : coN s ≠ 0) (ho : s.op = true) :
    Calls Tryd.prog 29 #[.pointer (some ⟨B, 0, none⟩)] w fun e w' => e = .returned (.tuple #[.int .i64 (Lib.ctz 64 (coN s) : Nat), .bool true]) ∧ ∃ n, w' = w.drewN n := by
  have c1 := h.op'
  rw [ho] at c1
  have HC := Lib.hid (fun n => coming_in (h.drewN n) hp hm)
  have HC0 := Lib.hid (coming_in h hp hm)
  have hlt := coN_lt s hp
  have HF := Lib.hid (fun n => first_in (coN s) (w.drewN n) (by omega) h0 hT)
  clear h ho hp hm hT
  obtain ⟨v, hv⟩ : ∃ v, Lib.ctz 64 (coN s) = v := ⟨_, rfl⟩
  rw [hv] at HF ⊢
  clear hv
  generalize coN s = x at *
  have z : ((x : Int) == 0) = false := by simp; omega
  clear h0
  go_enter Tryd.func29, Tryd.ntmps29
  go_wp2_with fail
  refine (HC0.out).mono ?_
  rintro e w1 ⟨rfl, n, rfl⟩
  go_wp2_with fail
  refine (HC.out n).mono ?_
  rintro e w1 ⟨rfl, m, rfl⟩
  go_wp2_with fail
  refine (HF.out (n + m)).mono ?_
  rintro e w1 ⟨rfl, rfl⟩
  go_wp2
  go_ret2
  exact ⟨rfl, n + m, rfl⟩
/-! the line that is taken stands no more -/
theorem ctz_bit (x : Nat) (hx : x < 256) (h0 : x ≠ 0) : Lib.ctz 64 x < 8 ∧ x.testBit (Lib.ctz 64 x) = true := by
  have h : ∀ x < 256, x ≠ 0 → Lib.ctz 64 x < 8 ∧ x.testBit (Lib.ctz 64 x) = true := by decide +kernel
  exact h x hx h0
theorem ctz_least (x : Nat) (hx : x < 256) (j : Nat) (hj : j < Lib.ctz 64 x) : x.testBit j = false := by
  by_cases h0 : x = 0
  · subst h0; simp
  · have h : ∀ x < 256, x ≠ 0 → ∀ j < Lib.ctz 64 x, x.testBit j = false := by decide +kernel
    exact h x hx h0 j hj
theorem andNot_sub (p : Nat) (hp : p < 256) (k : Nat) (hk : k < 8) (h : p.testBit k = true) : bits .andNot .u32 (p : Int) ((2 ^ k : Nat) : Int) = ((p - 2 ^ k : Nat) : Int) := by
  have h' : ∀ p : Nat, p < 256 → ∀ k : Nat, k < 8 → p.testBit k = true → bits .andNot .u32 (p : Int) ((2 ^ k : Nat) : Int) = ((p - 2 ^ k : Nat) : Int) := by decide +kernel
  exact h' p hp k hk h
theorem sub_bit (p : Nat) (hp : p < 256) (k : Nat) (hk : k < 8) (h : p.testBit k = true) (j : Nat) (hj : j < 8) : (p - 2 ^ k).testBit j = (p.testBit j && decide (j ≠ k)) := by
  have h' : ∀ p < 256, ∀ k < 8, p.testBit k = true → ∀ j < 8, (p - 2 ^ k).testBit j = (p.testBit j && decide (j ≠ k)) := by decide +kernel
  exact h' p hp k hk h j hj
theorem or_bit (p k j : Nat) : (p ||| 2 ^ k).testBit j = (p.testBit j || decide (k = j)) := by rw [Nat.testBit_or, Nat.testBit_two_pow]
theorem or_lt (p : Nat) (hp : p < 256) (k : Nat) (hk : k < 8) : p ||| 2 ^ k < 256 := Nat.or_lt_two_pow (n := 8) hp (Nat.pow_lt_pow_right (by decide) hk)
theorem coN_lt8 (s : SV) (hp : s.pd < 256) : coN s < 256 := Nat.lt_of_le_of_lt Nat.and_le_left hp
theorem coN_bit (s : SV) (j : Nat) : (coN s).testBit j = (s.pd.testBit j && s.ma.testBit j) := Nat.testBit_and _ _ _
theorem take_nil (w : World) : Calls Tryd.prog 20 #[.pointer none] w fun e w' => e = .returned (.tuple #[.int .i64 0, .bool false]) ∧ ∃ n, w' = w.drewN n := by
  have H := Lib.hid (next_nil w)
  go_enter Tryd.func20, Tryd.ntmps20
  go_wp2_with fail
  refine (H.out).mono ?_
  rintro e w1 ⟨rfl, n, rfl⟩
  go_wp2
  go_ret2
  exact ⟨rfl, n, rfl⟩
theorem take_none {w : World} {B : Nat} {s : SV} (h : LS w B s) (hp : s.pd < 4294967296) (hm : s.ma < 4294967296) (h0 : s.op = false ∨ coN s = 0) :
    Calls Tryd.prog 20 #[.pointer (some ⟨B, 0, none⟩)] w fun e w' => e = .returned (.tuple #[.int .i64 0, .bool false]) ∧ ∃ n, w' = w.drewN n := by
  have H := Lib.hid (show Calls Tryd.prog 29 #[.pointer (some ⟨B, 0, none⟩)] w fun e w' => e = .returned (.tuple #[.int .i64 0, .bool false]) ∧ ∃ n, w' = w.drewN n from by
    rcases h0 with h0 | h0
    · exact next_shut h h0
    · exact next_none h hp hm h0)
  clear h h0 hp hm
  go_enter Tryd.func20, Tryd.ntmps20
  go_wp2_with fail
  refine (H.out).mono ?_
  rintro e w1 ⟨rfl, n, rfl⟩
  go_wp2
  go_ret2
  exact ⟨rfl, n, rfl⟩
def takeV (s : SV) : SV := { s with pd := s.pd - 2 ^ Lib.ctz 64 (coN s) }
theorem take_yes {w : World} {B : Nat} {s : SV} (h : LS w B s) (hT : TabAt w) (hp : s.pd < 256) (hm : s.ma < 256) (h0 : coN s ≠ 0) (ho : s.op = true) :
    Calls Tryd.prog 20 #[.pointer (some ⟨B, 0, none⟩)] w fun e w' => e = .returned (.tuple #[.int .i64 (Lib.ctz 64 (coN s) : Nat), .bool true]) ∧ Sn w w' B (takeV s) := by
  have H := Lib.hid (next_yes h hT (by omega) (by omega) h0 ho)
  obtain ⟨hk, hb⟩ := ctz_bit (coN s) (coN_lt8 s hp) h0
  have hb2 : s.pd.testBit (Lib.ctz 64 (coN s)) = true := by rw [coN_bit] at hb; exact (Bool.and_eq_true_iff.1 hb).1
  have HA := Lib.hid (andNot_sub s.pd hp _ hk hb2)
  have HS : Hid (∀ n, Sn w ((w.drewN n).setCell ⟨B, 24, none⟩ (.int .u32 ((s.pd - 2 ^ Lib.ctz 64 (coN s) : Nat) : Int))) B (takeV s)) := Lib.hid (fun n =>
    ⟨(h.drewN n).setPd _, grown_from n (grown_setCellS _ ⟨B, 24, none⟩ _)⟩)
  have c1 := h.pd'
  have cf := h.fz 24
  have HB := Lib.hid (fun U => bitS_in (Lib.ctz 64 (coN s)) U (by omega))
  clear hb hb2 ho h0 hT h
  generalize Lib.ctz 64 (coN s) = k at *
  generalize takeV s = t at *
  generalize s.pd = p at *
  generalize 2 ^ k = q at *
  go_enter Tryd.func20, Tryd.ntmps20
  go_wp2_with fail
  refine (H.out).mono ?_
  rintro e w1 ⟨rfl, n, rfl⟩
  go_wp2
  go_region_with (refine (HB.out _).mono ?_; rintro e w' ⟨rfl, rfl⟩)
  all_goals go_wp2
  all_goals go_ret2
  all_goals exact ⟨rfl, by rw [HA.out]; exact HS.out _⟩

/-! ### line.Wake, line.Raise -/
def wakeB (s : SV) : Bool := decide (s.st = 1 ∧ coN s ≠ 0)
def wakeV (s : SV) : SV := if wakeB s then { s with st := 0 } else s
theorem grown_self (w : World) (r : Option Nat) : w.grownBy w r := ⟨rfl, rfl, rfl, Nat.le_refl _, fun _ _ _ => rfl⟩
theorem Sn.from {a b : World} {B : Nat} {s : SV} (n : Nat) (h : Sn (a.drewN n) b B s) : Sn a b B s := ⟨h.ls, grown_from n h.gr⟩
theorem wake_nil (w : World) : Calls Tryd.prog 65 #[.pointer none] w fun e w' => e = .returned (.tuple #[]) ∧ w = w' := by
  go_enter Tryd.func65, Tryd.ntmps65
  go_wp2
  go_end0
  exact ⟨rfl, rfl⟩
theorem wake_in {w : World} {B : Nat} {s : SV} (h : LS w B s) (hp : s.pd < 4294967296) (hm : s.ma < 4294967296) :
    Calls Tryd.prog 65 #[.pointer (some ⟨B, 0, none⟩)] w fun e w' => e = .returned (.tuple #[]) ∧ Sn w w' B (wakeV s) := by
  have c1 := h.st'
  have cf := h.fz 23
  have HC := Lib.hid (coming_in h hp hm)
  have hlt := coN_lt s hp
  by_cases h1 : s.st = 1
  · rw [h1] at c1
    by_cases h0 : coN s = 0
    · have hv : wakeV s = s := by unfold wakeV wakeB; rw [if_neg (by simp [h0])]
      rw [hv]
      rw [h0] at HC
      have HE : Hid (∀ n, Sn w (w.drewN n) B s) := Lib.hid (fun n => ⟨h, ⟨rfl, rfl, rfl, Nat.le_refl _, fun _ _ _ => rfl⟩⟩)
      clear h h0 hp hm h1 hv hlt
      go_enter Tryd.func65, Tryd.ntmps65
      go_wp2_with fail
      refine (HC.out).mono ?_
      rintro e w1 ⟨rfl, n, rfl⟩
      go_wp2
      go_end0
      exact ⟨rfl, HE.out n⟩
    · have hv : wakeV s = { s with st := 0 } := by unfold wakeV wakeB; rw [if_pos (by simp [h0, h1])]
      rw [hv]
      have HE : Hid (∀ n, Sn w ((w.drewN n).setCell ⟨B, 23, none⟩ (.int .u8 0)) B { s with st := 0 }) := Lib.hid (fun n => ⟨(h.drewN n).setSt 0, grown_from n (grown_setCellS _ ⟨B, 23, none⟩ _)⟩)
      clear h hp hm hv
      generalize coN s = x at *
      have z : ((x : Int) == 0) = false := by simp; omega
      have z2 : ((x : Int) != 0) = true := by simp; omega
      clear h0 h1
      go_enter Tryd.func65, Tryd.ntmps65
      go_wp2_with fail
      refine (HC.out).mono ?_
      rintro e w1 ⟨rfl, n, rfl⟩
      go_wp2
      go_end0
      exact ⟨rfl, HE.out n⟩
  · have hv : wakeV s = s := by unfold wakeV wakeB; rw [if_neg (by simp [h1])]
    rw [hv]
    have HE : Hid (Sn w w B s) := Lib.hid ⟨h, grown_self _ _⟩
    clear h hp hm hv HC
    generalize s.st = y at *
    have z : ((y : Int) == 1) = false := by simp; omega
    clear h1
    go_enter Tryd.func65, Tryd.ntmps65
    go_wp2
    go_end0
    exact ⟨rfl, HE.out⟩
end Go.Proofs.YtpbjfjedgcabhaaDoor
