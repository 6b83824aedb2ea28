/-
  cpu.reckon: what register A is behind an operation that is of registers and N alone.
-/
import Derived.Test.YtpbjfjedgcabhaaDoorZC
import Derived.Test.YtpbjfjedgcabhaaDoorZR
namespace Go.Proofs.YtpbjfjedgcabhaaDoor
open Go.ChangeShapes Go.WideShapes Go.ChangeAt Go.RowKit
open WM CM
set_option maxRecDepth 100000
set_option linter.unusedVariables false

def setR (s : SV) (a v : Nat) : SV := { s with r := fun i => if i = a then v else s.r i }
theorem reg16 {a : Nat} (h : a < 16) : a = 0 ∨ a = 1 ∨ a = 2 ∨ a = 3 ∨ a = 4 ∨ a = 5 ∨ a = 6 ∨ a = 7 ∨ a = 8 ∨ a = 9 ∨ a = 10 ∨ a = 11 ∨ a = 12 ∨ a = 13 ∨ a = 14 ∨ a = 15 := by omega
theorem setR_cells (s : SV) (a v : Nat) (h : a < 16) : s.cells.setIfInBounds a (.int .u64 v) = (setR s a v).cells := by
  rcases reg16 h with rfl | rfl | rfl | rfl | rfl | rfl | rfl | rfl | rfl | rfl | rfl | rfl | rfl | rfl | rfl | rfl <;> rfl
theorem cells_r (s : SV) (a : Nat) (h : a < 16) : s.cells[a]? = some (.int .u64 (s.r a)) := by
  rcases reg16 h with rfl | rfl | rfl | rfl | rfl | rfl | rfl | rfl | rfl | rfl | rfl | rfl | rfl | rfl | rfl | rfl <;> rfl
theorem LS.reg {w : World} {B : Nat} {s : SV} (h : LS w B s) (a : Nat) (ha : a < 16) : w.cell? ⟨B, a, none⟩ = some (.int .u64 (s.r a)) := (h.cell a).trans (cells_r s a ha)
theorem Sn.setR {w w' : World} {B : Nat} {s : SV} (h : Sn w w' B s) (a v : Nat) (ha : a < 16) : Sn w (w'.setCell ⟨B, a, none⟩ (.int .u64 v)) B (setR s a v) := h.cell a _ (setR_cells s a v ha)
/-- N as 64 bits. -/
def kN (n : Int) : Nat := (n % 18446744073709551616).toNat
theorem kN_lt (n : Int) : kN n < 18446744073709551616 := by unfold kN; omega
def subN (x y : Nat) : Nat := (((x : Int) - (y : Int)) % 18446744073709551616).toNat
theorem subN_cast (x y : Nat) (hx : x < 18446744073709551616) (hy : y < 18446744073709551616) : IntKind.u64.wrap ((x : Int) - (y : Int)) = ((subN x y : Nat) : Int) := by
  rw [IntKind.wrap_u64]; unfold subN; omega
def reckN (s : SV) (c a b d : Nat) (n : Int) : Nat :=
  match c with
  | 1 => kN n
  | 2 => withN (s.r a) 16 48 (kN n)
  | 3 => (s.r b + s.r d) % 18446744073709551616
  | 4 => subN (s.r b) (s.r d)
  | 5 => (s.r b * s.r d) % 18446744073709551616
  | 6 => s.r b &&& s.r d
  | 7 => s.r b ||| s.r d
  | 8 => s.r b ^^^ s.r d
  | 9 => (s.r b * 2 ^ (s.r d % 64)) % 18446744073709551616
  | 10 => s.r b / 2 ^ (s.r d % 64)
  | _ => (s.r b + kN n) % 18446744073709551616
theorem reckon_3 {w : World} {B : Nat} {s : SV} (h : LS w B s) (hs : s.ok) (c a b d : Nat) (n : Int) (ha : a < 16) (hb : b < 16) (hd : d < 16) (hc : c = 3) :
    Calls Tryd.prog 46 #[.pointer (some ⟨B, 0, none⟩), opV c a b d n] w fun e w' => e = .returned (.int .u64 (reckN s c a b d n : Nat)) ∧ Below w.heap.size w w' := by
  have r1 := h.reg b hb
  have r2 := h.reg d hd
  have r0 := h.reg a ha
  have hlt := h.lt
  have y64 := hs.r b hb
  have z64 := hs.r d hd
  have x64 := hs.r a ha
  have g1 : (b : Int) < 16 := by omega
  have g2 : (d : Int) < 16 := by omega
  have g0 : (a : Int) < 16 := by omega
  have hne : ¬ B = w.heap.size := by omega
  have HB := Lib.hid (below_new w (.cells #[.int .u8 c, .int .u8 a, .int .u8 b, .int .u8 d, .int .i16 n] 74))
  have HN := Lib.hid (cnumber_in c a b d n)
  have HV : Hid (IntKind.u64.wrap ((s.r b : Int) + (s.r d : Int)) = ((reckN s c a b d n : Nat) : Int)) := Lib.hid (by subst hc; show _ = (((s.r b + s.r d) % 18446744073709551616 : Nat) : Int); rw [IntKind.wrap_u64]; omega)
  unfold opV at *
  clear h hs y64 z64 x64
  obtain ⟨v, hv⟩ : ∃ v, reckN s c a b d n = v := ⟨_, rfl⟩
  rw [hv] at HV ⊢
  clear hv
  subst hc
  generalize s.r b = y at *
  generalize s.r d = z at *
  go_enter Tryd.func46, Tryd.ntmps46
  go_wp2_with fail
  go_quiet (fail)
  go_wp2
  go_ret
  exact ⟨by rw [← HV.out]; rfl, below_draws HB.out _⟩
theorem reckon_4 {w : World} {B : Nat} {s : SV} (h : LS w B s) (hs : s.ok) (c a b d : Nat) (n : Int) (ha : a < 16) (hb : b < 16) (hd : d < 16) (hc : c = 4) :
    Calls Tryd.prog 46 #[.pointer (some ⟨B, 0, none⟩), opV c a b d n] w fun e w' => e = .returned (.int .u64 (reckN s c a b d n : Nat)) ∧ Below w.heap.size w w' := by
  have r1 := h.reg b hb
  have r2 := h.reg d hd
  have r0 := h.reg a ha
  have hlt := h.lt
  have y64 := hs.r b hb
  have z64 := hs.r d hd
  have x64 := hs.r a ha
  have g1 : (b : Int) < 16 := by omega
  have g2 : (d : Int) < 16 := by omega
  have g0 : (a : Int) < 16 := by omega
  have hne : ¬ B = w.heap.size := by omega
  have HB := Lib.hid (below_new w (.cells #[.int .u8 c, .int .u8 a, .int .u8 b, .int .u8 d, .int .i16 n] 74))
  have HN := Lib.hid (cnumber_in c a b d n)
  have HV : Hid (IntKind.u64.wrap ((s.r b : Int) - (s.r d : Int)) = ((reckN s c a b d n : Nat) : Int)) := Lib.hid (by subst hc; show _ = ((subN (s.r b) (s.r d) : Nat) : Int); exact subN_cast _ _ y64 z64)
  unfold opV at *
  clear h hs y64 z64 x64
  obtain ⟨v, hv⟩ : ∃ v, reckN s c a b d n = v := ⟨_, rfl⟩
  rw [hv] at HV ⊢
  clear hv
  subst hc
  generalize s.r b = y at *
  generalize s.r d = z at *
  go_enter Tryd.func46, Tryd.ntmps46
  go_wp2_with fail
  go_quiet (fail)
  go_wp2
  go_ret
  exact ⟨by rw [← HV.out]; rfl, below_draws HB.out _⟩
theorem reckon_5 {w : World} {B : Nat} {s : SV} (h : LS w B s) (hs : s.ok) (c a b d : Nat) (n : Int) (ha : a < 16) (hb : b < 16) (hd : d < 16) (hc : c = 5) :
    Calls Tryd.prog 46 #[.pointer (some ⟨B, 0, none⟩), opV c a b d n] w fun e w' => e = .returned (.int .u64 (reckN s c a b d n : Nat)) ∧ Below w.heap.size w w' := by
  have r1 := h.reg b hb
  have r2 := h.reg d hd
  have r0 := h.reg a ha
  have hlt := h.lt
  have y64 := hs.r b hb
  have z64 := hs.r d hd
  have x64 := hs.r a ha
  have g1 : (b : Int) < 16 := by omega
  have g2 : (d : Int) < 16 := by omega
  have g0 : (a : Int) < 16 := by omega
  have hne : ¬ B = w.heap.size := by omega
  have HB := Lib.hid (below_new w (.cells #[.int .u8 c, .int .u8 a, .int .u8 b, .int .u8 d, .int .i16 n] 74))
  have HN := Lib.hid (cnumber_in c a b d n)
  have HV : Hid (IntKind.u64.wrap ((s.r b : Int) * (s.r d : Int)) = ((reckN s c a b d n : Nat) : Int)) := Lib.hid (by subst hc; show _ = (((s.r b * s.r d) % 18446744073709551616 : Nat) : Int); rw [IntKind.wrap_u64]; simp)
  unfold opV at *
  clear h hs y64 z64 x64
  obtain ⟨v, hv⟩ : ∃ v, reckN s c a b d n = v := ⟨_, rfl⟩
  rw [hv] at HV ⊢
  clear hv
  subst hc
  generalize s.r b = y at *
  generalize s.r d = z at *
  go_enter Tryd.func46, Tryd.ntmps46
  go_wp2_with fail
  go_quiet (fail)
  go_wp2
  go_ret
  exact ⟨by rw [← HV.out]; rfl, below_draws HB.out _⟩
theorem reckon_6 {w : World} {B : Nat} {s : SV} (h : LS w B s) (hs : s.ok) (c a b d : Nat) (n : Int) (ha : a < 16) (hb : b < 16) (hd : d < 16) (hc : c = 6) :
    Calls Tryd.prog 46 #[.pointer (some ⟨B, 0, none⟩), opV c a b d n] w fun e w' => e = .returned (.int .u64 (reckN s c a b d n : Nat)) ∧ Below w.heap.size w w' := by
  have r1 := h.reg b hb
  have r2 := h.reg d hd
  have r0 := h.reg a ha
  have hlt := h.lt
  have y64 := hs.r b hb
  have z64 := hs.r d hd
  have x64 := hs.r a ha
  have g1 : (b : Int) < 16 := by omega
  have g2 : (d : Int) < 16 := by omega
  have g0 : (a : Int) < 16 := by omega
  have hne : ¬ B = w.heap.size := by omega
  have HB := Lib.hid (below_new w (.cells #[.int .u8 c, .int .u8 a, .int .u8 b, .int .u8 d, .int .i16 n] 74))
  have HN := Lib.hid (cnumber_in c a b d n)
  have HV : Hid (bits .and .u64 (s.r b : Int) (s.r d : Int) = ((reckN s c a b d n : Nat) : Int)) := Lib.hid (by subst hc; show _ = ((s.r b &&& s.r d : Nat) : Int); exact bits_and_u64_nat _ _ y64 z64)
  unfold opV at *
  clear h hs y64 z64 x64
  obtain ⟨v, hv⟩ : ∃ v, reckN s c a b d n = v := ⟨_, rfl⟩
  rw [hv] at HV ⊢
  clear hv
  subst hc
  generalize s.r b = y at *
  generalize s.r d = z at *
  go_enter Tryd.func46, Tryd.ntmps46
  go_wp2_with fail
  go_quiet (fail)
  go_wp2
  go_ret
  exact ⟨by rw [← HV.out]; rfl, below_draws HB.out _⟩
theorem reckon_7 {w : World} {B : Nat} {s : SV} (h : LS w B s) (hs : s.ok) (c a b d : Nat) (n : Int) (ha : a < 16) (hb : b < 16) (hd : d < 16) (hc : c = 7) :
    Calls Tryd.prog 46 #[.pointer (some ⟨B, 0, none⟩), opV c a b d n] w fun e w' => e = .returned (.int .u64 (reckN s c a b d n : Nat)) ∧ Below w.heap.size w w' := by
  have r1 := h.reg b hb
  have r2 := h.reg d hd
  have r0 := h.reg a ha
  have hlt := h.lt
  have y64 := hs.r b hb
  have z64 := hs.r d hd
  have x64 := hs.r a ha
  have g1 : (b : Int) < 16 := by omega
  have g2 : (d : Int) < 16 := by omega
  have g0 : (a : Int) < 16 := by omega
  have hne : ¬ B = w.heap.size := by omega
  have HB := Lib.hid (below_new w (.cells #[.int .u8 c, .int .u8 a, .int .u8 b, .int .u8 d, .int .i16 n] 74))
  have HN := Lib.hid (cnumber_in c a b d n)
  have HV : Hid (bits .or .u64 (s.r b : Int) (s.r d : Int) = ((reckN s c a b d n : Nat) : Int)) := Lib.hid (by subst hc; show _ = ((s.r b ||| s.r d : Nat) : Int); exact u64_or_nat _ _ y64 z64)
  unfold opV at *
  clear h hs y64 z64 x64
  obtain ⟨v, hv⟩ : ∃ v, reckN s c a b d n = v := ⟨_, rfl⟩
  rw [hv] at HV ⊢
  clear hv
  subst hc
  generalize s.r b = y at *
  generalize s.r d = z at *
  go_enter Tryd.func46, Tryd.ntmps46
  go_wp2_with fail
  go_quiet (fail)
  go_wp2
  go_ret
  exact ⟨by rw [← HV.out]; rfl, below_draws HB.out _⟩
theorem reckon_8 {w : World} {B : Nat} {s : SV} (h : LS w B s) (hs : s.ok) (c a b d : Nat) (n : Int) (ha : a < 16) (hb : b < 16) (hd : d < 16) (hc : c = 8) :
    Calls Tryd.prog 46 #[.pointer (some ⟨B, 0, none⟩), opV c a b d n] w fun e w' => e = .returned (.int .u64 (reckN s c a b d n : Nat)) ∧ Below w.heap.size w w' := by
  have r1 := h.reg b hb
  have r2 := h.reg d hd
  have r0 := h.reg a ha
  have hlt := h.lt
  have y64 := hs.r b hb
  have z64 := hs.r d hd
  have x64 := hs.r a ha
  have g1 : (b : Int) < 16 := by omega
  have g2 : (d : Int) < 16 := by omega
  have g0 : (a : Int) < 16 := by omega
  have hne : ¬ B = w.heap.size := by omega
  have HB := Lib.hid (below_new w (.cells #[.int .u8 c, .int .u8 a, .int .u8 b, .int .u8 d, .int .i16 n] 74))
  have HN := Lib.hid (cnumber_in c a b d n)
  have HV : Hid (bits .xor .u64 (s.r b : Int) (s.r d : Int) = ((reckN s c a b d n : Nat) : Int)) := Lib.hid (by subst hc; show _ = ((s.r b ^^^ s.r d : Nat) : Int); exact u64_xor_nat _ _ y64 z64)
  unfold opV at *
  clear h hs y64 z64 x64
  obtain ⟨v, hv⟩ : ∃ v, reckN s c a b d n = v := ⟨_, rfl⟩
  rw [hv] at HV ⊢
  clear hv
  subst hc
  generalize s.r b = y at *
  generalize s.r d = z at *
  go_enter Tryd.func46, Tryd.ntmps46
  go_wp2_with fail
  go_quiet (fail)
  go_wp2
  go_ret
  exact ⟨by rw [← HV.out]; rfl, below_draws HB.out _⟩
theorem reckon_9 {w : World} {B : Nat} {s : SV} (h : LS w B s) (hs : s.ok) (c a b d : Nat) (n : Int) (ha : a < 16) (hb : b < 16) (hd : d < 16) (hc : c = 9) :
    Calls Tryd.prog 46 #[.pointer (some ⟨B, 0, none⟩), opV c a b d n] w fun e w' => e = .returned (.int .u64 (reckN s c a b d n : Nat)) ∧ Below w.heap.size w w' := by
  have r1 := h.reg b hb
  have r2 := h.reg d hd
  have r0 := h.reg a ha
  have hlt := h.lt
  have y64 := hs.r b hb
  have z64 := hs.r d hd
  have x64 := hs.r a ha
  have g1 : (b : Int) < 16 := by omega
  have g2 : (d : Int) < 16 := by omega
  have g0 : (a : Int) < 16 := by omega
  have hne : ¬ B = w.heap.size := by omega
  have HB := Lib.hid (below_new w (.cells #[.int .u8 c, .int .u8 a, .int .u8 b, .int .u8 d, .int .i16 n] 74))
  have HN := Lib.hid (cnumber_in c a b d n)
  have HV : Hid (IntKind.u64.wrap ((s.r b : Int) * 2 ^ (s.r d % 64)) = ((reckN s c a b d n : Nat) : Int)) := Lib.hid (by subst hc; show _ = (((s.r b * 2 ^ (s.r d % 64)) % 18446744073709551616 : Nat) : Int); rw [IntKind.wrap_u64]; simp)
  unfold opV at *
  clear h hs y64 z64 x64
  obtain ⟨v, hv⟩ : ∃ v, reckN s c a b d n = v := ⟨_, rfl⟩
  rw [hv] at HV ⊢
  clear hv
  subst hc
  generalize s.r b = y at *
  generalize s.r d = z at *
  go_enter Tryd.func46, Tryd.ntmps46
  go_wp2_with fail
  go_quiet (fail)
  go_wp2
  go_ret
  exact ⟨by rw [← HV.out]; rfl, below_draws HB.out _⟩
theorem reckon_10 {w : World} {B : Nat} {s : SV} (h : LS w B s) (hs : s.ok) (c a b d : Nat) (n : Int) (ha : a < 16) (hb : b < 16) (hd : d < 16) (hc : c = 10) :
    Calls Tryd.prog 46 #[.pointer (some ⟨B, 0, none⟩), opV c a b d n] w fun e w' => e = .returned (.int .u64 (reckN s c a b d n : Nat)) ∧ Below w.heap.size w w' := by
  have r1 := h.reg b hb
  have r2 := h.reg d hd
  have r0 := h.reg a ha
  have hlt := h.lt
  have y64 := hs.r b hb
  have z64 := hs.r d hd
  have x64 := hs.r a ha
  have g1 : (b : Int) < 16 := by omega
  have g2 : (d : Int) < 16 := by omega
  have g0 : (a : Int) < 16 := by omega
  have hne : ¬ B = w.heap.size := by omega
  have HB := Lib.hid (below_new w (.cells #[.int .u8 c, .int .u8 a, .int .u8 b, .int .u8 d, .int .i16 n] 74))
  have HN := Lib.hid (cnumber_in c a b d n)
  have HV : Hid ((s.r b : Int) / 2 ^ (s.r d % 64) = ((reckN s c a b d n : Nat) : Int)) := Lib.hid (by subst hc; show _ = ((s.r b / 2 ^ (s.r d % 64) : Nat) : Int); simp)
  unfold opV at *
  clear h hs y64 z64 x64
  obtain ⟨v, hv⟩ : ∃ v, reckN s c a b d n = v := ⟨_, rfl⟩
  rw [hv] at HV ⊢
  clear hv
  subst hc
  generalize s.r b = y at *
  generalize s.r d = z at *
  go_enter Tryd.func46, Tryd.ntmps46
  go_wp2_with fail
  go_quiet (fail)
  go_wp2
  go_ret
  exact ⟨by rw [← HV.out]; rfl, below_draws HB.out _⟩
theorem reckon_1 {w : World} {B : Nat} {s : SV} (h : LS w B s) (hs : s.ok) (c a b d : Nat) (n : Int) (ha : a < 16) (hb : b < 16) (hd : d < 16) (hc : c = 1) :
    Calls Tryd.prog 46 #[.pointer (some ⟨B, 0, none⟩), opV c a b d n] w fun e w' => e = .returned (.int .u64 (reckN s c a b d n : Nat)) ∧ Below w.heap.size w w' := by
  have r1 := h.reg b hb
  have r2 := h.reg d hd
  have r0 := h.reg a ha
  have hlt := h.lt
  have y64 := hs.r b hb
  have z64 := hs.r d hd
  have x64 := hs.r a ha
  have g1 : (b : Int) < 16 := by omega
  have g2 : (d : Int) < 16 := by omega
  have g0 : (a : Int) < 16 := by omega
  have hne : ¬ B = w.heap.size := by omega
  have HB := Lib.hid (below_new w (.cells #[.int .u8 c, .int .u8 a, .int .u8 b, .int .u8 d, .int .i16 n] 74))
  have HN := Lib.hid (cnumber_in c a b d n)
  have HV : Hid ((((n % 18446744073709551616).toNat : Nat) : Int) = ((reckN s c a b d n : Nat) : Int)) := Lib.hid (by subst hc; show _ = ((kN n : Nat) : Int); rfl)
  unfold opV at *
  clear h hs y64 z64 x64
  obtain ⟨v, hv⟩ : ∃ v, reckN s c a b d n = v := ⟨_, rfl⟩
  rw [hv] at HV ⊢
  clear hv
  subst hc
  generalize s.r b = y at *
  generalize s.r d = z at *
  generalize (n % 18446744073709551616).toNat = k at *
  go_enter Tryd.func46, Tryd.ntmps46
  go_wp2_with fail
  go_quiet (fail)
  go_wp2_with fail
  refine (HN.out _).mono ?_
  rintro e w1 ⟨rfl, hb1⟩
  have HB1 := Lib.hid (below_up (below_draws HB.out _) hb1)
  go_wp2
  go_ret
  exact ⟨by rw [← HV.out]; rfl, HB1.out⟩
theorem reckon_11 {w : World} {B : Nat} {s : SV} (h : LS w B s) (hs : s.ok) (c a b d : Nat) (n : Int) (ha : a < 16) (hb : b < 16) (hd : d < 16) (hc : c = 11) :
    Calls Tryd.prog 46 #[.pointer (some ⟨B, 0, none⟩), opV c a b d n] w fun e w' => e = .returned (.int .u64 (reckN s c a b d n : Nat)) ∧ Below w.heap.size w w' := by
  have r1 := h.reg b hb
  have r2 := h.reg d hd
  have r0 := h.reg a ha
  have hlt := h.lt
  have y64 := hs.r b hb
  have z64 := hs.r d hd
  have x64 := hs.r a ha
  have g1 : (b : Int) < 16 := by omega
  have g2 : (d : Int) < 16 := by omega
  have g0 : (a : Int) < 16 := by omega
  have hne : ¬ B = w.heap.size := by omega
  have HB := Lib.hid (below_new w (.cells #[.int .u8 c, .int .u8 a, .int .u8 b, .int .u8 d, .int .i16 n] 74))
  have HN := Lib.hid (cnumber_in c a b d n)
  have HV : Hid (IntKind.u64.wrap ((s.r b : Int) + (((n % 18446744073709551616).toNat : Nat) : Int)) = ((reckN s c a b d n : Nat) : Int)) := Lib.hid (by subst hc; show _ = (((s.r b + kN n) % 18446744073709551616 : Nat) : Int); rw [IntKind.wrap_u64]; unfold kN; simp)
  unfold opV at *
  clear h hs y64 z64 x64
  obtain ⟨v, hv⟩ : ∃ v, reckN s c a b d n = v := ⟨_, rfl⟩
  rw [hv] at HV ⊢
  clear hv
  subst hc
  generalize s.r b = y at *
  generalize s.r d = z at *
  generalize (n % 18446744073709551616).toNat = k at *
  go_enter Tryd.func46, Tryd.ntmps46
  go_wp2_with fail
  go_quiet (fail)
  go_wp2_with fail
  refine (HN.out _).mono ?_
  rintro e w1 ⟨rfl, hb1⟩
  have HB1 := Lib.hid (below_up (below_draws HB.out _) hb1)
  go_wp2
  go_ret
  exact ⟨by rw [← HV.out]; rfl, HB1.out⟩
theorem reckon_2 {w : World} {B : Nat} {s : SV} (h : LS w B s) (hs : s.ok) (c a b d : Nat) (n : Int) (ha : a < 16) (hb : b < 16) (hd : d < 16) (hc : c = 2) :
    Calls Tryd.prog 46 #[.pointer (some ⟨B, 0, none⟩), opV c a b d n] w fun e w' => e = .returned (.int .u64 (reckN s c a b d n : Nat)) ∧ Below w.heap.size w w' := by
  subst hc
  have S1 := (Sn.self h).grow (below_new w (.cells #[.int .u8 (2 : Nat), .int .u8 a, .int .u8 b, .int .u8 d, .int .i16 n] 74))
  have O1 := lies_new w 2 a b d n 74
  have HB := Lib.hid (below_new w (.cells #[.int .u8 (2 : Nat), .int .u8 a, .int .u8 b, .int .u8 d, .int .i16 n] 74))
  have HN := Lib.hid (cnumber_in 2 a b d n)
  have HW := Lib.hid (fun U => with_yes (s.r a) 16 48 (kN n) U (hs.r a ha) (by omega) (by omega))
  have r0 := S1.ls.reg a ha
  have r1 := S1.ls.reg b hb
  have r2 := S1.ls.reg d hd
  have q0 := fun q t => ((S1.ls.drewN q).below (below_later _ t)).reg a ha
  obtain ⟨k0, k1, k2, k3, k4, kl, kf⟩ := O1
  have o0 := fun q t => ((lies_new w 2 a b d n 74).later (below_draws (Below.refl _ _) q)).later (below_later _ t)
  have p0 := fun q t => (o0 q t).k0
  have p1 := fun q t => (o0 q t).k1
  have p2 := fun q t => (o0 q t).k2
  have p3 := fun q t => (o0 q t).k3
  have p4 := fun q t => (o0 q t).k4
  have g1 : (b : Int) < 16 := by omega
  have g2 : (d : Int) < 16 := by omega
  have g0 : (a : Int) < 16 := by omega
  show Calls Tryd.prog 46 #[.pointer (some ⟨B, 0, none⟩), opV 2 a b d n] w fun e w' => e = .returned (.int .u64 (withN (s.r a) 16 48 (kN n) : Nat)) ∧ Below w.heap.size w w'
  unfold kN at *
  unfold opV at *
  clear h hs S1 o0
  generalize withN (s.r a) 16 48 (n % 18446744073709551616).toNat = v at *
  generalize (n % 18446744073709551616).toNat = k at *
  generalize s.r a = x at *
  generalize s.r b = y at *
  generalize s.r d = z at *
  go_enter Tryd.func46, Tryd.ntmps46
  go_wp2_with fail
  generalize w.alloc (.cells #[.int .u8 2, .int .u8 a, .int .u8 b, .int .u8 d, .int .i16 n] 74) = W at *
  go_quiet (fail)
  go_wp2_with fail
  refine wp_region_later (by kernel_rfl) (by kernel_rfl) ?_
  repeat (go_big_quiet_step (first | (go_at_call 43; exact later_left (HN.out _)) | (go_at_call 61; exact later_quiet ((HW.out _).mono (fun e w' h => ⟨h.1, 0, h.2.symm⟩)))))
  refine wpQuiet_nil ?_
  rintro _ ⟨t, rfl⟩
  go_wp2
  go_ret
  exact ⟨rfl, below_up HB.out (below_later _ t)⟩
theorem reckon_in {w : World} {B : Nat} {s : SV} (h : LS w B s) (hs : s.ok) (c a b d : Nat) (n : Int) (ha : a < 16) (hb : b < 16) (hd : d < 16) (hc : 1 ≤ c ∧ c ≤ 11) :
    Calls Tryd.prog 46 #[.pointer (some ⟨B, 0, none⟩), opV c a b d n] w fun e w' => e = .returned (.int .u64 (reckN s c a b d n : Nat)) ∧ Below w.heap.size w w' := by
  have e : c = 1 ∨ c = 2 ∨ c = 3 ∨ c = 4 ∨ c = 5 ∨ c = 6 ∨ c = 7 ∨ c = 8 ∨ c = 9 ∨ c = 10 ∨ c = 11 := by omega
  rcases e with e | e | e | e | e | e | e | e | e | e | e
  · exact reckon_1 h hs c a b d n ha hb hd e
  · exact reckon_2 h hs c a b d n ha hb hd e
  · exact reckon_3 h hs c a b d n ha hb hd e
  · exact reckon_4 h hs c a b d n ha hb hd e
  · exact reckon_5 h hs c a b d n ha hb hd e
  · exact reckon_6 h hs c a b d n ha hb hd e
  · exact reckon_7 h hs c a b d n ha hb hd e
  · exact reckon_8 h hs c a b d n ha hb hd e
  · exact reckon_9 h hs c a b d n ha hb hd e
  · exact reckon_10 h hs c a b d n ha hb hd e
  · exact reckon_11 h hs c a b d n ha hb hd e
end Go.Proofs.YtpbjfjedgcabhaaDoor
