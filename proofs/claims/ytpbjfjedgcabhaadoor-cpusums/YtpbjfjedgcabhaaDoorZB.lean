/-
  Addresses: cpu's right, bit, loaded, translate, find, read.
-/
import Derived.Test.YtpbjfjedgcabhaaDoorZA
import Derived.Test.YtpbjfjedgcabhaaDoorWC
namespace Go.Proofs.YtpbjfjedgcabhaaDoor
open Go.ChangeShapes Go.WideShapes Go.ChangeAt Go.RowKit
open WM
set_option maxRecDepth 100000
set_option linter.unusedVariables false

/-! ### plain -/
def ldw (m : MV) (p off n : Nat) : Option Nat := if m.he p = true then some (ofN (fun i => m.bt p (off + i)) n) else none
def tr (m : MV) (ba p : Nat) (wr : Bool) : Option Nat :=
  if 32 ≤ ba / 256 then none else
  match ldw m (ba / 256) (8 * p) 8 with
  | none => none
  | some v => if v % 2 = 0 ∨ (wr = true ∧ v / 2 % 2 = 0) then none else if 32 ≤ v / 256 then none else some (v / 256)
def fdP (m : MV) (ba addr n : Nat) (wr : Bool) : Option Nat :=
  if addr % n ≠ 0 then none else if 32 ≤ addr / 256 then none else if ba = 0 then some (addr / 256) else tr m ba (addr / 256) wr
def rd (m : MV) (ba addr n : Nat) : Option Nat :=
  match fdP m ba addr n false with
  | none => none
  | some p => ldw m p (addr % 256) n
def optW : Option Nat → Value
  | some v => .tuple #[.int .u64 v, .bool true]
  | none => .tuple #[.int .u64 0, .bool false]
def optP : Option Nat → Value
  | some v => .tuple #[.int .i64 v, .bool true]
  | none => .tuple #[.int .i64 0, .bool false]
theorem tr_lt {m : MV} {ba p q : Nat} {wr : Bool} (h : tr m ba p wr = some q) : q < 32 := by
  unfold tr at h
  split at h
  · cases h
  · split at h
    · cases h
    · split at h
      · cases h
      · split at h
        · cases h
        · injection h with h; omega
theorem fdP_lt {m : MV} {ba addr n p : Nat} {wr : Bool} (h : fdP m ba addr n wr = some p) : p < 32 := by
  unfold fdP at h
  split at h
  · cases h
  · split at h
    · cases h
    · split at h
      · injection h with h; omega
      · exact tr_lt h
theorem fdP_room {m : MV} {ba addr n p : Nat} {wr : Bool} (hn : n = 4 ∨ n = 8) (h : fdP m ba addr n wr = some p) : addr % 256 + n ≤ 256 := by
  have h0 : addr % n = 0 := by
    unfold fdP at h
    split at h
    · cases h
    · omega
  rcases hn with rfl | rfl <;> omega
theorem ldw_lt {m : MV} (h : ∀ i j, m.bt i j < 256) {p off n v : Nat} (hn : n ≤ 8) (e : ldw m p off n = some v) : v < 18446744073709551616 := by
  unfold ldw at e
  split at e
  · injection e with e
    subst e
    have h1 := ofN_lt (fun i => m.bt p (off + i)) (fun i => h _ _) n
    have h2 : 2 ^ (8 * n) ≤ 2 ^ 64 := Nat.pow_le_pow_right (by decide) (by omega)
    omega
  · cases e

/-! ### right, bit -/
theorem cright_yes (p : Nat) (hp : p < 32) (w : World) : Calls Tryd.prog 53 #[.int .u64 p] w fun e w' => e = .returned (.tuple #[.int .i64 p, .bool true]) ∧ w = w' := by
  have g : (p : Int) < 32 := by omega
  go_enter Tryd.func53, Tryd.ntmps53
  go_wp2
  go_ret2
  exact ⟨rfl, rfl⟩
theorem cright_no (p : Nat) (hp : 32 ≤ p) (w : World) : Calls Tryd.prog 53 #[.int .u64 p] w fun e w' => e = .returned (.tuple #[.int .i64 0, .bool false]) ∧ w = w' := by
  have g : 32 ≤ (p : Int) := by omega
  go_enter Tryd.func53, Tryd.ntmps53
  go_wp2
  go_ret2
  exact ⟨rfl, rfl⟩
theorem cbit_in (v k : Nat) (hv : v < 18446744073709551616) (hk : k < 64) (w : World) :
    Calls Tryd.prog 68 #[.int .u64 v, .int .i64 k] w fun e w' => e = .returned (.bool (decide (v / 2 ^ k % 2 = 1))) ∧ ∃ q, w' = w.drewN q := by
  have HF := Lib.hid (fun U => field_yes v k 1 U hv (by omega) (by omega))
  have e : fieldN v k 1 = v / 2 ^ k % 2 := by rw [← fieldN_and v k 1 hv, Nat.min_eq_left (by omega), Nat.and_two_pow_sub_one_eq_mod]
  rw [e] at HF
  generalize v / 2 ^ k % 2 = r at *
  have HR := Lib.hid (show ((r : Int) == 1) = decide (r = 1) by rw [Bool.eq_iff_iff]; simp; omega)
  clear e hv
  go_enter Tryd.func68, Tryd.ntmps68
  go_wp2_with fail
  refine (HF.out _).mono ?_
  rintro e w1 ⟨rfl, n, rfl⟩
  go_wp2
  go_ret
  exact ⟨by rw [HR.out]; rfl, n, rfl⟩

/-! ### loaded -/
theorem nilA_load (L : Ly) (w : World) : (nilAhead 249 54 (memR L) "Load").run Tryd.prog w = .ok (some false) w := by unfold memR; kernel_rfl
theorem method_load (L : Ly) (w : World) : (method 249 54 (memR L) "Load").run Tryd.prog w = .ok (93, memR L) w := by unfold memR; kernel_rfl
theorem loaded_no {w : World} {L : Ly} {m : MV} (h : Mm w L m) (ba p : Nat) (hp : p < 32) (hh : m.he p = false) (off n : Nat) (ho : off + n ≤ 256) :
    Calls Tryd.prog 33 #[memV L ba, .int .i64 p, .int .i64 off, .int .i64 n] w fun e w' => e = .returned (.tuple #[.int .u64 0, .bool false]) ∧ Below w.heap.size w w' := by
  have HR := Lib.hid (fun U (hU : Mm U L m) => memload_no hU p hp hh off n ho)
  have HM := Lib.hid (h.below (below_new w (.cells #[busV L, .int .u64 ba] 70)))
  have HB := Lib.hid (below_new w (.cells #[busV L, .int .u64 ba] 70))
  have hna := nilA_load L
  have hmt := method_load L
  clear h hh ho hp
  unfold memV
  unfold busV at *
  generalize memR L = r at *
  have hmf : ∀ (fn : Fn) (first cap : Array Value) (w : World), (Instr.makeFunc fn first cap).run Tryd.prog w = .ok (.func fn first cap) w := fun _ _ _ _ => rfl
  go_enter_defers Tryd.func33, Tryd.ntmps33
  go_wp2_with fail
  refine (HR.out _ HM.out).mono ?_
  rintro e w1 ⟨rfl, b1⟩
  have HB1 := Lib.hid (below_up HB.out b1)
  go_wp2
  refine leaves_cons (f := 55) (args := #[]) (by simp) (by simp [go_sem]) ?_
  refine (idleL _).mono ?_
  rintro e u' w'' ⟨rfl, rfl, rfl⟩
  simp [Leaves, settle, results, Tryd.results33, go_sem]
  exact HB1.out
theorem loaded_yes {w : World} {L : Ly} {m : MV} (h : Mm w L m) (ba p : Nat) (hp : p < 32) (hh : m.he p = true) (off n : Nat) (ho : off + n ≤ 256) (hn : 0 < n) (h8 : n ≤ 8) :
    Calls Tryd.prog 33 #[memV L ba, .int .i64 p, .int .i64 off, .int .i64 n] w fun e w' => e = .returned (.tuple #[.int .u64 (ofN (fun i => m.bt p (off + i)) n : Nat), .bool true]) ∧ Below w.heap.size w w' := by
  have HR := Lib.hid (fun U (hU : Mm U L m) => memload_yes hU p hp hh off n ho hn)
  have HM := Lib.hid (h.below (below_new w (.cells #[busV L, .int .u64 ba] 70)))
  have HB := Lib.hid (below_new w (.cells #[busV L, .int .u64 ba] 70))
  have hna := nilA_load L
  have hmt := method_load L
  have hlt : ∀ i, (fun i => m.bt p (off + i)) i < 256 := fun i => h.u8 _ _
  have HO := Lib.hid (fun U a c (hb : BytesAt U a n (fun i => m.bt p (off + i))) => of_in a n c _ U hb hlt (by omega))
  rw [Nat.min_eq_left h8] at HO
  have hne : ((n : Int) != n) = false := by simp
  clear h hh ho hp hlt hn h8
  generalize (fun i => m.bt p (off + i)) = f at *
  generalize ofN f n = v at *
  unfold memV
  unfold busV at *
  generalize memR L = r at *
  have hmf : ∀ (fn : Fn) (first cap : Array Value) (w : World), (Instr.makeFunc fn first cap).run Tryd.prog w = .ok (.func fn first cap) w := fun _ _ _ _ => rfl
  go_enter_defers Tryd.func33, Tryd.ntmps33
  go_wp2_with fail
  refine (HR.out _ HM.out).mono ?_
  rintro e w1 ⟨a, c, rfl, b1, hby⟩
  have HB1 := Lib.hid (below_up HB.out b1)
  have HBY := Lib.hid hby
  clear hby
  go_wp2_with fail
  refine (HO.out _ _ _ HBY.out).mono ?_
  rintro e w2 ⟨rfl, rfl⟩
  go_wp2
  refine leaves_cons (f := 55) (args := #[]) (by simp) (by simp [go_sem]) ?_
  refine (idleL _).mono ?_
  rintro e u' w'' ⟨rfl, rfl, rfl⟩
  simp [Leaves, settle, results, Tryd.results33, go_sem]
  exact HB1.out
theorem loaded_in {w : World} {L : Ly} {m : MV} (h : Mm w L m) (ba p : Nat) (hp : p < 32) (off n : Nat) (ho : off + n ≤ 256) (hn : 0 < n) (h8 : n ≤ 8) :
    Calls Tryd.prog 33 #[memV L ba, .int .i64 p, .int .i64 off, .int .i64 n] w fun e w' => e = .returned (optW (ldw m p off n)) ∧ Below w.heap.size w w' := by
  unfold ldw
  cases hh : m.he p
  · exact loaded_no h ba p hp hh off n ho
  · exact loaded_yes h ba p hp hh off n ho hn h8

/-! ### translate -/
theorem trans_far {w : World} {L : Ly} (m : MV) (ba p : Nat) (wr : Bool) (hba : ba < 18446744073709551616) (hb : 32 ≤ ba / 256) :
    Calls Tryd.prog 54 #[memV L ba, .int .i64 p, .bool wr] w fun e w' => e = .returned (optP none) ∧ Below w.heap.size w w' := by
  have HC := Lib.hid (cright_no (ba / 256) hb)
  have HB := Lib.hid (below_new w (.cells #[busV L, .int .u64 ba] 70))
  have HD := Lib.hid (show IntKind.u64.wrap ((ba : Int) / 256) = ((ba / 256 : Nat) : Int) by rw [IntKind.wrap_u64]; omega)
  clear hba
  unfold memV optP
  generalize busV L = b at *
  generalize ba / 256 = q at *
  go_enter Tryd.func54, Tryd.ntmps54
  go_wp2_with fail
  rw [HD.out]
  refine (HC.out _).mono ?_
  rintro e w1 ⟨rfl, rfl⟩
  go_wp2
  go_ret2
  exact ⟨rfl, HB.out⟩
theorem trans_none {w : World} {L : Ly} {m : MV} (h : Mm w L m) (ba p : Nat) (wr : Bool) (hba : ba < 18446744073709551616) (hp : p < 32) (hb : ba / 256 < 32) (hl : ldw m (ba / 256) (8 * p) 8 = none) :
    Calls Tryd.prog 54 #[memV L ba, .int .i64 p, .bool wr] w fun e w' => e = .returned (optP none) ∧ Below w.heap.size w w' := by
  have HC := Lib.hid (cright_yes (ba / 256) hb)
  have HM := Lib.hid (h.below (below_new w (.cells #[busV L, .int .u64 ba] 70)))
  have HL := Lib.hid (loaded_in HM.out ba (ba / 256) hb (8 * p) 8 (by omega) (by omega) (by omega))
  rw [hl] at HL
  have HB := Lib.hid (below_new w (.cells #[busV L, .int .u64 ba] 70))
  have HD := Lib.hid (show IntKind.u64.wrap ((ba : Int) / 256) = ((ba / 256 : Nat) : Int) by rw [IntKind.wrap_u64]; omega)
  have HP := Lib.hid (show (8 * (p : Int)) = ((8 * p : Nat) : Int) by omega)
  clear hba
  unfold memV optP
  unfold memV optW at HL
  clear hl h HM
  generalize busV L = b at *
  generalize ba / 256 = q at *
  go_enter Tryd.func54, Tryd.ntmps54
  go_wp2_with fail
  rw [HD.out]
  refine (HC.out _).mono ?_
  rintro e w1 ⟨rfl, rfl⟩
  go_wp2_with fail
  rw [HP.out]
  refine (HL.out).mono ?_
  rintro e w1 ⟨rfl, b1⟩
  have HB1 := Lib.hid (below_up HB.out b1)
  go_wp2
  go_ret2
  exact ⟨rfl, HB1.out⟩
/-- What translate does once it has its word. -/
def okT (v : Nat) (wr : Bool) : Bool := decide (v % 2 = 1) && (!wr || decide (v / 2 % 2 = 1))
def trV (v : Nat) (wr : Bool) : Option Nat := if okT v wr then (if 32 ≤ v / 256 then none else some (v / 256)) else none
theorem tr_some {m : MV} {ba p v : Nat} (wr : Bool) (hb : ba / 256 < 32) (hl : ldw m (ba / 256) (8 * p) 8 = some v) : tr m ba p wr = trV v wr := by
  unfold tr trV okT
  rw [if_neg (by omega), hl]
  simp only
  have e1 : v % 2 = 0 ∨ v % 2 = 1 := by omega
  have e2 : v / 2 % 2 = 0 ∨ v / 2 % 2 = 1 := by omega
  rcases e1 with e1 | e1 <;> rcases e2 with e2 | e2 <;> cases wr <;> simp [e1, e2]
theorem cright_in (p : Nat) (w : World) : Calls Tryd.prog 53 #[.int .u64 p] w fun e w' => e = .returned (optP (if 32 ≤ p then none else some p)) ∧ w = w' := by
  by_cases h : 32 ≤ p
  · rw [if_pos h]; exact cright_no p h w
  · rw [if_neg h]; exact cright_yes p (by omega) w
set_option maxHeartbeats 1000000 in
theorem trans_some {w : World} {L : Ly} {m : MV} (h : Mm w L m) (ba p : Nat) (wr : Bool) (hba : ba < 18446744073709551616) (hp : p < 32) (hb : ba / 256 < 32) (v : Nat) (hv : v < 18446744073709551616) (hl : ldw m (ba / 256) (8 * p) 8 = some v) :
    Calls Tryd.prog 54 #[memV L ba, .int .i64 p, .bool wr] w fun e w' => e = .returned (optP (trV v wr)) ∧ Below w.heap.size w w' := by
  have HC := Lib.hid (cright_yes (ba / 256) hb)
  have HM := Lib.hid (h.below (below_new w (.cells #[busV L, .int .u64 ba] 70)))
  have HL := Lib.hid (loaded_in HM.out ba (ba / 256) hb (8 * p) 8 (by omega) (by omega) (by omega))
  rw [hl] at HL
  have HB := Lib.hid (below_new w (.cells #[busV L, .int .u64 ba] 70))
  have HD := Lib.hid (show IntKind.u64.wrap ((ba : Int) / 256) = ((ba / 256 : Nat) : Int) by rw [IntKind.wrap_u64]; omega)
  have HP := Lib.hid (show (8 * (p : Int)) = ((8 * p : Nat) : Int) by omega)
  have HT0 := Lib.hid (fun U => cbit_in v 0 hv (by omega) U)
  have HT1 := Lib.hid (fun U => cbit_in v 1 hv (by omega) U)
  have HCR := Lib.hid (cright_in (v / 256))
  have HV := Lib.hid (show (v : Int) / 256 = ((v / 256 : Nat) : Int) by omega)
  unfold trV okT
  simp only [Nat.pow_zero, Nat.div_one, Nat.pow_one] at HT0 HT1
  clear hba hl h HM hv hb
  unfold memV
  unfold memV optW at HL
  generalize decide (v % 2 = 1) = b0 at *
  generalize decide (v / 2 % 2 = 1) = b1 at *
  generalize (if 32 ≤ v / 256 then none else some (v / 256)) = r at *
  generalize v / 256 = vq at *
  generalize busV L = b at *
  generalize ba / 256 = q at *
  go_enter Tryd.func54, Tryd.ntmps54
  go_wp2_with fail
  rw [HD.out]
  refine (HC.out _).mono ?_
  rintro e w1 ⟨rfl, rfl⟩
  go_wp2_with fail
  rw [HP.out]
  refine (HL.out).mono ?_
  rintro e w1 ⟨rfl, hb1⟩
  have HB1 := Lib.hid (below_up HB.out hb1)
  clear HL HB hb1 HP HD HC
  cases b0
  · go_wp2_with fail
    refine (HT0.out _).mono ?_
    rintro e w2 ⟨rfl, q0, rfl⟩
    go_wp2
    go_ret2
    exact ⟨rfl, below_draws HB1.out q0⟩
  · cases wr
    · go_wp2_with fail
      refine (HT0.out _).mono ?_
      rintro e w2 ⟨rfl, q0, rfl⟩
      go_wp2_with fail
      rw [HV.out]
      refine (HCR.out _).mono ?_
      rintro e w2 ⟨rfl, rfl⟩
      cases r
      · unfold optP
        go_wp2
        go_ret2
        exact ⟨rfl, below_draws HB1.out q0⟩
      · unfold optP
        go_wp2
        go_ret2
        exact ⟨rfl, below_draws HB1.out q0⟩
    · cases b1
      · go_wp2_with fail
        refine (HT0.out _).mono ?_
        rintro e w2 ⟨rfl, q0, rfl⟩
        go_wp2_with fail
        refine (HT1.out _).mono ?_
        rintro e w2 ⟨rfl, q1, rfl⟩
        go_wp2
        go_ret2
        exact ⟨rfl, below_draws HB1.out (q0 + q1)⟩
      · go_wp2_with fail
        refine (HT0.out _).mono ?_
        rintro e w2 ⟨rfl, q0, rfl⟩
        go_wp2_with fail
        refine (HT1.out _).mono ?_
        rintro e w2 ⟨rfl, q1, rfl⟩
        go_wp2_with fail
        rw [HV.out]
        refine (HCR.out _).mono ?_
        rintro e w2 ⟨rfl, rfl⟩
        cases r
        · unfold optP
          go_wp2
          go_ret2
          exact ⟨rfl, below_draws HB1.out (q0 + q1)⟩
        · unfold optP
          go_wp2
          go_ret2
          exact ⟨rfl, below_draws HB1.out (q0 + q1)⟩
theorem translate_in {w : World} {L : Ly} {m : MV} (h : Mm w L m) (ba p : Nat) (wr : Bool) (hba : ba < 18446744073709551616) (hp : p < 32) :
    Calls Tryd.prog 54 #[memV L ba, .int .i64 p, .bool wr] w fun e w' => e = .returned (optP (tr m ba p wr)) ∧ Below w.heap.size w w' := by
  by_cases hb : ba / 256 < 32
  · cases hl : ldw m (ba / 256) (8 * p) 8 with
    | none =>
      have e : tr m ba p wr = none := by unfold tr; rw [if_neg (by omega), hl]
      rw [e]
      exact trans_none h ba p wr hba hp hb hl
    | some v =>
      rw [tr_some wr hb hl]
      exact trans_some h ba p wr hba hp hb v (ldw_lt h.u8 (by omega) hl) hl
  · have e : tr m ba p wr = none := by unfold tr; rw [if_pos (by omega)]
    rw [e]
    exact trans_far m ba p wr hba (by omega)

/-! ### find -/
def fdO (addr n : Nat) : Nat := if addr % n ≠ 0 then 0 else addr % 256
def findV (m : MV) (ba addr n : Nat) (wr : Bool) : Value := .tuple #[.int .i64 ((fdP m ba addr n wr).getD 0 : Nat), .int .i64 (fdO addr n : Nat), .bool (fdP m ba addr n wr).isSome]
theorem find_odd {w : World} {L : Ly} (m : MV) (ba addr n : Nat) (wr : Bool) (hn : n = 4 ∨ n = 8) (ha : addr < 18446744073709551616) (ho : addr % n ≠ 0) :
    Calls Tryd.prog 32 #[memV L ba, .int .u64 addr, .int .i64 n, .bool wr] w fun e w' => e = .returned (findV m ba addr n wr) ∧ Below w.heap.size w w' := by
  have e : findV m ba addr n wr = .tuple #[.int .i64 0, .int .i64 0, .bool false] := by
    unfold findV fdO fdP
    rw [if_pos ho, if_pos ho]; rfl
  rw [e]
  have HB := Lib.hid (below_new w (.cells #[busV L, .int .u64 ba] 70))
  unfold memV
  generalize busV L = b at *
  clear e
  rcases hn with rfl | rfl
  · have z : ((addr : Int) % 4 != 0) = true := by simp; omega
    have z0 : ¬ (addr : Int) % 4 = 0 := by omega
    clear ho
    go_enter Tryd.func32, Tryd.ntmps32
    go_wp2
    refine bodyPost_ret (v := .tuple #[.int .i64 0, .int .i64 0, .bool false]) (by simp [results, Tryd.results32, go_sem]) rfl ⟨rfl, HB.out⟩
  · have z : ((addr : Int) % 8 != 0) = true := by simp; omega
    have z0 : ¬ (addr : Int) % 8 = 0 := by omega
    clear ho
    go_enter Tryd.func32, Tryd.ntmps32
    go_wp2
    refine bodyPost_ret (v := .tuple #[.int .i64 0, .int .i64 0, .bool false]) (by simp [results, Tryd.results32, go_sem]) rfl ⟨rfl, HB.out⟩
set_option maxHeartbeats 1000000 in
theorem find_even {w : World} {L : Ly} {m : MV} (h : Mm w L m) (ba addr n : Nat) (wr : Bool) (hn : n = 4 ∨ n = 8) (hba : ba < 18446744073709551616) (ha : addr < 18446744073709551616) (ho : addr % n = 0) :
    Calls Tryd.prog 32 #[memV L ba, .int .u64 addr, .int .i64 n, .bool wr] w fun e w' => e = .returned (findV m ba addr n wr) ∧ Below w.heap.size w w' := by
  have e : findV m ba addr n wr = .tuple #[.int .i64 ((if 32 ≤ addr / 256 then none else if ba = 0 then some (addr / 256) else tr m ba (addr / 256) wr : Option Nat).getD 0 : Nat), .int .i64 (addr % 256 : Nat), .bool (if 32 ≤ addr / 256 then none else if ba = 0 then some (addr / 256) else tr m ba (addr / 256) wr : Option Nat).isSome] := by
    unfold findV fdO fdP
    rw [if_neg (show ¬ addr % n ≠ 0 by omega), if_neg (show ¬ addr % n ≠ 0 by omega)]
  rw [e]
  have HB := Lib.hid (below_new w (.cells #[busV L, .int .u64 ba] 70))
  have HM := Lib.hid (h.below (below_new w (.cells #[busV L, .int .u64 ba] 70)))
  have HC := Lib.hid (cright_in (addr / 256))
  have HD := Lib.hid (show ((addr : Int) / 256) = ((addr / 256 : Nat) : Int) by omega)
  have HO := Lib.hid (show ((addr : Int) % 256) = ((addr % 256 : Nat) : Int) by omega)
  have HT := Lib.hid (fun hp => translate_in HM.out ba (addr / 256) wr hba hp)
  clear e h HM
  have hol : addr % 256 < 256 := Nat.mod_lt _ (by omega)
  obtain ⟨q, hq⟩ : ∃ q, addr / 256 = q := ⟨_, rfl⟩
  obtain ⟨o, hoo⟩ : ∃ o, addr % 256 = o := ⟨_, rfl⟩
  rw [hq] at HC HD HT ⊢
  rw [hoo] at HO hol ⊢
  clear hq hoo
  have z : ((addr : Int) % n != 0) = false := by rcases hn with rfl | rfl <;> simp <;> omega
  have z0 : (addr : Int) % n = 0 := by rcases hn with rfl | rfl <;> omega
  clear ho
  by_cases h32 : 32 ≤ q
  · rw [if_pos h32] at HC ⊢
    unfold optP at HC
    unfold memV
    generalize busV L = b at *
    clear HT
    rcases hn with rfl | rfl
    all_goals
      go_enter Tryd.func32, Tryd.ntmps32
      go_wp2_with fail
      rw [HD.out]
      refine (HC.out _).mono ?_
      rintro e w1 ⟨rfl, rfl⟩
      go_wp2
      rw [HO.out]
      refine bodyPost_ret (v := .tuple #[.int .i64 0, .int .i64 o, .bool false]) (by simp [results, Tryd.results32, go_sem]) rfl ⟨rfl, HB.out⟩
  · rw [if_neg h32] at HC ⊢
    unfold optP at HC
    by_cases h0 : ba = 0
    · rw [if_pos h0]
      subst h0
      unfold memV
      generalize busV L = b at *
      clear HT
      rcases hn with rfl | rfl
      all_goals
        go_enter Tryd.func32, Tryd.ntmps32
        go_wp2_with fail
        rw [HD.out]
        refine (HC.out _).mono ?_
        rintro e w1 ⟨rfl, rfl⟩
        go_wp2
        rw [HO.out]
        refine bodyPost_ret (v := .tuple #[.int .i64 q, .int .i64 o, .bool true]) (by simp [results, Tryd.results32, go_sem]) rfl ⟨rfl, HB.out⟩
    · rw [if_neg h0]
      have HT' := Lib.hid (HT.out (by omega))
      have zb : ((ba : Int) != 0) = true := by simp; omega
      clear HT h0
      generalize tr m ba q wr = t at *
      unfold memV at *
      generalize busV L = b at *
      rcases hn with rfl | rfl
      all_goals
        go_enter Tryd.func32, Tryd.ntmps32
        go_wp2_with fail
        rw [HD.out]
        refine (HC.out _).mono ?_
        rintro e w1 ⟨rfl, rfl⟩
        go_wp2_with fail
        refine (HT'.out).mono ?_
        rintro e w1 ⟨rfl, hb1⟩
        have HB1 := Lib.hid (below_up HB.out hb1)
        cases t
        all_goals
          unfold optP
          go_wp2
          rw [HO.out]
          refine bodyPost_ret (v := .tuple #[.int .i64 _, .int .i64 o, .bool _]) (by simp [results, Tryd.results32, go_sem]) rfl ⟨rfl, HB1.out⟩
theorem find_in {w : World} {L : Ly} {m : MV} (h : Mm w L m) (ba addr n : Nat) (wr : Bool) (hn : n = 4 ∨ n = 8) (hba : ba < 18446744073709551616) (ha : addr < 18446744073709551616) :
    Calls Tryd.prog 32 #[memV L ba, .int .u64 addr, .int .i64 n, .bool wr] w fun e w' => e = .returned (findV m ba addr n wr) ∧ Below w.heap.size w w' := by
  by_cases ho : addr % n = 0
  · exact find_even h ba addr n wr hn hba ha ho
  · exact find_odd m ba addr n wr hn ha ho

/-! ### read -/
theorem box2 {w w1 : World} {a b : Value} {t : TypeId} (hb : Below (w.alloc (.cells #[a, b] t)).heap.size (w.alloc (.cells #[a, b] t)) w1) :
    w1.cell? ⟨w.heap.size, 0, none⟩ = some a ∧ w1.cell? ⟨w.heap.size, 1, none⟩ = some b :=
  ⟨(hb.cell (p := ⟨w.heap.size, 0, none⟩) (by simp)).trans (by simp), (hb.cell (p := ⟨w.heap.size, 1, none⟩) (by simp)).trans (by simp)⟩
theorem read_in {w : World} {L : Ly} {m : MV} (h : Mm w L m) (ba addr n : Nat) (hn : n = 4 ∨ n = 8) (hba : ba < 18446744073709551616) (ha : addr < 18446744073709551616) :
    Calls Tryd.prog 22 #[memV L ba, .int .u64 addr, .int .i64 n] w fun e w' => e = .returned (optW (rd m ba addr n)) ∧ Below w.heap.size w w' := by
  have hb := below_new w (.cells #[busV L, .int .u64 ba] 70)
  have HM := Lib.hid (h.below hb)
  have HF := Lib.hid (find_in HM.out ba addr n false hn hba ha)
  have HB := Lib.hid hb
  unfold findV at HF
  unfold rd
  cases hf : fdP m ba addr n false with
  | none =>
    rw [hf] at HF
    simp only [Option.getD_none, Option.isSome_none] at HF
    unfold memV optW at *
    generalize busV L = b at *
    clear hb h HM hf
    go_enter Tryd.func22, Tryd.ntmps22
    go_wp2_with fail
    refine (HF.out).mono ?_
    rintro e w1 ⟨rfl, hb1⟩
    have HB1 := Lib.hid (below_up HB.out hb1)
    go_wp2
    go_ret2
    exact ⟨rfl, HB1.out⟩
  | some p =>
    rw [hf] at HF
    simp only [Option.getD_some, Option.isSome_some] at HF
    have hroom := fdP_room hn hf
    have HL := Lib.hid (fun U (hU : Mm U L m) => loaded_in hU ba p (fdP_lt hf) (addr % 256) n hroom (by omega) (by omega))
    have e0 : fdO addr n = addr % 256 := by
      unfold fdO
      unfold fdP at hf
      split at hf
      · cases hf
      · rename_i hz; rw [if_neg hz]
    rw [e0] at HF
    simp only
    generalize ldw m p (addr % 256) n = r at *
    generalize addr % 256 = o at *
    unfold memV at *
    generalize busV L = b at *
    clear hb h hf e0 hroom
    go_enter Tryd.func22, Tryd.ntmps22
    go_wp2_with fail
    refine (HF.out).mono ?_
    rintro e w1 ⟨rfl, hb1⟩
    have HB1 := Lib.hid (below_up HB.out hb1)
    have HM1 := Lib.hid ((HM.out).below hb1)
    obtain ⟨k0, k1⟩ := box2 hb1
    go_wp2_with fail
    refine (HL.out _ HM1.out).mono ?_
    rintro e w1 ⟨rfl, hb2⟩
    have HB2 := Lib.hid (below_up HB1.out hb2)
    cases r
    all_goals
      unfold optW
      go_wp2
      go_ret2
      exact ⟨rfl, HB2.out⟩
end Go.Proofs.YtpbjfjedgcabhaaDoor
