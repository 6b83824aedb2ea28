/-
  The walk of CpuTraps.
-/
import Derived.Test.YtpbjfjedgcabhaaDoorZO
namespace Go.Proofs.YtpbjfjedgcabhaaDoor
open Go.ChangeShapes Go.WideShapes Go.ChangeAt Go.RowKit
open WM CM
set_option maxRecDepth 100000
set_option linter.unusedVariables false

/-! ### plain -/
def retN : Nat := 1476395008
def trF (bad j : Nat) : Nat := if j < 4 then byteN bad j else if 16 ≤ j ∧ j < 20 then byteN retN (j - 16) else 0
theorem trF_lt (bad j : Nat) : trF bad j < 256 := by
  unfold trF; split
  · exact byteN_lt _ _
  · split
    · exact byteN_lt _ _
    · omega
/-- The bytes that stand there, of n whole instructions and t bytes of the next. -/
def stF (bad n t j : Nat) : Nat := if j / 16 < n ∨ (j / 16 = n ∧ j % 16 < t) then trF bad j else 0
theorem stF_end (bad j : Nat) (hj : j < 32) : stF bad 2 0 j = trF bad j := by
  unfold stF; rw [if_pos (by omega)]
theorem stF_row (bad n j : Nat) (hn : n < 2) (hj : j < 32) : stF bad n 4 j = stF bad (n + 1) 0 j := by
  unfold stF
  by_cases h : j / 16 < n ∨ (j / 16 = n ∧ j % 16 < 4)
  · rw [if_pos h, if_pos (by omega)]
  · rw [if_neg h]
    by_cases h2 : j / 16 < n + 1 ∨ (j / 16 = n + 1 ∧ j % 16 < 0)
    · rw [if_pos h2]
      unfold trF
      rw [if_neg (by omega), if_neg (by omega)]
    · rw [if_neg h2]
theorem stF_step (bad n t j : Nat) (ht : t < 4) : stF bad n (t + 1) j = if j = 16 * n + t then trF bad j else stF bad n t j := by
  unfold stF
  by_cases h : j = 16 * n + t
  · rw [if_pos h, if_pos (by omega)]
  · rw [if_neg h]
    have e : (j / 16 < n ∨ (j / 16 = n ∧ j % 16 < t + 1)) ↔ (j / 16 < n ∨ (j / 16 = n ∧ j % 16 < t)) := by omega
    simp only [e]
theorem stF_zero (bad j : Nat) : stF bad 0 0 j = 0 := by
  unfold stF; rw [if_neg (by omega)]
def trM (bad : Nat) : MV := svM 1 0 32 0 (trF bad) (fun _ => 0) 32
theorem trM_he (bad i : Nat) : (trM bad).he i = decide (i = 0) := by
  show (decide (i < 32) && bitB 1 i) = decide (i = 0)
  unfold bitB
  by_cases h : i = 0
  · subst h; decide
  · have : 1 / 2 ^ i = 0 := Nat.div_eq_of_lt (Nat.one_lt_two_pow h)
    rw [this]; simp [h]
theorem ofN4 (f : Nat → Nat) (x : Nat) (hx : x < 4294967296) (h : ∀ i, i < 4 → f i = byteN x i) : ofN f 4 = x := by
  simp only [ofN]
  rw [h 0 (by omega), h 1 (by omega), h 2 (by omega), h 3 (by omega)]
  unfold byteN
  simp
  omega
theorem tr_rd0 (bad : Nat) (hb : bad < 4294967296) : rd (trM bad) 0 0 4 = some bad := by
  have hf : fdP (trM bad) 0 0 4 false = some 0 := by
    unfold fdP
    rw [if_neg (by decide), if_neg (by decide), if_pos rfl]
  unfold rd
  rw [hf]
  show ldw (trM bad) 0 (0 % 256) 4 = some bad
  unfold ldw
  rw [trM_he, if_pos (by decide)]
  refine congrArg some ?_
  apply ofN4 _ _ hb
  intro i hi
  show (if 0 % 2 = 0 then padF (trF bad) 32 (0 % 256 + i) else padF (fun _ => 0) 0 (0 % 256 + i)) = byteN bad i
  rw [if_pos rfl]
  unfold padF
  rw [if_pos (by omega), show 0 % 256 + i = i by omega]
  unfold trF
  rw [if_pos hi]
theorem tr_rd16 (bad : Nat) : rd (trM bad) 0 16 4 = some retN := by
  have hf : fdP (trM bad) 0 16 4 false = some 0 := by
    unfold fdP
    rw [if_neg (by decide), if_neg (by decide), if_pos rfl]
  unfold rd
  rw [hf]
  show ldw (trM bad) 0 (16 % 256) 4 = some retN
  unfold ldw
  rw [trM_he, if_pos (by decide)]
  refine congrArg some ?_
  apply ofN4 _ _ (by decide)
  intro i hi
  show (if 0 % 2 = 0 then padF (trF bad) 32 (16 % 256 + i) else padF (fun _ => 0) 0 (16 % 256 + i)) = byteN retN i
  rw [if_pos rfl]
  unfold padF
  rw [if_pos (by omega), show 16 % 256 + i = 16 + i by omega]
  unfold trF
  rw [if_neg (by omega), if_pos (by omega), show 16 + i - 16 = i by omega]
theorem tr_far (bad a : Nat) (ha : 256 ≤ a) : rd (trM bad) 0 a 8 = none := by
  unfold rd
  cases hf : fdP (trM bad) 0 a 8 false with
  | none => rfl
  | some p =>
    have hp : p = a / 256 := by
      unfold fdP at hf
      split at hf
      · cases hf
      · split at hf
        · cases hf
        · rw [if_pos rfl] at hf
          injection hf with hf
          exact hf.symm
    show ldw (trM bad) p (a % 256) 8 = none
    unfold ldw
    rw [trM_he, if_neg]
    simp
    omega
/-- The seat of the law. -/
def tT (A : Nat) : SV := setR { SV.zero with ve := 16 } 2 A
/-- Behind the trap. -/
def tU (A c d : Nat) : SV := { tT A with ep := 0, pc := 16, ca := c, ad := d, op := false }
theorem tT_trap (A c d : Nat) : trapV (tT A) c d = tU A c d := by
  unfold trapV
  rw [if_neg (by show (16 : Nat) ≠ 0; decide)]
  rfl
theorem tT_ext (A c d : Nat) : exT (tT A) c d = 1 := by
  unfold exT
  rw [tT_trap]
  rfl
theorem tT_ok (A : Nat) (hA : A < 18446744073709551616) : (tT A).ok := by
  refine ⟨fun i hi => ?_, by simp [tT, setR, SV.zero], by simp [tT, setR, SV.zero], by simp [tT, setR], by simp [tT, setR, SV.zero], by simp [tT, setR, SV.zero], by simp [tT, setR, SV.zero], by simp [tT, setR, SV.zero], by simp [tT, setR, SV.zero], by simp [tT, setR, SV.zero]⟩
  show (if i = 2 then A else 0) < _
  split
  · exact hA
  · decide
theorem tU_ok (A c d : Nat) (hA : A < 18446744073709551616) (hc : c < 18446744073709551616) (hd : d < 18446744073709551616) : (tU A c d).ok := by
  refine ⟨(tT_ok A hA).r, by simp [tU], by simp [tU, tT, setR, SV.zero], by simp [tU, tT, setR], by simp [tU], hc, hd, by simp [tU, tT, setR, SV.zero], by simp [tU, tT, setR, SV.zero], by simp [tU, tT, setR, SV.zero]⟩
theorem tr_no (A bad : Nat) (hb : bad < 4294967296) (hw : isW bad = false) : stV (tT A) (trM bad) 0 0 = (tU A 1 bad, trM bad, 1, 1) := by
  unfold stV
  rw [if_neg (by show ¬ (0 : Nat) ≠ 0; decide), if_neg (by rintro ⟨h, _⟩; cases h)]
  have h : rd (trM bad) (tT A).ba (tT A).pc 4 = some bad := tr_rd0 bad hb
  rw [h]
  simp only [hw, Bool.false_eq_true, if_false, tT_trap, tT_ext]
theorem tr_ld (A : Nat) (hA : 256 ≤ A) (hA2 : A < 18446744073709551616) : stV (tT A) (trM 810024960) 0 0 = (tU A 3 A, trM 810024960, 1, 3) := by
  unfold stV
  rw [if_neg (by show ¬ (0 : Nat) ≠ 0; decide), if_neg (by rintro ⟨h, _⟩; cases h)]
  have h : rd (trM 810024960) (tT A).ba (tT A).pc 4 = some 810024960 := tr_rd0 _ (by decide)
  rw [h]
  have hw : isW 810024960 = true := by decide
  simp only [hw, if_true]
  rw [show pC 810024960 = 12 by decide, show pA 810024960 = 1 by decide, show pB 810024960 = 2 by decide, show pD 810024960 = 0 by decide, show pN 810024960 = 0 by decide]
  unfold doV
  rw [if_pos rfl]
  have ha : adN (tT A) 2 0 = A := by
    unfold adN kN
    show (A + (0 % 18446744073709551616 : Int).toNat) % 18446744073709551616 = A
    simp
    omega
  rw [ha]
  have h2 : rd (trM 810024960) (tT A).ba A 8 = none := tr_far _ A hA
  rw [h2]
  simp only [tT_trap, tT_ext]
theorem tr_ret (A c d bad : Nat) : stV (tU A c d) (trM bad) 0 0 = (backV (tU A c d), trM bad, 0, 0) := by
  unfold stV
  rw [if_neg (by show ¬ (0 : Nat) ≠ 0; decide), if_neg (by rintro ⟨h, _⟩; cases h)]
  have h : rd (trM bad) (tU A c d).ba (tU A c d).pc 4 = some retN := tr_rd16 bad
  rw [h]
  have hw : isW retN = true := by decide
  simp only [hw, if_true]
  rw [show pC retN = 22 by decide]
  unfold doV
  rfl

/-! ### the bytes as they are laid -/
structure TrI (W : World) (g : Nat) (f : Nat → Nat) (w' : World) : Prop where
  gr : W.grownBy w' (some g)
  c : ∀ j, j < 32 → w'.cell? ⟨g, j, none⟩ = some (.int .u8 (f j : Nat))
  fz : ∀ j, w'.frozen? ⟨g, j, none⟩ = false
theorem TrI.set {W w' : World} {g bad n t : Nat} (h : TrI W g (stF bad n t) w') (ht : t < 4) (hn : n < 2) (v : Int) (hv : v = ((trF bad (16 * n + t) : Nat) : Int)) : TrI W g (stF bad n (t + 1)) (w'.setCell ⟨g, 16 * n + t, none⟩ (.int .u8 v)) := by
  subst hv
  refine ⟨grown_trans h.gr (grown_setCellS w' ⟨g, 16 * n + t, none⟩ _), fun j hj => ?_, fun j => by rw [World.frozen?_setCell]; exact h.fz j⟩
  rw [stF_step bad n t j ht]
  by_cases e : j = 16 * n + t
  · subst e
    rw [if_pos rfl, World.cell?_setCell_same' w' _ _ (by rw [h.c _ hj]; rfl)]
  · rw [if_neg e, World.cell?_setCell_other _ _ _ _ (by simp <;> omega)]
    exact h.c j hj
theorem wpList_bdV {ops : Array Oper} {rest : List Oper} {o : Oper} {a : Act} {w : World} {Q : Exit → Act → World → Prop} (hg : o.guard = none) (x : Operand) (ho : o.op = .build 26 #[(3, x)]) (hx : a.eval x = .int .u64 16)
    (h : wpList Tryd.prog ops Q rest (a.put o.dst (SV.agg { SV.zero with ve := 16 })) w) : wpList Tryd.prog ops Q (o :: rest) a w := by
  have hb : Tryd.prog.built 26 [(3, .int .u64 16)] = some (SV.cells { SV.zero with ve := 16 }) := by kernel_rfl
  have he : (#[(3, x)].map fun (i, x) => (i, a.eval x)).toList = [(3, .int .u64 16)] := by simp [hx]
  refine wpList_build hg 26 #[(3, x)] ho ?_ ?_
  · rw [he, hb]; rfl
  · rw [he, hb]; exact h
theorem run_neX1 (w : World) : (binOp .neq 50 (.agg #[.int .u8 1, .int .u64 1]) (.agg #[.int .u8 1, .int .u64 1])).run Tryd.prog w = .ok (.bool false) w := by kernel_rfl
theorem run_neX3 (w : World) : (binOp .neq 50 (.agg #[.int .u8 1, .int .u64 3]) (.agg #[.int .u8 1, .int .u64 3])).run Tryd.prog w = .ok (.bool false) w := by kernel_rfl
theorem or_join (x : Nat) (hx : x < 67108864) : bits .or .u32 1543503872 (x : Int) = ((1543503872 + x : Nat) : Int) := by
  have h := or32 1543503872 x (by decide) (by omega)
  have e : 1543503872 ||| x = 1543503872 + x := by
    have := Nat.two_pow_add_eq_or_of_lt (i := 26) (b := x) (by simpa using hx) 23
    simpa using this.symm
  rw [← e]
  exact h
set_option maxHeartbeats 4000000 in
theorem cpuTraps_walk (addr w0 bad : Nat) (code : Bool) (haddr : addr < 18446744073709551616) (hw0 : w0 < 4294967296) (hb32 : bad < 4294967296) (w : World) (hT : TabAt w)
    (hbad : (if code = true then bits .or .u32 1543503872 ((w0 : Int) % 67108864) else ((wordN 12 1 2 0 0 : Nat) : Int)) = (bad : Int))
    (h1 : stV (tT (256 + addr % 1099511627776)) (trM bad) 0 0 = (tU (256 + addr % 1099511627776) (if code = true then 1 else 3) (if code = true then bad else 256 + addr % 1099511627776), trM bad, 1, (if code = true then 1 else 3))) :
    Calls Tryd.prog 9 #[.int .u64 addr, .int .u32 w0, .bool code] w fun e w' => e = .returned (.bool true) ∧ Below w.heap.size w w' := by
  have HA := Lib.hid (fun U (h : TabAt U) => awake12_in U h)
  have HT := Lib.hid hT
  have HW1 := Lib.hid (fun U => refword_in 12 1 2 0 0 U (by decide) (by decide) (by decide) (by decide))
  have HW2 := Lib.hid (fun U => refword_in 22 0 0 0 0 U (by decide) (by decide) (by decide) (by decide))
  rw [show wordN 22 0 0 0 0 = 1476395008 by decide] at HW2
  have HZ := zeroS_run
  unfold SV.agg at HZ
  have hmk : ∀ U : World, (Instr.makeSlice 28 (.int .i64 32) (.int .i64 32)).run Tryd.prog U = .ok (.slice (some ⟨U.heap.size, 0, none⟩) 32 32) (U.alloc (.cells (rowV (fun _ => 0) 32).toArray 5)) := fun U => make_run U 32 (by decide)
  have HS := Lib.hid (fun U g (hU : BytesAt U (some ⟨g, 0, none⟩) 32 (trF bad)) => some_in 1 0 (some ⟨g, 0, none⟩) none 32 0 32 0 (trF bad) (fun _ => 0) (trF_lt bad) (fun _ => by omega) (by omega) (by omega) U hU (BytesAt.none_ _ _ _))
  have HH1 := Lib.hid h1
  have hx1 := run_neX1
  have hx3 := run_neX3
  clear hT h1
  cases code
  · have HB := Lib.hid (show ((wordN 12 1 2 0 0 : Nat) : Int) = (bad : Int) by simpa using hbad)
    clear hbad
    go_enter Tryd.func9, Tryd.ntmps9
    go_wp2_with fail
    refine (HA.out _ HT.out).mono ?_
    rintro e w1 ⟨rfl, b1⟩
    go_wp2_with fail
    refine (HW1.out _).mono ?_
    rintro e w2 ⟨rfl, b2⟩
    rw [HB.out]
    have B2 := Lib.hid (below_up b1 b2)
    clear b1 b2 HW1 HB
    go_wp2_with fail
    refine (HW2.out _).mono ?_
    rintro e w3 ⟨rfl, b3⟩
    have R3 := Lib.hid ((Row.new w2 (fun _ => 0) 32).below b3)
    have B3 := Lib.hid (below_up (below_up (B2.out) (below_new _ _)) b3)
    clear b3 HW2 hmk
    go_wp2_with (refine wpList_buildSlice rfl 56 24 2 _ rfl #[.int .u32 bad, .int .u32 1476395008] _ _ Tryd.underlying56 rfl rfl (by decide) (by decide) (by kernel_rfl) ?_)
    have HI0 : Hid (TrI (w3.alloc (.cells #[.int .u32 bad, .int .u32 1476395008] 24)) w2.heap.size (stF bad 0 0) (w3.alloc (.cells #[.int .u32 bad, .int .u32 1476395008] 24))) := Lib.hid (by
      have R4 := (R3.out).below (below_new w3 (.cells #[.int .u32 bad, .int .u32 1476395008] 24))
      exact ⟨grown_self _ _, fun j hj => by rw [R4.cell j hj, stF_zero], fun j => R4.frozen j⟩)
    have X4 := Lib.hid (x2_new w3 (.int .u32 bad) (.int .u32 1476395008) 24)
    have B4 := Lib.hid (below_more B3.out (.cells #[.int .u32 bad, .int .u32 1476395008] 24))
    have hgq : w2.heap.size ≠ w3.heap.size := by have := (R3.out).lt; omega
    have hgw : w.heap.size ≤ w2.heap.size := (B2.out).size
    have hgl := (R3.out).lt
    clear R3 B3 B2
    generalize w3.alloc (.cells #[.int .u32 bad, .int .u32 1476395008] 24) = W at *
    generalize w2.heap.size = g at *
    generalize w3.heap.size = q at *
    go_loopw [10, 11] (fun i k wr => ∃ n : Nat, n ≤ 2 ∧ i = .int .i64 n ∧ TrI W g (stF bad n 0) wr) (fun i _ _ => 2 - (intOf i).toNat)
    case atStart => exact ⟨0, by omega, rfl, HI0.out⟩
    case round =>
      obtain ⟨n, hn, rfl, hI⟩ := hrel
      have HI := Lib.hid hI
      clear hI
      by_cases hlt : n < 2
      · have hlt' : (n : Int) < 2 := by omega
        go_wp2_with fail
        go_loopw [11] (fun k wr => ∃ t : Nat, t ≤ 4 ∧ k = .int .i64 t ∧ TrI W g (stF bad n t) wr) (fun k _ => 4 - (intOf k).toNat)
        case atStart => exact ⟨0, by omega, rfl, HI.out⟩
        case round =>
          obtain ⟨t, ht, rfl, hJ⟩ := hrel
          by_cases hlt2 : t < 4
          · have x := (X4.out).kept hJ.gr (by intro e; injection e with e; exact hgq e.symm)
            have y0 := x.k0
            have y1 := x.k1
            have HJ := Lib.hid hJ
            clear x hJ HI hn ht
            have hnn : n = 0 ∨ n = 1 := by omega
            have htt : t = 0 ∨ t = 1 ∨ t = 2 ∨ t = 3 := by omega
            have m0 := (HJ.out).c 0 (by decide)
            have f0 := (HJ.out).fz 0
            have m1 := (HJ.out).c 1 (by decide)
            have f1 := (HJ.out).fz 1
            have m2 := (HJ.out).c 2 (by decide)
            have f2 := (HJ.out).fz 2
            have m3 := (HJ.out).c 3 (by decide)
            have f3 := (HJ.out).fz 3
            have m16 := (HJ.out).c 16 (by decide)
            have f16 := (HJ.out).fz 16
            have m17 := (HJ.out).c 17 (by decide)
            have f17 := (HJ.out).fz 17
            have m18 := (HJ.out).c 18 (by decide)
            have f18 := (HJ.out).fz 18
            have m19 := (HJ.out).c 19 (by decide)
            have f19 := (HJ.out).fz 19
            clear hlt hlt' hlt2
            rcases hnn with rfl | rfl <;> rcases htt with rfl | rfl | rfl | rfl
            all_goals
              go_wp2
              go_roundw
              case rel => exact ⟨_, by decide, by go_num, TrI.set HJ.out (by decide) (by decide) _ (by simp [trF, byteN, retN] <;> omega)⟩
              case measure => simp [intOf]
          · obtain rfl : t = 4 := by omega
            have HE : Hid (TrI W g (stF bad (n + 1) 0) _) := Lib.hid ⟨hJ.gr, fun j hj => by rw [hJ.c j hj, stF_row bad n j hlt hj], hJ.fz⟩
            clear hJ
            go_wp2
            go_roundw
            case rel => exact ⟨n + 1, by omega, by go_num, HE.out⟩
            case measure => simp [intOf]; omega
      · obtain rfl : n = 2 := by omega
        have hby : BytesAt wr (some ⟨g, 0, none⟩) 32 (trF bad) := fun i hi => ⟨g, 0, rfl, by rw [Nat.zero_add, ← stF_end bad i hi]; exact (HI.out).c i hi⟩
        have HBY := Lib.hid hby
        have B5 := Lib.hid ((B4.out).grown (HI.out).gr (B4.out).size (fun j hj => by injection hj with hj; rw [← hj]; exact hgw))
        clear hby HI B4 X4 HI0
        go_wp2_with fail
        refine (HS.out _ _ HBY.out).mono ?_
        rintro e w5 ⟨L1, L2, rfl, hI⟩
        have B6 := Lib.hid (below_up B5.out hI.bel)
        have HI := Lib.hid hI
        have hsz := (B5.out).size
        clear hI HBY
        have hbu : Below w5.heap.size w5 (((w5.alloc (.cells SV.zero.cells 26)).setRow w5.heap.size (SV.cells { SV.zero with ve := 16 })).setCell ⟨w5.heap.size, 2, none⟩ (.int .u64 ((256 + addr % 1099511627776 : Nat) : Int))) :=
          ((below_new w5 _).grown (grown_setRowS _ _ _) (by simp) (fun j hj => by injection hj with hj; omega)).grown (grown_setCellS _ ⟨w5.heap.size, 2, none⟩ _) (by simp) (fun j hj => by injection hj with hj; show w5.heap.size ≤ j; rw [← hj]; exact Nat.le_refl _)
        have hls0 : LS ((w5.alloc (.cells SV.zero.cells 26)).setRow w5.heap.size (SV.cells { SV.zero with ve := 16 })) w5.heap.size { SV.zero with ve := 16 } := (ls_new w5 SV.zero).put _
        have hls : LS (((w5.alloc (.cells SV.zero.cells 26)).setRow w5.heap.size (SV.cells { SV.zero with ve := 16 })).setCell ⟨w5.heap.size, 2, none⟩ (.int .u64 ((256 + addr % 1099511627776 : Nat) : Int))) w5.heap.size (tT (256 + addr % 1099511627776)) := hls0.set 2 _ (setR_cells _ 2 _ (by decide))
        have z1 := hls0.reg 2 (by decide)
        have z2 := hls0.fz 2
        have hA64 : 256 + addr % 1099511627776 < 18446744073709551616 := by omega
        have hA256 : 256 ≤ 256 + addr % 1099511627776 := by omega
        have hmm := (HI.out).m1.below hbu
        have hpg := pg_new (HI.out).m1 (i := w5.heap.size) (Nat.le_refl _)
        have hlm := (HI.out).m1.lt
        have hne : w5.heap.size ≠ L1.M := by omega
        have hst := step_in hls hmm (tT_ok _ hA64) (((HT.out).below B6.out).below hbu) hne hpg 0 0 (by decide)
        have hh : stV (tT (256 + addr % 1099511627776)) (svM 1 0 32 0 (trF bad) (fun x => 0) 32) 0 0 = _ := HH1.out
        rw [hh] at hst
        simp only [Bool.false_eq_true, if_false] at hst
        have HST := Lib.hid hst
        have HA2 := Lib.hid (show (256 : Int) + (addr : Int) % 1099511627776 = ((256 + addr % 1099511627776 : Nat) : Int) by omega)
        have BU := Lib.hid (below_up B6.out hbu)
        have hls2 := Lib.hid hls
        have hb1 : Hid (∀ i, pgS L1 (trM bad) i → w.heap.size ≤ i) := Lib.hid (by
          rintro i ⟨qq, hq, hh, rfl⟩
          have h1 := (HI.out).b1 qq hq hh
          omega)
        have hbs : Hid (w.heap.size ≤ w5.heap.size) := Lib.hid (B6.out).size
        clear hst hmm hls hh hls0 hbu
        generalize 256 + addr % 1099511627776 = A at *
        go_wp2_with (first
          | (refine wpList_bdV rfl (.const (.int .u64 16)) rfl rfl ?_; unfold SV.agg)
          | (refine wpList_stS rfl (.tmp 14) (.tmp 57) rfl w5.heap.size rfl SV.zero { SV.zero with ve := 16 } rfl (ls_new w5 _) ?_))
        rw [HA2.out]
        generalize ((w5.alloc (.cells SV.zero.cells 26)).setRow w5.heap.size (SV.cells { SV.zero with ve := 16 })).setCell ⟨w5.heap.size, 2, none⟩ (.int .u64 (A : Int)) = U at *
        refine (HST.out).mono ?_
        rintro e w6 ⟨rfl, hAf⟩
        have e1 : w6.cell? ⟨w5.heap.size, 16, none⟩ = some (.int .u64 16) := hAf.ls.pc'
        have e2 : w6.cell? ⟨w5.heap.size, 19, none⟩ = some (.int .u64 0) := hAf.ls.ep'
        have e3 : w6.cell? ⟨w5.heap.size, 20, none⟩ = some (.int .u64 3) := hAf.ls.ca'
        have e4 : w6.cell? ⟨w5.heap.size, 21, none⟩ = some (.int .u64 (A : Nat)) := hAf.ls.ad'
        have e5 : w6.cell? ⟨w5.heap.size, 2, none⟩ = some (.int .u64 (A : Nat)) := hAf.ls.reg 2 (by decide)
        have hl6 := hAf.ls.lt
        have hbe := below_new w6 (.cells #[.int .u8 1, .int .u64 3] 50)
        have hB6 := hAf.tr.to_below BU.out (BU.out).size (fun i hi => by rcases hi with rfl | hi; exact hbs.out; exact hb1.out i hi)
        have hB7 := below_up hB6 hbe
        have HS2 := Lib.hid (step_in (hAf.ls.below hbe) (hAf.mm.below hbe) (tU_ok A 3 A hA64 (by decide) (by omega)) ((HT.out).below hB7) hne hpg 0 0 (by decide))
        rw [tr_ret A 3 A bad] at HS2
        have BB7 := Lib.hid hB7
        have hne6 : ¬ w5.heap.size = w6.heap.size := by omega
        have hlt6 : w5.heap.size < w6.heap.size := hl6
        clear hAf hbe hB6 hB7
        unfold exV
        unfold exV at HS2
        go_wp2_with fail
        refine (HS2.out).mono ?_
        rintro e w7 ⟨rfl, hAf⟩
        have a1 : w7.cell? ⟨w5.heap.size, 16, none⟩ = some (.int .u64 0) := hAf.ls.pc'
        have a2 : w7.cell? ⟨w5.heap.size, 22, none⟩ = some (.bool true) := hAf.ls.op'
        have hl7 := hAf.ls.lt
        have hne7 : ¬ w5.heap.size = w7.heap.size := by omega
        have B8 := Lib.hid (hAf.tr.to_below BB7.out (BB7.out).size (fun i hi => by rcases hi with rfl | hi; exact hbs.out; exact hb1.out i hi))
        clear hAf e1 e2 e3 e4 e5
        go_wp2
        go_ret
        exact ⟨rfl, below_more B8.out _⟩
  · have HB := Lib.hid (show bits .or .u32 1543503872 ((w0 : Int) % 67108864) = (bad : Int) by simpa using hbad)
    clear hbad
    go_enter Tryd.func9, Tryd.ntmps9
    go_wp2_with fail
    refine (HA.out _ HT.out).mono ?_
    rintro e w1 ⟨rfl, b1⟩
    go_wp2_with fail
    refine (HW1.out _).mono ?_
    rintro e w2 ⟨rfl, b2⟩
    have B2 := Lib.hid (below_up b1 b2)
    clear b1 b2 HW1
    go_wp2_with fail
    rw [HB.out]
    clear HB
    refine (HW2.out _).mono ?_
    rintro e w3 ⟨rfl, b3⟩
    have R3 := Lib.hid ((Row.new w2 (fun _ => 0) 32).below b3)
    have B3 := Lib.hid (below_up (below_up (B2.out) (below_new _ _)) b3)
    clear b3 HW2 hmk
    go_wp2_with (refine wpList_buildSlice rfl 56 24 2 _ rfl #[.int .u32 bad, .int .u32 1476395008] _ _ Tryd.underlying56 rfl rfl (by decide) (by decide) (by kernel_rfl) ?_)
    have HI0 : Hid (TrI (w3.alloc (.cells #[.int .u32 bad, .int .u32 1476395008] 24)) w2.heap.size (stF bad 0 0) (w3.alloc (.cells #[.int .u32 bad, .int .u32 1476395008] 24))) := Lib.hid (by
      have R4 := (R3.out).below (below_new w3 (.cells #[.int .u32 bad, .int .u32 1476395008] 24))
      exact ⟨grown_self _ _, fun j hj => by rw [R4.cell j hj, stF_zero], fun j => R4.frozen j⟩)
    have X4 := Lib.hid (x2_new w3 (.int .u32 bad) (.int .u32 1476395008) 24)
    have B4 := Lib.hid (below_more B3.out (.cells #[.int .u32 bad, .int .u32 1476395008] 24))
    have hgq : w2.heap.size ≠ w3.heap.size := by have := (R3.out).lt; omega
    have hgw : w.heap.size ≤ w2.heap.size := (B2.out).size
    have hgl := (R3.out).lt
    clear R3 B3 B2
    generalize w3.alloc (.cells #[.int .u32 bad, .int .u32 1476395008] 24) = W at *
    generalize w2.heap.size = g at *
    generalize w3.heap.size = q at *
    go_loopw [10, 11] (fun i k wr => ∃ n : Nat, n ≤ 2 ∧ i = .int .i64 n ∧ TrI W g (stF bad n 0) wr) (fun i _ _ => 2 - (intOf i).toNat)
    case atStart => exact ⟨0, by omega, rfl, HI0.out⟩
    case round =>
      obtain ⟨n, hn, rfl, hI⟩ := hrel
      have HI := Lib.hid hI
      clear hI
      by_cases hlt : n < 2
      · have hlt' : (n : Int) < 2 := by omega
        go_wp2_with fail
        go_loopw [11] (fun k wr => ∃ t : Nat, t ≤ 4 ∧ k = .int .i64 t ∧ TrI W g (stF bad n t) wr) (fun k _ => 4 - (intOf k).toNat)
        case atStart => exact ⟨0, by omega, rfl, HI.out⟩
        case round =>
          obtain ⟨t, ht, rfl, hJ⟩ := hrel
          by_cases hlt2 : t < 4
          · have x := (X4.out).kept hJ.gr (by intro e; injection e with e; exact hgq e.symm)
            have y0 := x.k0
            have y1 := x.k1
            have HJ := Lib.hid hJ
            clear x hJ HI hn ht
            have hnn : n = 0 ∨ n = 1 := by omega
            have htt : t = 0 ∨ t = 1 ∨ t = 2 ∨ t = 3 := by omega
            have m0 := (HJ.out).c 0 (by decide)
            have f0 := (HJ.out).fz 0
            have m1 := (HJ.out).c 1 (by decide)
            have f1 := (HJ.out).fz 1
            have m2 := (HJ.out).c 2 (by decide)
            have f2 := (HJ.out).fz 2
            have m3 := (HJ.out).c 3 (by decide)
            have f3 := (HJ.out).fz 3
            have m16 := (HJ.out).c 16 (by decide)
            have f16 := (HJ.out).fz 16
            have m17 := (HJ.out).c 17 (by decide)
            have f17 := (HJ.out).fz 17
            have m18 := (HJ.out).c 18 (by decide)
            have f18 := (HJ.out).fz 18
            have m19 := (HJ.out).c 19 (by decide)
            have f19 := (HJ.out).fz 19
            clear hlt hlt' hlt2
            rcases hnn with rfl | rfl <;> rcases htt with rfl | rfl | rfl | rfl
            all_goals
              go_wp2
              go_roundw
              case rel => exact ⟨_, by decide, by go_num, TrI.set HJ.out (by decide) (by decide) _ (by simp [trF, byteN, retN] <;> omega)⟩
              case measure => simp [intOf]
          · obtain rfl : t = 4 := by omega
            have HE : Hid (TrI W g (stF bad (n + 1) 0) _) := Lib.hid ⟨hJ.gr, fun j hj => by rw [hJ.c j hj, stF_row bad n j hlt hj], hJ.fz⟩
            clear hJ
            go_wp2
            go_roundw
            case rel => exact ⟨n + 1, by omega, by go_num, HE.out⟩
            case measure => simp [intOf]; omega
      · obtain rfl : n = 2 := by omega
        have hby : BytesAt wr (some ⟨g, 0, none⟩) 32 (trF bad) := fun i hi => ⟨g, 0, rfl, by rw [Nat.zero_add, ← stF_end bad i hi]; exact (HI.out).c i hi⟩
        have HBY := Lib.hid hby
        have B5 := Lib.hid ((B4.out).grown (HI.out).gr (B4.out).size (fun j hj => by injection hj with hj; rw [← hj]; exact hgw))
        clear hby HI B4 X4 HI0
        go_wp2_with fail
        refine (HS.out _ _ HBY.out).mono ?_
        rintro e w5 ⟨L1, L2, rfl, hI⟩
        have B6 := Lib.hid (below_up B5.out hI.bel)
        have HI := Lib.hid hI
        have hsz := (B5.out).size
        clear hI HBY
        have hbu : Below w5.heap.size w5 (((w5.alloc (.cells SV.zero.cells 26)).setRow w5.heap.size (SV.cells { SV.zero with ve := 16 })).setCell ⟨w5.heap.size, 2, none⟩ (.int .u64 ((256 + addr % 1099511627776 : Nat) : Int))) :=
          ((below_new w5 _).grown (grown_setRowS _ _ _) (by simp) (fun j hj => by injection hj with hj; omega)).grown (grown_setCellS _ ⟨w5.heap.size, 2, none⟩ _) (by simp) (fun j hj => by injection hj with hj; show w5.heap.size ≤ j; rw [← hj]; exact Nat.le_refl _)
        have hls0 : LS ((w5.alloc (.cells SV.zero.cells 26)).setRow w5.heap.size (SV.cells { SV.zero with ve := 16 })) w5.heap.size { SV.zero with ve := 16 } := (ls_new w5 SV.zero).put _
        have hls : LS (((w5.alloc (.cells SV.zero.cells 26)).setRow w5.heap.size (SV.cells { SV.zero with ve := 16 })).setCell ⟨w5.heap.size, 2, none⟩ (.int .u64 ((256 + addr % 1099511627776 : Nat) : Int))) w5.heap.size (tT (256 + addr % 1099511627776)) := hls0.set 2 _ (setR_cells _ 2 _ (by decide))
        have z1 := hls0.reg 2 (by decide)
        have z2 := hls0.fz 2
        have hA64 : 256 + addr % 1099511627776 < 18446744073709551616 := by omega
        have hA256 : 256 ≤ 256 + addr % 1099511627776 := by omega
        have hmm := (HI.out).m1.below hbu
        have hpg := pg_new (HI.out).m1 (i := w5.heap.size) (Nat.le_refl _)
        have hlm := (HI.out).m1.lt
        have hne : w5.heap.size ≠ L1.M := by omega
        have hst := step_in hls hmm (tT_ok _ hA64) (((HT.out).below B6.out).below hbu) hne hpg 0 0 (by decide)
        have hh : stV (tT (256 + addr % 1099511627776)) (svM 1 0 32 0 (trF bad) (fun x => 0) 32) 0 0 = _ := HH1.out
        rw [hh] at hst
        simp only [if_true] at hst
        have HST := Lib.hid hst
        have HA2 := Lib.hid (show (256 : Int) + (addr : Int) % 1099511627776 = ((256 + addr % 1099511627776 : Nat) : Int) by omega)
        have BU := Lib.hid (below_up B6.out hbu)
        have hls2 := Lib.hid hls
        have hb1 : Hid (∀ i, pgS L1 (trM bad) i → w.heap.size ≤ i) := Lib.hid (by
          rintro i ⟨qq, hq, hh, rfl⟩
          have h1 := (HI.out).b1 qq hq hh
          omega)
        have hbs : Hid (w.heap.size ≤ w5.heap.size) := Lib.hid (B6.out).size
        clear hst hmm hls hh hls0 hbu
        generalize 256 + addr % 1099511627776 = A at *
        go_wp2_with (first
          | (refine wpList_bdV rfl (.const (.int .u64 16)) rfl rfl ?_; unfold SV.agg)
          | (refine wpList_stS rfl (.tmp 14) (.tmp 57) rfl w5.heap.size rfl SV.zero { SV.zero with ve := 16 } rfl (ls_new w5 _) ?_))
        rw [HA2.out]
        generalize ((w5.alloc (.cells SV.zero.cells 26)).setRow w5.heap.size (SV.cells { SV.zero with ve := 16 })).setCell ⟨w5.heap.size, 2, none⟩ (.int .u64 (A : Int)) = U at *
        refine (HST.out).mono ?_
        rintro e w6 ⟨rfl, hAf⟩
        have e1 : w6.cell? ⟨w5.heap.size, 16, none⟩ = some (.int .u64 16) := hAf.ls.pc'
        have e2 : w6.cell? ⟨w5.heap.size, 19, none⟩ = some (.int .u64 0) := hAf.ls.ep'
        have e3 : w6.cell? ⟨w5.heap.size, 20, none⟩ = some (.int .u64 1) := hAf.ls.ca'
        have e4 : w6.cell? ⟨w5.heap.size, 21, none⟩ = some (.int .u64 (bad : Nat)) := hAf.ls.ad'
        have e5 : w6.cell? ⟨w5.heap.size, 2, none⟩ = some (.int .u64 (A : Nat)) := hAf.ls.reg 2 (by decide)
        have hl6 := hAf.ls.lt
        have hbe := below_new w6 (.cells #[.int .u8 1, .int .u64 1] 50)
        have hB6 := hAf.tr.to_below BU.out (BU.out).size (fun i hi => by rcases hi with rfl | hi; exact hbs.out; exact hb1.out i hi)
        have hB7 := below_up hB6 hbe
        have HS2 := Lib.hid (step_in (hAf.ls.below hbe) (hAf.mm.below hbe) (tU_ok A 1 bad hA64 (by decide) (by omega)) ((HT.out).below hB7) hne hpg 0 0 (by decide))
        rw [tr_ret A 1 bad bad] at HS2
        have BB7 := Lib.hid hB7
        have hne6 : ¬ w5.heap.size = w6.heap.size := by omega
        have hlt6 : w5.heap.size < w6.heap.size := hl6
        clear hAf hbe hB6 hB7
        unfold exV
        unfold exV at HS2
        go_wp2_with fail
        refine (HS2.out).mono ?_
        rintro e w7 ⟨rfl, hAf⟩
        have a1 : w7.cell? ⟨w5.heap.size, 16, none⟩ = some (.int .u64 0) := hAf.ls.pc'
        have a2 : w7.cell? ⟨w5.heap.size, 22, none⟩ = some (.bool true) := hAf.ls.op'
        have hl7 := hAf.ls.lt
        have hne7 : ¬ w5.heap.size = w7.heap.size := by omega
        have B8 := Lib.hid (hAf.tr.to_below BB7.out (BB7.out).size (fun i hi => by rcases hi with rfl | hi; exact hbs.out; exact hb1.out i hi))
        clear hAf e1 e2 e3 e4 e5
        go_wp2
        go_ret
        exact ⟨rfl, below_more B8.out _⟩
theorem cpuTraps_core (addr w0 : Nat) (code : Bool) (haddr : addr < 18446744073709551616) (hw0 : w0 < 4294967296) (w : World) (hT : TabAt w) :
    Calls Tryd.prog 9 #[.int .u64 addr, .int .u32 w0, .bool code] w fun e w' => e = .returned (.bool true) ∧ Below w.heap.size w w' := by
  cases code
  · refine cpuTraps_walk addr w0 810024960 false haddr hw0 (by decide) w hT (by rw [if_neg (by decide)]; decide) ?_
    rw [tr_ld _ (by omega) (by omega)]
    rfl
  · have hm : w0 % 67108864 < 67108864 := Nat.mod_lt _ (by omega)
    refine cpuTraps_walk addr w0 (1543503872 + w0 % 67108864) true haddr hw0 (by omega) w hT ?_ ?_
    · rw [if_pos rfl, show (w0 : Int) % 67108864 = ((w0 % 67108864 : Nat) : Int) by omega]
      exact or_join _ hm
    · rw [tr_no _ _ (by omega) ?_]
      · rfl
      · unfold isW rightB
        have hp : pC (1543503872 + w0 % 67108864) = 23 := by unfold pC; omega
        rw [hp]
        simp
end Go.Proofs.YtpbjfjedgcabhaaDoor
