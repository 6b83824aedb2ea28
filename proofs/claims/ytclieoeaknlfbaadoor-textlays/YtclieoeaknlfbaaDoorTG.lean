/-
  Contracts of package text's way from a text to an instruction: operationOf, cutRegister, guess, Read.
-/
import Derived.Test.YtclieoeaknlfbaaDoorTR
import Derived.Deep.Cut
namespace Go.Proofs.YtclieoeaknlfbaaDoor
open Go.ChangeShapes Go.WideShapes Go.ChangeAt Go.RowKit
open WM CM
set_option maxRecDepth 100000
set_option linter.unusedVariables false
set_option linter.unusedSimpArgs false

theorem str_data (l : List UInt8) : (str l).data.toList = l := rfl
theorem str_list (l : List UInt8) : (str l).toList = l := by rw [Lib.toList_data]; rfl
theorem str_same (s : ByteArray) : str s.data.toList = s := by
  unfold str; apply ByteArray.ext; simp

/-! ### operationOf -/
def opF (l : List UInt8) : Nat → Nat → Nat
  | 0, k => k
  | f + 1, k => if nameL k = l then k else opF l f (k + 1)
/-- The operation of that name; 23, which is none. -/
def opOf (l : List UInt8) : Nat := opF l 23 0
theorem opF_le (l : List UInt8) : ∀ f k, opF l f k ≤ k + f
  | 0, k => by simp [opF]
  | f + 1, k => by
    have := opF_le l f (k + 1)
    simp only [opF]; split <;> omega
theorem opOf_le (l : List UInt8) : opOf l ≤ 23 := by have := opF_le l 23 0; unfold opOf; omega
theorem names_load {w : World} (h : TW w) : (loadVar 70 ⟨0, 0, none⟩).run Tryd.prog w = .ok (.agg namesArr) w := by
  have hc : (loadCells ⟨0, 0, none⟩ 23).run Tryd.prog w = .ok namesArr w := by
    have := run_loadCells_list (P := Tryd.prog) w ⟨0, 0, none⟩ namesArr.toList (fun j v hj => by
      have hv : namesArr[j]? = some v := by simpa using hj
      rw [← hv, ← var_cell (g := 0) (by kernel_rfl) h.names j]
      congr 1
      unfold Addr.add
      split <;> simp_all)
    simpa [show namesArr.size = 23 by decide] using this
  have h1 : (isAgg 70).run Tryd.prog w = .ok true w := Tryd.isAgg70 w
  have h2 : (Go.sizeOf 70).run Tryd.prog w = .ok 23 w := Tryd.sizeOf70 w
  unfold loadVar
  simp only [Sem.run_bind, h1, h2, Result.andThen_ok, hc]
  simp [Sem.run_bind, Sem.run_pure, h2, hc]
theorem wpList_load {P : Program} {w : World} {ops : Array Oper} {rest : List Oper} {o : Oper} {a : Act} {Q : Exit → Act → World → Prop} (hgd : o.guard = none) (T : TypeId) (x : Operand) (ho : o.op = .load T x) (p : Addr) (v : Value)
    (hx : a.eval x = .pointer (some p)) (hrun : (loadVar T p).run P w = .ok v w) (h : wpList P ops Q rest (a.put o.dst v) w) : wpList P ops Q (o :: rest) a w := by
  refine wpList_plain hgd fun K hK => ?_
  have h1 : (Instr.loadAt T (.pointer (some p))).run P w = .ok v w := by
    unfold Instr.loadAt Instr.sureAddr
    simp only [Sem.run_bind, Sem.run_pure, Result.andThen_ok, hrun]
  unfold Oper.wp
  simp only [execOp, ho, hx, h1, Sem.run_bind, Result.andThen_ok, Sem.run_pure]
  exact hK _ _ h
theorem name_index (w : World) (k : Nat) (hk : k < 23) : (Instr.index 70 (.agg namesArr) (.int .i64 k)).run Tryd.prog w = .ok (.string (str (nameL k))) w := by
  have hs : k = 0 ∨ k = 1 ∨ k = 2 ∨ k = 3 ∨ k = 4 ∨ k = 5 ∨ k = 6 ∨ k = 7 ∨ k = 8 ∨ k = 9 ∨ k = 10 ∨ k = 11 ∨ k = 12 ∨ k = 13 ∨ k = 14 ∨ k = 15 ∨ k = 16 ∨ k = 17 ∨ k = 18 ∨ k = 19 ∨ k = 20 ∨ k = 21 ∨ k = 22 := by omega
  rcases hs with rfl | rfl | rfl | rfl | rfl | rfl | rfl | rfl | rfl | rfl | rfl | rfl | rfl | rfl | rfl | rfl | rfl | rfl | rfl | rfl | rfl | rfl | rfl
  all_goals (refine Eq.trans ?_ rfl; kernel_rfl)
theorem oper_in (l : List UInt8) (w : World) (hT : TW w) :
    Calls Tryd.prog 35 #[.string (str l)] w fun e w' => e = .returned (.int .u8 (opOf l : Nat)) ∧ w = w' := by
  have hld := Lib.hid (names_load hT)
  have hsl := str_list l
  obtain ⟨y, hy⟩ : ∃ y, str l = y := ⟨_, rfl⟩
  rw [hy] at hsl ⊢
  have HY := Lib.hid hsl
  clear hT hy hsl
  obtain ⟨N, hN⟩ : ∃ N, namesArr = N := ⟨_, rfl⟩
  have HN := Lib.hid (fun k hk => name_index w k hk)
  rw [hN] at hld HN
  clear hN
  go_enter Tryd.func35, Tryd.ntmps35
  go_wp2_with (refine wpList_load rfl 70 _ rfl ⟨0, 0, none⟩ _ rfl hld.out ?_)
  go_loop [6] (fun i => ∃ k : Nat, k ≤ 23 ∧ i = .int .i64 k ∧ opF l (23 - k) k = opOf l) (fun i => 23 - (intOf i).toNat)
  case atStart => exact ⟨0, by omega, rfl, rfl⟩
  case round =>
    obtain ⟨k, hk, rfl, hi⟩ := hrel
    have HI := Lib.hid hi
    clear hi
    by_cases hlt : k < 23
    · have hix := HN.out k hlt
      have hstep : opF l (23 - k) k = if nameL k = l then k else opF l (23 - (k + 1)) (k + 1) := by
        rw [show 23 - k = (23 - (k + 1)) + 1 by omega]; rfl
      have hsn := str_list (nameL k)
      obtain ⟨x, hx⟩ : ∃ x, str (nameL k) = x := ⟨_, rfl⟩
      rw [hx] at hix hsn
      by_cases he : nameL k = l
      · rw [if_pos he] at hstep
        have ht : (x.toList == y.toList) = true := by rw [hsn, HY.out, he]; simp
        have HE := Lib.hid (hstep.symm.trans HI.out)
        clear hstep hsn hx he
        go_wp2
        go_ret
        exact ⟨ret_int (by have := HE.out; omega), rfl⟩
      · rw [if_neg he] at hstep
        have ht : (x.toList == y.toList) = false := by rw [hsn, HY.out]; simpa using he
        have HE := Lib.hid (hstep.symm.trans HI.out)
        clear hstep hsn hx he
        go_wp2
        go_round
        case rel => exact ⟨k + 1, by omega, by go_num, HE.out⟩
        case measure => simp [intOf]; omega
    · obtain rfl : k = 23 := by omega
      go_wp2
      go_ret
      exact ⟨ret_int (by have := HI.out; simp [opF] at this; omega), rfl⟩

/-! ### cutRegister -/
theorem cut1_len (l s : List UInt8) : (Lib.cut l s).1.length ≤ l.length := by
  unfold Lib.cut; split <;> simp; omega
theorem cut2_len (l s : List UInt8) : (Lib.cut l s).2.1.length ≤ l.length := by
  unfold Lib.cut; split <;> simp
theorem trim_len (l s : List UInt8) : (Lib.trimPrefix l s).length ≤ l.length := by
  unfold Lib.trimPrefix; split <;> simp
theorem cutl_in (l : List UInt8) (w : World) (hl : l.length ≤ 1000000) (hT : TW w) :
    Calls Tryd.prog 14 #[.string (str l), .string ⟨#[32]⟩] w fun e w' =>
      e = .returned (.tuple #[.string (str (Lib.cut l [32]).1), .string (str (Lib.cut l [32]).2.1), .bool (Lib.cut l [32]).2.2]) ∧ Below w.heap.size w w' :=
  cut_in (str l) ⟨#[32]⟩ w (by rw [str_size]; exact hl) hT
/-- What stands ahead of the first blank, as a register; and what stands behind. -/
def regV (l : List UInt8) : Nat := puintV (Lib.trimPrefix (Lib.cut l [32]).1 [114]) % 256
def regR (l : List UInt8) : List UInt8 := (Lib.cut l [32]).2.1
theorem regV_lt (l : List UInt8) : regV l < 256 := Nat.mod_lt _ (by decide)
theorem regR_len (l : List UInt8) : (regR l).length ≤ l.length := cut2_len l _
theorem cutreg_in (l : List UInt8) (w : World) (hl : l.length ≤ 1000000) (hT : TW w) :
    Calls Tryd.prog 36 #[.string (str l)] w fun e w' => e = .returned (.tuple #[.int .u8 (regV l : Nat), .string (str (regR l))]) ∧ Below w.heap.size w w' := by
  have HC := Lib.hid (cutl_in l w hl hT)
  have HT := Lib.hid hT
  have h1 := cut1_len l [32]
  have h2 := trim_len (Lib.cut l [32]).1 [114]
  obtain ⟨p, hp⟩ : ∃ p, (Lib.cut l [32]).1 = p := ⟨_, rfl⟩
  obtain ⟨r, hr⟩ : ∃ r, (Lib.cut l [32]).2.1 = r := ⟨_, rfl⟩
  obtain ⟨b, hb⟩ : ∃ b, (Lib.cut l [32]).2.2 = b := ⟨_, rfl⟩
  obtain ⟨q, hq⟩ : ∃ q, Lib.trimPrefix p [114] = q := ⟨_, rfl⟩
  have e1 : regV l = puintV q % 256 := by unfold regV; rw [hp, hq]
  have e2 : regR l = r := by unfold regR; rw [hr]
  rw [e1, e2]
  rw [hp, hr, hb] at HC
  rw [hp, hq] at h2
  rw [hp] at h1
  have HP := Lib.hid (fun W => trimp_in (str p) ⟨#[114]⟩ W)
  have hq' : Lib.trimPrefix (str p).data.toList (⟨#[114]⟩ : ByteArray).data.toList = q := hq
  simp only [hq'] at HP
  have HU := Lib.hid (fun W hW => puint_in (str q) W (by rw [str_size]; omega) hW)
  simp only [str_data] at HU
  obtain ⟨u, hu⟩ : ∃ u, puintV q = u := ⟨_, rfl⟩
  rw [hu] at HU ⊢
  clear hp hr hb hq hq' e1 e2 hu hT h1 h2 hl
  go_enter Tryd.func36, Tryd.ntmps36
  go_wp2_with fail
  refine (HC.out).mono ?_
  rintro e w1 ⟨rfl, b1⟩
  go_wp2_with fail
  refine (HP.out _).mono ?_
  rintro e w2 ⟨rfl, rfl⟩
  go_wp2_with fail
  refine (HU.out _ ((HT.out).later b1)).mono ?_
  rintro e w3 ⟨ev, rfl, b3⟩
  go_wp2
  go_ret2
  exact ⟨rfl, below_up b1 b3⟩

/-! ### guess -/
def gC (l : List UInt8) : Nat := opOf (Lib.cut l [32]).1
def g0 (l : List UInt8) : List UInt8 := (Lib.cut l [32]).2.1
def gA (l : List UInt8) : Nat := if hasA (gC l) then regV (g0 l) else 0
def g1 (l : List UInt8) : List UInt8 := if hasA (gC l) then regR (g0 l) else g0 l
def gB (l : List UInt8) : Nat := if hasB (gC l) then regV (g1 l) else 0
def g2 (l : List UInt8) : List UInt8 := if hasB (gC l) then regR (g1 l) else g1 l
def gD (l : List UInt8) : Nat := if hasC (gC l) then regV (g2 l) else 0
def g3 (l : List UInt8) : List UInt8 := if hasC (gC l) then regR (g2 l) else g2 l
def gN (l : List UInt8) : Int := if hasN (gC l) then IntKind.i16.wrap (pintV (g3 l)) else 0
theorem kinds' (c : Nat) :
    (hasA c = false ∧ hasB c = false ∧ hasC c = false ∧ hasN c = false) ∨ (hasA c = true ∧ hasB c = false ∧ hasC c = false ∧ hasN c = true) ∨ (hasA c = false ∧ hasB c = false ∧ hasC c = false ∧ hasN c = true) ∨
    (hasA c = true ∧ hasB c = true ∧ hasC c = false ∧ hasN c = true) ∨ (hasA c = true ∧ hasB c = true ∧ hasC c = true ∧ hasN c = false) := by
  by_cases h : c < 23
  · rcases kinds c h with ⟨_, k1, k2, k3, k4, _⟩ | ⟨_, k1, k2, k3, k4⟩ | ⟨_, k1, k2, k3, k4, _⟩ | ⟨_, k1, k2, k3, k4, _⟩ | ⟨_, k1, k2, k3, k4, _⟩ <;> simp [k1, k2, k3, k4]
  · refine .inl ⟨?_, ?_, ?_, ?_⟩
    · unfold hasA; simp; omega
    · unfold hasB; simp; omega
    · unfold hasC; simp; omega
    · unfold hasN; simp; omega
theorem Lies.set1 {w : World} {B c a b d : Nat} {n : Int} (h : Lies w B c a b d n) (v : Nat) : Lies (w.setCell ⟨B, 1, none⟩ (.int .u8 v)) B c v b d n :=
  ⟨(set_other w B 1 0 _ (by decide)).trans h.k0, set_same w B 1 _ (by simp [h.k1]), (set_other w B 1 2 _ (by decide)).trans h.k2, (set_other w B 1 3 _ (by decide)).trans h.k3, (set_other w B 1 4 _ (by decide)).trans h.k4, by simpa [World.setCell] using h.lt, fun i => by simpa using h.fz i⟩
theorem Lies.set2 {w : World} {B c a b d : Nat} {n : Int} (h : Lies w B c a b d n) (v : Nat) : Lies (w.setCell ⟨B, 2, none⟩ (.int .u8 v)) B c a v d n :=
  ⟨(set_other w B 2 0 _ (by decide)).trans h.k0, (set_other w B 2 1 _ (by decide)).trans h.k1, set_same w B 2 _ (by simp [h.k2]), (set_other w B 2 3 _ (by decide)).trans h.k3, (set_other w B 2 4 _ (by decide)).trans h.k4, by simpa [World.setCell] using h.lt, fun i => by simpa using h.fz i⟩
theorem Lies.set3 {w : World} {B c a b d : Nat} {n : Int} (h : Lies w B c a b d n) (v : Nat) : Lies (w.setCell ⟨B, 3, none⟩ (.int .u8 v)) B c a b v n :=
  ⟨(set_other w B 3 0 _ (by decide)).trans h.k0, (set_other w B 3 1 _ (by decide)).trans h.k1, (set_other w B 3 2 _ (by decide)).trans h.k2, set_same w B 3 _ (by simp [h.k3]), (set_other w B 3 4 _ (by decide)).trans h.k4, by simpa [World.setCell] using h.lt, fun i => by simpa using h.fz i⟩
theorem Lies.set4 {w : World} {B c a b d : Nat} {n : Int} (h : Lies w B c a b d n) (v : Int) : Lies (w.setCell ⟨B, 4, none⟩ (.int .i16 v)) B c a b d v :=
  ⟨(set_other w B 4 0 _ (by decide)).trans h.k0, (set_other w B 4 1 _ (by decide)).trans h.k1, (set_other w B 4 2 _ (by decide)).trans h.k2, (set_other w B 4 3 _ (by decide)).trans h.k3, set_same w B 4 _ (by simp [h.k4]), by simpa [World.setCell] using h.lt, fun i => by simpa using h.fz i⟩
theorem far_cell (w : World) (B B' i j : Nat) (v : Value) (h : B ≠ B') : (w.setCell ⟨B, i, none⟩ v).cell? ⟨B', j, none⟩ = w.cell? ⟨B', j, none⟩ := World.cell?_setCell_other _ _ _ _ (by simp)
theorem Lies.far {w : World} {B B' c a b d i : Nat} {n : Int} {v : Value} (h : Lies w B c a b d n) (hne : B' ≠ B) : Lies (w.setCell ⟨B', i, none⟩ v) B c a b d n :=
  ⟨(far_cell w B' B i 0 v hne).trans h.k0, (far_cell w B' B i 1 v hne).trans h.k1, (far_cell w B' B i 2 v hne).trans h.k2, (far_cell w B' B i 3 v hne).trans h.k3, (far_cell w B' B i 4 v hne).trans h.k4, by simpa [World.setCell] using h.lt, fun j => by simpa using h.fz j⟩
theorem Four.far {w : World} {B B' i : Nat} {x y z u : Bool} {v : Value} (h : Four w B x y z u) (hne : B' ≠ B) : Four (w.setCell ⟨B', i, none⟩ v) B x y z u :=
  ⟨(far_cell w B' B i 0 v hne).trans h.c0, (far_cell w B' B i 1 v hne).trans h.c1, (far_cell w B' B i 2 v hne).trans h.c2, (far_cell w B' B i 3 v hne).trans h.c3, fun j => by simpa using h.fz j⟩
set_option maxHeartbeats 2000000 in
theorem guess_0 (l : List UInt8) (w : World) (hl : l.length ≤ 1000000) (hT : TW w) (hA : hasA (gC l) = false) (hB : hasB (gC l) = false) (hC : hasC (gC l) = false) (hN : hasN (gC l) = false) :
    Calls Tryd.prog 19 #[.string (str l)] w fun e w' => e = .returned (opV (gC l) (gA l) (gB l) (gD l) (gN l)) ∧ Below w.heap.size w w' := by
  have h0 := cut2_len l [32]
  have HC := Lib.hid (fun W hW => cutl_in l W hl hW)
  have HO := Lib.hid (fun W hW => oper_in (Lib.cut l [32]).1 W hW)
  have ec : opOf (Lib.cut l [32]).1 = gC l := rfl
  have e0 : (Lib.cut l [32]).2.1 = g0 l := rfl
  rw [e0] at h0 HC
  rw [ec] at HO
  obtain ⟨p, hp⟩ : ∃ p, (Lib.cut l [32]).1 = p := ⟨_, rfl⟩
  obtain ⟨q, hq⟩ : ∃ q, (Lib.cut l [32]).2.2 = q := ⟨_, rfl⟩
  rw [hp, hq] at HC
  rw [hp] at HO
  have hF := fun W => tfields_in (gC l) W
  rw [hA, hB, hC, hN] at hF
  have HF := Lib.hid hF
  have vA : gA l = 0 := by unfold gA; rw [hA]; rfl
  have v1 : g1 l = g0 l := by unfold g1; rw [hA]; rfl
  have vB : gB l = 0 := by unfold gB; rw [hB]; rfl
  have v2 : g2 l = g1 l := by unfold g2; rw [hB]; rfl
  have vD : gD l = 0 := by unfold gD; rw [hC]; rfl
  have v3 : g3 l = g2 l := by unfold g3; rw [hC]; rfl
  have vN : gN l = 0 := by unfold gN; rw [hN]; rfl
  have l1 : (g1 l).length ≤ 1000000 := by rw [v1]; omega
  have l2 : (g2 l).length ≤ 1000000 := by rw [v2]; omega
  have l3 : (g3 l).length ≤ 1000000 := by rw [v3]; omega
  have l0 : (g0 l).length ≤ 1000000 := by omega
  rw [v1] at *
  generalize gC l = c at *
  clear hA hB hC hN hF ec e0 hp hq h0 hl l0 l1 l2 l3
  rw [vA]
  rw [vB]
  rw [vD]
  rw [vN]
  have HT := Lib.hid hT
  clear hT
  clear vA vB vD vN v1 v2 v3
  generalize g0 l = r0 at *
  have LZ := lies_zero w 27
  have b0 := below_new w (.cells #[.int .u8 0, .int .u8 0, .int .u8 0, .int .u8 0, .int .i16 0] 27)
  unfold opV
  go_enter Tryd.func19, Tryd.ntmps19
  go_wp2_with fail
  refine (HC.out _ ((HT.out).later b0)).mono ?_
  rintro e w1 ⟨rfl, b1⟩
  have B1 := below_up b0 b1
  have LZ1 := LZ.later b1
  go_wp2_with fail
  refine (HO.out _ ((HT.out).later B1)).mono ?_
  rintro e w1' ⟨rfl, rfl⟩
  have LO : Lies (w1.alloc (.cells #[.int .u8 c, .int .u8 0, .int .u8 0, .int .u8 0, .int .i16 0] 27)) w1.heap.size c 0 0 0 0 := lies_new w1 c 0 0 0 0 27
  have b2 := below_new w1 (.cells #[.int .u8 c, .int .u8 0, .int .u8 0, .int .u8 0, .int .i16 0] 27)
  have B2 := below_up B1 b2
  have LZ2 := LZ1.later b2
  have hZO : w.heap.size < w1.heap.size := LZ1.lt
  go_upto_region 3 with fail
  obtain ⟨W2, hW2⟩ : ∃ W, w1.alloc (.cells #[.int .u8 c, .int .u8 0, .int .u8 0, .int .u8 0, .int .i16 0] 27) = W := ⟨_, rfl⟩
  rw [hW2] at LO LZ2 B2
  rw [hW2]
  obtain ⟨O, hO⟩ : ∃ O, w1.heap.size = O := ⟨_, rfl⟩
  rw [hO] at LO hZO
  rw [hO]
  have LO' := Lib.hid LO
  have LZ' := Lib.hid LZ2
  obtain ⟨k0, k1, k2, k3, k4, kl, kf⟩ := LO
  clear hW2 hO LZ LZ1 LZ2 b0 b1 b2 B1
  go_wp2_with fail
  refine (HF.out _).mono ?_
  rintro e w3 ⟨rfl, b3⟩
  have FH := four_new w3 false false false false 68
  have b4 := below_new w3 (.cells #[.bool false, .bool false, .bool false, .bool false] 68)
  have LO4 := ((LO'.out).later b3).later b4
  have LZ4 := ((LZ'.out).later b3).later b4
  have B4 := below_up (below_up B2 b3) b4
  have hOH : O < w3.heap.size := ((LO'.out).later b3).lt
  clear k0 k1 k2 k3 k4 kl kf LO' LZ'
  go_upto_region 4 with fail
  obtain ⟨W4, hW4⟩ : ∃ W, w3.alloc (.cells #[.bool false, .bool false, .bool false, .bool false] 68) = W := ⟨_, rfl⟩
  rw [hW4] at FH LO4 LZ4 B4
  rw [hW4]
  obtain ⟨H, hH⟩ : ∃ H, w3.heap.size = H := ⟨_, rfl⟩
  rw [hH] at FH hOH
  rw [hH]
  have FH' := Lib.hid FH
  have LO' := Lib.hid LO4
  have LZ' := Lib.hid LZ4
  obtain ⟨f0, f1, f2, f3, ff⟩ := FH
  clear hW4 hH b3 b4 LO4 LZ4 B2
  obtain ⟨k0, k1, k2, k3, k4, kl, kf⟩ := LO'.out
  obtain ⟨z0, z1, z2, z3, z4, zl, zf⟩ := LZ'.out
  go_wp2
  refine ret5 (hr := rfl) (hp := rfl) (by simp [z0]) (by simp [z1]) (by simp [z2]) (by simp [z3]) (by simp [z4]) ⟨rfl, ?_⟩
  repeat (first | with_reducible exact B4 | with_reducible refine Below.setCell ?_ (by simp) _)
set_option maxHeartbeats 2000000 in
theorem guess_9 (l : List UInt8) (w : World) (hl : l.length ≤ 1000000) (hT : TW w) (hA : hasA (gC l) = true) (hB : hasB (gC l) = false) (hC : hasC (gC l) = false) (hN : hasN (gC l) = true) :
    Calls Tryd.prog 19 #[.string (str l)] w fun e w' => e = .returned (opV (gC l) (gA l) (gB l) (gD l) (gN l)) ∧ Below w.heap.size w w' := by
  have h0 := cut2_len l [32]
  have HC := Lib.hid (fun W hW => cutl_in l W hl hW)
  have HO := Lib.hid (fun W hW => oper_in (Lib.cut l [32]).1 W hW)
  have ec : opOf (Lib.cut l [32]).1 = gC l := rfl
  have e0 : (Lib.cut l [32]).2.1 = g0 l := rfl
  rw [e0] at h0 HC
  rw [ec] at HO
  obtain ⟨p, hp⟩ : ∃ p, (Lib.cut l [32]).1 = p := ⟨_, rfl⟩
  obtain ⟨q, hq⟩ : ∃ q, (Lib.cut l [32]).2.2 = q := ⟨_, rfl⟩
  rw [hp, hq] at HC
  rw [hp] at HO
  have hF := fun W => tfields_in (gC l) W
  rw [hA, hB, hC, hN] at hF
  have HF := Lib.hid hF
  have vA : gA l = regV (g0 l) := by unfold gA; rw [hA]; rfl
  have v1 : g1 l = regR (g0 l) := by unfold g1; rw [hA]; rfl
  have vB : gB l = 0 := by unfold gB; rw [hB]; rfl
  have v2 : g2 l = g1 l := by unfold g2; rw [hB]; rfl
  have vD : gD l = 0 := by unfold gD; rw [hC]; rfl
  have v3 : g3 l = g2 l := by unfold g3; rw [hC]; rfl
  have vN : gN l = IntKind.i16.wrap (pintV (g3 l)) := by unfold gN; rw [hN]; rfl
  have l1 : (g1 l).length ≤ 1000000 := by rw [v1]; have := regR_len (g0 l); omega
  have l2 : (g2 l).length ≤ 1000000 := by rw [v2]; omega
  have l3 : (g3 l).length ≤ 1000000 := by rw [v3]; omega
  have l0 : (g0 l).length ≤ 1000000 := by omega
  have HA := Lib.hid (fun W hW => cutreg_in (g0 l) W l0 hW)
  rw [← vA, ← v1] at HA
  have HN := Lib.hid (fun W hW => pint_in (str (g3 l)) W (by rw [str_size]; exact l3) hW)
  simp only [str_data] at HN
  obtain ⟨z, hz⟩ : ∃ z, pintV (g3 l) = z := ⟨_, rfl⟩
  rw [hz] at HN vN
  generalize gC l = c at *
  clear hA hB hC hN hF ec e0 hp hq h0 hl l0 l1 l2 l3
  generalize gA l = a at *
  rw [vB]
  rw [vD]
  rw [vN]
  have HT := Lib.hid hT
  clear hT
  rw [v3, v2] at HN
  clear vA vB vD vN v1 v2 v3
  clear hz
  generalize g0 l = r0 at *
  generalize g1 l = r1 at *
  have LZ := lies_zero w 27
  have b0 := below_new w (.cells #[.int .u8 0, .int .u8 0, .int .u8 0, .int .u8 0, .int .i16 0] 27)
  unfold opV
  go_enter Tryd.func19, Tryd.ntmps19
  go_wp2_with fail
  refine (HC.out _ ((HT.out).later b0)).mono ?_
  rintro e w1 ⟨rfl, b1⟩
  have B1 := below_up b0 b1
  have LZ1 := LZ.later b1
  go_wp2_with fail
  refine (HO.out _ ((HT.out).later B1)).mono ?_
  rintro e w1' ⟨rfl, rfl⟩
  have LO : Lies (w1.alloc (.cells #[.int .u8 c, .int .u8 0, .int .u8 0, .int .u8 0, .int .i16 0] 27)) w1.heap.size c 0 0 0 0 := lies_new w1 c 0 0 0 0 27
  have b2 := below_new w1 (.cells #[.int .u8 c, .int .u8 0, .int .u8 0, .int .u8 0, .int .i16 0] 27)
  have B2 := below_up B1 b2
  have LZ2 := LZ1.later b2
  have hZO : w.heap.size < w1.heap.size := LZ1.lt
  go_upto_region 3 with fail
  obtain ⟨W2, hW2⟩ : ∃ W, w1.alloc (.cells #[.int .u8 c, .int .u8 0, .int .u8 0, .int .u8 0, .int .i16 0] 27) = W := ⟨_, rfl⟩
  rw [hW2] at LO LZ2 B2
  rw [hW2]
  obtain ⟨O, hO⟩ : ∃ O, w1.heap.size = O := ⟨_, rfl⟩
  rw [hO] at LO hZO
  rw [hO]
  have LO' := Lib.hid LO
  have LZ' := Lib.hid LZ2
  obtain ⟨k0, k1, k2, k3, k4, kl, kf⟩ := LO
  clear hW2 hO LZ LZ1 LZ2 b0 b1 b2 B1
  go_wp2_with fail
  refine (HF.out _).mono ?_
  rintro e w3 ⟨rfl, b3⟩
  have FH := four_new w3 true false false true 68
  have b4 := below_new w3 (.cells #[.bool true, .bool false, .bool false, .bool true] 68)
  have LO4 := ((LO'.out).later b3).later b4
  have LZ4 := ((LZ'.out).later b3).later b4
  have B4 := below_up (below_up B2 b3) b4
  have hOH : O < w3.heap.size := ((LO'.out).later b3).lt
  clear k0 k1 k2 k3 k4 kl kf LO' LZ'
  go_upto_region 4 with fail
  obtain ⟨W4, hW4⟩ : ∃ W, w3.alloc (.cells #[.bool true, .bool false, .bool false, .bool true] 68) = W := ⟨_, rfl⟩
  rw [hW4] at FH LO4 LZ4 B4
  rw [hW4]
  obtain ⟨H, hH⟩ : ∃ H, w3.heap.size = H := ⟨_, rfl⟩
  rw [hH] at FH hOH
  rw [hH]
  have FH' := Lib.hid FH
  have LO' := Lib.hid LO4
  have LZ' := Lib.hid LZ4
  obtain ⟨f0, f1, f2, f3, ff⟩ := FH
  clear hW4 hH b3 b4 LO4 LZ4 B2
  go_wp2_with fail
  refine (HA.out _ ((HT.out).later B4)).mono ?_
  rintro e w6 ⟨rfl, b6⟩
  have LO6 := (LO'.out).later b6
  have LZ6 := (LZ'.out).later b6
  have FH6 := (FH'.out).later b6
  have B6 := below_up B4 b6
  clear f0 f1 f2 f3 ff LO' LZ' FH' B4
  have LO7 := LO6.set1 (a : Nat)
  have LZ7 := LZ6.far (B' := O) (i := 1) (v := .int .u8 (a : Nat)) (by omega)
  have FH7 := FH6.far (B' := O) (i := 1) (v := .int .u8 (a : Nat)) (by omega)
  have B7 := B6.setCell (p := ⟨O, 1, none⟩) (show w.heap.size ≤ O by omega) (.int .u8 (a : Nat))
  obtain ⟨k0, k1, k2, k3, k4, kl, kf⟩ := LO6
  go_upto_region 6 with fail
  obtain ⟨U1, hU1⟩ : ∃ U, w6.setCell ⟨O, 1, none⟩ (.int .u8 (a : Nat)) = U := ⟨_, rfl⟩
  rw [hU1] at LO7 LZ7 FH7 B7
  rw [hU1]
  have FH' := Lib.hid FH7
  have LO' := Lib.hid LO7
  have LZ' := Lib.hid LZ7
  have B4 := B7
  obtain ⟨f0, f1, f2, f3, ff⟩ := FH7
  clear hU1 k0 k1 k2 k3 k4 kl kf LO7 LZ7 LZ6 FH6 B6 B7 b6 w6
  go_wp2_with fail
  refine (HN.out _ ((HT.out).later B4)).mono ?_
  rintro e w6 ⟨ev, rfl, b6⟩
  have LO6 := (LO'.out).later b6
  have LZ6 := (LZ'.out).later b6
  have FH6 := (FH'.out).later b6
  have B6 := below_up B4 b6
  clear f0 f1 f2 f3 ff LO' LZ' FH' B4
  have LO7 := LO6.set4 (IntKind.i16.wrap z)
  have LZ7 := LZ6.far (B' := O) (i := 4) (v := .int .i16 (IntKind.i16.wrap z)) (by omega)
  have FH7 := FH6.far (B' := O) (i := 4) (v := .int .i16 (IntKind.i16.wrap z)) (by omega)
  have B7 := B6.setCell (p := ⟨O, 4, none⟩) (show w.heap.size ≤ O by omega) (.int .i16 (IntKind.i16.wrap z))
  obtain ⟨k0, k1, k2, k3, k4, kl, kf⟩ := LO6
  go_upto_region 13 with fail
  obtain ⟨U4, hU4⟩ : ∃ U, w6.setCell ⟨O, 4, none⟩ (.int .i16 (IntKind.i16.wrap z)) = U := ⟨_, rfl⟩
  rw [hU4] at LO7 LZ7 FH7 B7
  rw [hU4]
  have FH' := Lib.hid FH7
  have LO' := Lib.hid LO7
  have LZ' := Lib.hid LZ7
  have B4 := B7
  obtain ⟨f0, f1, f2, f3, ff⟩ := FH7
  clear hU4 k0 k1 k2 k3 k4 kl kf LO7 LZ7 LZ6 FH6 B6 B7 b6 w6
  obtain ⟨k0, k1, k2, k3, k4, kl, kf⟩ := LO'.out
  obtain ⟨z0, z1, z2, z3, z4, zl, zf⟩ := LZ'.out
  go_wp2
  refine ret5 (hr := rfl) (hp := rfl) (by simp [z0]) (by simp [z1]) (by simp [z2]) (by simp [z3]) (by simp [z4]) ⟨rfl, ?_⟩
  repeat (first | with_reducible exact B4 | with_reducible refine Below.setCell ?_ (by simp) _)
set_option maxHeartbeats 2000000 in
theorem guess_8 (l : List UInt8) (w : World) (hl : l.length ≤ 1000000) (hT : TW w) (hA : hasA (gC l) = false) (hB : hasB (gC l) = false) (hC : hasC (gC l) = false) (hN : hasN (gC l) = true) :
    Calls Tryd.prog 19 #[.string (str l)] w fun e w' => e = .returned (opV (gC l) (gA l) (gB l) (gD l) (gN l)) ∧ Below w.heap.size w w' := by
  have h0 := cut2_len l [32]
  have HC := Lib.hid (fun W hW => cutl_in l W hl hW)
  have HO := Lib.hid (fun W hW => oper_in (Lib.cut l [32]).1 W hW)
  have ec : opOf (Lib.cut l [32]).1 = gC l := rfl
  have e0 : (Lib.cut l [32]).2.1 = g0 l := rfl
  rw [e0] at h0 HC
  rw [ec] at HO
  obtain ⟨p, hp⟩ : ∃ p, (Lib.cut l [32]).1 = p := ⟨_, rfl⟩
  obtain ⟨q, hq⟩ : ∃ q, (Lib.cut l [32]).2.2 = q := ⟨_, rfl⟩
  rw [hp, hq] at HC
  rw [hp] at HO
  have hF := fun W => tfields_in (gC l) W
  rw [hA, hB, hC, hN] at hF
  have HF := Lib.hid hF
  have vA : gA l = 0 := by unfold gA; rw [hA]; rfl
  have v1 : g1 l = g0 l := by unfold g1; rw [hA]; rfl
  have vB : gB l = 0 := by unfold gB; rw [hB]; rfl
  have v2 : g2 l = g1 l := by unfold g2; rw [hB]; rfl
  have vD : gD l = 0 := by unfold gD; rw [hC]; rfl
  have v3 : g3 l = g2 l := by unfold g3; rw [hC]; rfl
  have vN : gN l = IntKind.i16.wrap (pintV (g3 l)) := by unfold gN; rw [hN]; rfl
  have l1 : (g1 l).length ≤ 1000000 := by rw [v1]; omega
  have l2 : (g2 l).length ≤ 1000000 := by rw [v2]; omega
  have l3 : (g3 l).length ≤ 1000000 := by rw [v3]; omega
  have l0 : (g0 l).length ≤ 1000000 := by omega
  have HN := Lib.hid (fun W hW => pint_in (str (g3 l)) W (by rw [str_size]; exact l3) hW)
  simp only [str_data] at HN
  obtain ⟨z, hz⟩ : ∃ z, pintV (g3 l) = z := ⟨_, rfl⟩
  rw [hz] at HN vN
  rw [v1] at *
  generalize gC l = c at *
  clear hA hB hC hN hF ec e0 hp hq h0 hl l0 l1 l2 l3
  rw [vA]
  rw [vB]
  rw [vD]
  rw [vN]
  have HT := Lib.hid hT
  clear hT
  rw [v3, v2] at HN
  clear vA vB vD vN v1 v2 v3
  clear hz
  generalize g0 l = r0 at *
  have LZ := lies_zero w 27
  have b0 := below_new w (.cells #[.int .u8 0, .int .u8 0, .int .u8 0, .int .u8 0, .int .i16 0] 27)
  unfold opV
  go_enter Tryd.func19, Tryd.ntmps19
  go_wp2_with fail
  refine (HC.out _ ((HT.out).later b0)).mono ?_
  rintro e w1 ⟨rfl, b1⟩
  have B1 := below_up b0 b1
  have LZ1 := LZ.later b1
  go_wp2_with fail
  refine (HO.out _ ((HT.out).later B1)).mono ?_
  rintro e w1' ⟨rfl, rfl⟩
  have LO : Lies (w1.alloc (.cells #[.int .u8 c, .int .u8 0, .int .u8 0, .int .u8 0, .int .i16 0] 27)) w1.heap.size c 0 0 0 0 := lies_new w1 c 0 0 0 0 27
  have b2 := below_new w1 (.cells #[.int .u8 c, .int .u8 0, .int .u8 0, .int .u8 0, .int .i16 0] 27)
  have B2 := below_up B1 b2
  have LZ2 := LZ1.later b2
  have hZO : w.heap.size < w1.heap.size := LZ1.lt
  go_upto_region 3 with fail
  obtain ⟨W2, hW2⟩ : ∃ W, w1.alloc (.cells #[.int .u8 c, .int .u8 0, .int .u8 0, .int .u8 0, .int .i16 0] 27) = W := ⟨_, rfl⟩
  rw [hW2] at LO LZ2 B2
  rw [hW2]
  obtain ⟨O, hO⟩ : ∃ O, w1.heap.size = O := ⟨_, rfl⟩
  rw [hO] at LO hZO
  rw [hO]
  have LO' := Lib.hid LO
  have LZ' := Lib.hid LZ2
  obtain ⟨k0, k1, k2, k3, k4, kl, kf⟩ := LO
  clear hW2 hO LZ LZ1 LZ2 b0 b1 b2 B1
  go_wp2_with fail
  refine (HF.out _).mono ?_
  rintro e w3 ⟨rfl, b3⟩
  have FH := four_new w3 false false false true 68
  have b4 := below_new w3 (.cells #[.bool false, .bool false, .bool false, .bool true] 68)
  have LO4 := ((LO'.out).later b3).later b4
  have LZ4 := ((LZ'.out).later b3).later b4
  have B4 := below_up (below_up B2 b3) b4
  have hOH : O < w3.heap.size := ((LO'.out).later b3).lt
  clear k0 k1 k2 k3 k4 kl kf LO' LZ'
  go_upto_region 4 with fail
  obtain ⟨W4, hW4⟩ : ∃ W, w3.alloc (.cells #[.bool false, .bool false, .bool false, .bool true] 68) = W := ⟨_, rfl⟩
  rw [hW4] at FH LO4 LZ4 B4
  rw [hW4]
  obtain ⟨H, hH⟩ : ∃ H, w3.heap.size = H := ⟨_, rfl⟩
  rw [hH] at FH hOH
  rw [hH]
  have FH' := Lib.hid FH
  have LO' := Lib.hid LO4
  have LZ' := Lib.hid LZ4
  obtain ⟨f0, f1, f2, f3, ff⟩ := FH
  clear hW4 hH b3 b4 LO4 LZ4 B2
  go_wp2_with fail
  refine (HN.out _ ((HT.out).later B4)).mono ?_
  rintro e w6 ⟨ev, rfl, b6⟩
  have LO6 := (LO'.out).later b6
  have LZ6 := (LZ'.out).later b6
  have FH6 := (FH'.out).later b6
  have B6 := below_up B4 b6
  clear f0 f1 f2 f3 ff LO' LZ' FH' B4
  have LO7 := LO6.set4 (IntKind.i16.wrap z)
  have LZ7 := LZ6.far (B' := O) (i := 4) (v := .int .i16 (IntKind.i16.wrap z)) (by omega)
  have FH7 := FH6.far (B' := O) (i := 4) (v := .int .i16 (IntKind.i16.wrap z)) (by omega)
  have B7 := B6.setCell (p := ⟨O, 4, none⟩) (show w.heap.size ≤ O by omega) (.int .i16 (IntKind.i16.wrap z))
  obtain ⟨k0, k1, k2, k3, k4, kl, kf⟩ := LO6
  go_upto_region 13 with fail
  obtain ⟨U4, hU4⟩ : ∃ U, w6.setCell ⟨O, 4, none⟩ (.int .i16 (IntKind.i16.wrap z)) = U := ⟨_, rfl⟩
  rw [hU4] at LO7 LZ7 FH7 B7
  rw [hU4]
  have FH' := Lib.hid FH7
  have LO' := Lib.hid LO7
  have LZ' := Lib.hid LZ7
  have B4 := B7
  obtain ⟨f0, f1, f2, f3, ff⟩ := FH7
  clear hU4 k0 k1 k2 k3 k4 kl kf LO7 LZ7 LZ6 FH6 B6 B7 b6 w6
  obtain ⟨k0, k1, k2, k3, k4, kl, kf⟩ := LO'.out
  obtain ⟨z0, z1, z2, z3, z4, zl, zf⟩ := LZ'.out
  go_wp2
  refine ret5 (hr := rfl) (hp := rfl) (by simp [z0]) (by simp [z1]) (by simp [z2]) (by simp [z3]) (by simp [z4]) ⟨rfl, ?_⟩
  repeat (first | with_reducible exact B4 | with_reducible refine Below.setCell ?_ (by simp) _)
set_option maxHeartbeats 2000000 in
theorem guess_11 (l : List UInt8) (w : World) (hl : l.length ≤ 1000000) (hT : TW w) (hA : hasA (gC l) = true) (hB : hasB (gC l) = true) (hC : hasC (gC l) = false) (hN : hasN (gC l) = true) :
    Calls Tryd.prog 19 #[.string (str l)] w fun e w' => e = .returned (opV (gC l) (gA l) (gB l) (gD l) (gN l)) ∧ Below w.heap.size w w' := by
  have h0 := cut2_len l [32]
  have HC := Lib.hid (fun W hW => cutl_in l W hl hW)
  have HO := Lib.hid (fun W hW => oper_in (Lib.cut l [32]).1 W hW)
  have ec : opOf (Lib.cut l [32]).1 = gC l := rfl
  have e0 : (Lib.cut l [32]).2.1 = g0 l := rfl
  rw [e0] at h0 HC
  rw [ec] at HO
  obtain ⟨p, hp⟩ : ∃ p, (Lib.cut l [32]).1 = p := ⟨_, rfl⟩
  obtain ⟨q, hq⟩ : ∃ q, (Lib.cut l [32]).2.2 = q := ⟨_, rfl⟩
  rw [hp, hq] at HC
  rw [hp] at HO
  have hF := fun W => tfields_in (gC l) W
  rw [hA, hB, hC, hN] at hF
  have HF := Lib.hid hF
  have vA : gA l = regV (g0 l) := by unfold gA; rw [hA]; rfl
  have v1 : g1 l = regR (g0 l) := by unfold g1; rw [hA]; rfl
  have vB : gB l = regV (g1 l) := by unfold gB; rw [hB]; rfl
  have v2 : g2 l = regR (g1 l) := by unfold g2; rw [hB]; rfl
  have vD : gD l = 0 := by unfold gD; rw [hC]; rfl
  have v3 : g3 l = g2 l := by unfold g3; rw [hC]; rfl
  have vN : gN l = IntKind.i16.wrap (pintV (g3 l)) := by unfold gN; rw [hN]; rfl
  have l1 : (g1 l).length ≤ 1000000 := by rw [v1]; have := regR_len (g0 l); omega
  have l2 : (g2 l).length ≤ 1000000 := by rw [v2]; have := regR_len (g1 l); omega
  have l3 : (g3 l).length ≤ 1000000 := by rw [v3]; omega
  have l0 : (g0 l).length ≤ 1000000 := by omega
  have HA := Lib.hid (fun W hW => cutreg_in (g0 l) W l0 hW)
  rw [← vA, ← v1] at HA
  have HB := Lib.hid (fun W hW => cutreg_in (g1 l) W l1 hW)
  rw [← vB, ← v2] at HB
  have HN := Lib.hid (fun W hW => pint_in (str (g3 l)) W (by rw [str_size]; exact l3) hW)
  simp only [str_data] at HN
  obtain ⟨z, hz⟩ : ∃ z, pintV (g3 l) = z := ⟨_, rfl⟩
  rw [hz] at HN vN
  generalize gC l = c at *
  clear hA hB hC hN hF ec e0 hp hq h0 hl l0 l1 l2 l3
  generalize gA l = a at *
  generalize gB l = b at *
  rw [vD]
  rw [vN]
  have HT := Lib.hid hT
  clear hT
  rw [v3] at HN
  clear vA vB vD vN v1 v2 v3
  clear hz
  generalize g0 l = r0 at *
  generalize g1 l = r1 at *
  generalize g2 l = r2 at *
  have LZ := lies_zero w 27
  have b0 := below_new w (.cells #[.int .u8 0, .int .u8 0, .int .u8 0, .int .u8 0, .int .i16 0] 27)
  unfold opV
  go_enter Tryd.func19, Tryd.ntmps19
  go_wp2_with fail
  refine (HC.out _ ((HT.out).later b0)).mono ?_
  rintro e w1 ⟨rfl, b1⟩
  have B1 := below_up b0 b1
  have LZ1 := LZ.later b1
  go_wp2_with fail
  refine (HO.out _ ((HT.out).later B1)).mono ?_
  rintro e w1' ⟨rfl, rfl⟩
  have LO : Lies (w1.alloc (.cells #[.int .u8 c, .int .u8 0, .int .u8 0, .int .u8 0, .int .i16 0] 27)) w1.heap.size c 0 0 0 0 := lies_new w1 c 0 0 0 0 27
  have b2 := below_new w1 (.cells #[.int .u8 c, .int .u8 0, .int .u8 0, .int .u8 0, .int .i16 0] 27)
  have B2 := below_up B1 b2
  have LZ2 := LZ1.later b2
  have hZO : w.heap.size < w1.heap.size := LZ1.lt
  go_upto_region 3 with fail
  obtain ⟨W2, hW2⟩ : ∃ W, w1.alloc (.cells #[.int .u8 c, .int .u8 0, .int .u8 0, .int .u8 0, .int .i16 0] 27) = W := ⟨_, rfl⟩
  rw [hW2] at LO LZ2 B2
  rw [hW2]
  obtain ⟨O, hO⟩ : ∃ O, w1.heap.size = O := ⟨_, rfl⟩
  rw [hO] at LO hZO
  rw [hO]
  have LO' := Lib.hid LO
  have LZ' := Lib.hid LZ2
  obtain ⟨k0, k1, k2, k3, k4, kl, kf⟩ := LO
  clear hW2 hO LZ LZ1 LZ2 b0 b1 b2 B1
  go_wp2_with fail
  refine (HF.out _).mono ?_
  rintro e w3 ⟨rfl, b3⟩
  have FH := four_new w3 true true false true 68
  have b4 := below_new w3 (.cells #[.bool true, .bool true, .bool false, .bool true] 68)
  have LO4 := ((LO'.out).later b3).later b4
  have LZ4 := ((LZ'.out).later b3).later b4
  have B4 := below_up (below_up B2 b3) b4
  have hOH : O < w3.heap.size := ((LO'.out).later b3).lt
  clear k0 k1 k2 k3 k4 kl kf LO' LZ'
  go_upto_region 4 with fail
  obtain ⟨W4, hW4⟩ : ∃ W, w3.alloc (.cells #[.bool true, .bool true, .bool false, .bool true] 68) = W := ⟨_, rfl⟩
  rw [hW4] at FH LO4 LZ4 B4
  rw [hW4]
  obtain ⟨H, hH⟩ : ∃ H, w3.heap.size = H := ⟨_, rfl⟩
  rw [hH] at FH hOH
  rw [hH]
  have FH' := Lib.hid FH
  have LO' := Lib.hid LO4
  have LZ' := Lib.hid LZ4
  obtain ⟨f0, f1, f2, f3, ff⟩ := FH
  clear hW4 hH b3 b4 LO4 LZ4 B2
  go_wp2_with fail
  refine (HA.out _ ((HT.out).later B4)).mono ?_
  rintro e w6 ⟨rfl, b6⟩
  have LO6 := (LO'.out).later b6
  have LZ6 := (LZ'.out).later b6
  have FH6 := (FH'.out).later b6
  have B6 := below_up B4 b6
  clear f0 f1 f2 f3 ff LO' LZ' FH' B4
  have LO7 := LO6.set1 (a : Nat)
  have LZ7 := LZ6.far (B' := O) (i := 1) (v := .int .u8 (a : Nat)) (by omega)
  have FH7 := FH6.far (B' := O) (i := 1) (v := .int .u8 (a : Nat)) (by omega)
  have B7 := B6.setCell (p := ⟨O, 1, none⟩) (show w.heap.size ≤ O by omega) (.int .u8 (a : Nat))
  obtain ⟨k0, k1, k2, k3, k4, kl, kf⟩ := LO6
  go_upto_region 6 with fail
  obtain ⟨U1, hU1⟩ : ∃ U, w6.setCell ⟨O, 1, none⟩ (.int .u8 (a : Nat)) = U := ⟨_, rfl⟩
  rw [hU1] at LO7 LZ7 FH7 B7
  rw [hU1]
  have FH' := Lib.hid FH7
  have LO' := Lib.hid LO7
  have LZ' := Lib.hid LZ7
  have B4 := B7
  obtain ⟨f0, f1, f2, f3, ff⟩ := FH7
  clear hU1 k0 k1 k2 k3 k4 kl kf LO7 LZ7 LZ6 FH6 B6 B7 b6 w6
  go_wp2_with fail
  refine (HB.out _ ((HT.out).later B4)).mono ?_
  rintro e w6 ⟨rfl, b6⟩
  have LO6 := (LO'.out).later b6
  have LZ6 := (LZ'.out).later b6
  have FH6 := (FH'.out).later b6
  have B6 := below_up B4 b6
  clear f0 f1 f2 f3 ff LO' LZ' FH' B4
  have LO7 := LO6.set2 (b : Nat)
  have LZ7 := LZ6.far (B' := O) (i := 2) (v := .int .u8 (b : Nat)) (by omega)
  have FH7 := FH6.far (B' := O) (i := 2) (v := .int .u8 (b : Nat)) (by omega)
  have B7 := B6.setCell (p := ⟨O, 2, none⟩) (show w.heap.size ≤ O by omega) (.int .u8 (b : Nat))
  obtain ⟨k0, k1, k2, k3, k4, kl, kf⟩ := LO6
  go_upto_region 8 with fail
  obtain ⟨U2, hU2⟩ : ∃ U, w6.setCell ⟨O, 2, none⟩ (.int .u8 (b : Nat)) = U := ⟨_, rfl⟩
  rw [hU2] at LO7 LZ7 FH7 B7
  rw [hU2]
  have FH' := Lib.hid FH7
  have LO' := Lib.hid LO7
  have LZ' := Lib.hid LZ7
  have B4 := B7
  obtain ⟨f0, f1, f2, f3, ff⟩ := FH7
  clear hU2 k0 k1 k2 k3 k4 kl kf LO7 LZ7 LZ6 FH6 B6 B7 b6 w6
  go_wp2_with fail
  refine (HN.out _ ((HT.out).later B4)).mono ?_
  rintro e w6 ⟨ev, rfl, b6⟩
  have LO6 := (LO'.out).later b6
  have LZ6 := (LZ'.out).later b6
  have FH6 := (FH'.out).later b6
  have B6 := below_up B4 b6
  clear f0 f1 f2 f3 ff LO' LZ' FH' B4
  have LO7 := LO6.set4 (IntKind.i16.wrap z)
  have LZ7 := LZ6.far (B' := O) (i := 4) (v := .int .i16 (IntKind.i16.wrap z)) (by omega)
  have FH7 := FH6.far (B' := O) (i := 4) (v := .int .i16 (IntKind.i16.wrap z)) (by omega)
  have B7 := B6.setCell (p := ⟨O, 4, none⟩) (show w.heap.size ≤ O by omega) (.int .i16 (IntKind.i16.wrap z))
  obtain ⟨k0, k1, k2, k3, k4, kl, kf⟩ := LO6
  go_upto_region 13 with fail
  obtain ⟨U4, hU4⟩ : ∃ U, w6.setCell ⟨O, 4, none⟩ (.int .i16 (IntKind.i16.wrap z)) = U := ⟨_, rfl⟩
  rw [hU4] at LO7 LZ7 FH7 B7
  rw [hU4]
  have FH' := Lib.hid FH7
  have LO' := Lib.hid LO7
  have LZ' := Lib.hid LZ7
  have B4 := B7
  obtain ⟨f0, f1, f2, f3, ff⟩ := FH7
  clear hU4 k0 k1 k2 k3 k4 kl kf LO7 LZ7 LZ6 FH6 B6 B7 b6 w6
  obtain ⟨k0, k1, k2, k3, k4, kl, kf⟩ := LO'.out
  obtain ⟨z0, z1, z2, z3, z4, zl, zf⟩ := LZ'.out
  go_wp2
  refine ret5 (hr := rfl) (hp := rfl) (by simp [z0]) (by simp [z1]) (by simp [z2]) (by simp [z3]) (by simp [z4]) ⟨rfl, ?_⟩
  repeat (first | with_reducible exact B4 | with_reducible refine Below.setCell ?_ (by simp) _)
set_option maxHeartbeats 2000000 in
theorem guess_7 (l : List UInt8) (w : World) (hl : l.length ≤ 1000000) (hT : TW w) (hA : hasA (gC l) = true) (hB : hasB (gC l) = true) (hC : hasC (gC l) = true) (hN : hasN (gC l) = false) :
    Calls Tryd.prog 19 #[.string (str l)] w fun e w' => e = .returned (opV (gC l) (gA l) (gB l) (gD l) (gN l)) ∧ Below w.heap.size w w' := by
  have h0 := cut2_len l [32]
  have HC := Lib.hid (fun W hW => cutl_in l W hl hW)
  have HO := Lib.hid (fun W hW => oper_in (Lib.cut l [32]).1 W hW)
  have ec : opOf (Lib.cut l [32]).1 = gC l := rfl
  have e0 : (Lib.cut l [32]).2.1 = g0 l := rfl
  rw [e0] at h0 HC
  rw [ec] at HO
  obtain ⟨p, hp⟩ : ∃ p, (Lib.cut l [32]).1 = p := ⟨_, rfl⟩
  obtain ⟨q, hq⟩ : ∃ q, (Lib.cut l [32]).2.2 = q := ⟨_, rfl⟩
  rw [hp, hq] at HC
  rw [hp] at HO
  have hF := fun W => tfields_in (gC l) W
  rw [hA, hB, hC, hN] at hF
  have HF := Lib.hid hF
  have vA : gA l = regV (g0 l) := by unfold gA; rw [hA]; rfl
  have v1 : g1 l = regR (g0 l) := by unfold g1; rw [hA]; rfl
  have vB : gB l = regV (g1 l) := by unfold gB; rw [hB]; rfl
  have v2 : g2 l = regR (g1 l) := by unfold g2; rw [hB]; rfl
  have vD : gD l = regV (g2 l) := by unfold gD; rw [hC]; rfl
  have v3 : g3 l = regR (g2 l) := by unfold g3; rw [hC]; rfl
  have vN : gN l = 0 := by unfold gN; rw [hN]; rfl
  have l1 : (g1 l).length ≤ 1000000 := by rw [v1]; have := regR_len (g0 l); omega
  have l2 : (g2 l).length ≤ 1000000 := by rw [v2]; have := regR_len (g1 l); omega
  have l3 : (g3 l).length ≤ 1000000 := by rw [v3]; have := regR_len (g2 l); omega
  have l0 : (g0 l).length ≤ 1000000 := by omega
  have HA := Lib.hid (fun W hW => cutreg_in (g0 l) W l0 hW)
  rw [← vA, ← v1] at HA
  have HB := Lib.hid (fun W hW => cutreg_in (g1 l) W l1 hW)
  rw [← vB, ← v2] at HB
  have HD := Lib.hid (fun W hW => cutreg_in (g2 l) W l2 hW)
  rw [← vD, ← v3] at HD
  generalize gC l = c at *
  clear hA hB hC hN hF ec e0 hp hq h0 hl l0 l1 l2 l3
  generalize gA l = a at *
  generalize gB l = b at *
  generalize gD l = d at *
  rw [vN]
  have HT := Lib.hid hT
  clear hT
  clear vA vB vD vN v1 v2 v3
  generalize g0 l = r0 at *
  generalize g1 l = r1 at *
  generalize g2 l = r2 at *
  generalize g3 l = r3 at *
  have LZ := lies_zero w 27
  have b0 := below_new w (.cells #[.int .u8 0, .int .u8 0, .int .u8 0, .int .u8 0, .int .i16 0] 27)
  unfold opV
  go_enter Tryd.func19, Tryd.ntmps19
  go_wp2_with fail
  refine (HC.out _ ((HT.out).later b0)).mono ?_
  rintro e w1 ⟨rfl, b1⟩
  have B1 := below_up b0 b1
  have LZ1 := LZ.later b1
  go_wp2_with fail
  refine (HO.out _ ((HT.out).later B1)).mono ?_
  rintro e w1' ⟨rfl, rfl⟩
  have LO : Lies (w1.alloc (.cells #[.int .u8 c, .int .u8 0, .int .u8 0, .int .u8 0, .int .i16 0] 27)) w1.heap.size c 0 0 0 0 := lies_new w1 c 0 0 0 0 27
  have b2 := below_new w1 (.cells #[.int .u8 c, .int .u8 0, .int .u8 0, .int .u8 0, .int .i16 0] 27)
  have B2 := below_up B1 b2
  have LZ2 := LZ1.later b2
  have hZO : w.heap.size < w1.heap.size := LZ1.lt
  go_upto_region 3 with fail
  obtain ⟨W2, hW2⟩ : ∃ W, w1.alloc (.cells #[.int .u8 c, .int .u8 0, .int .u8 0, .int .u8 0, .int .i16 0] 27) = W := ⟨_, rfl⟩
  rw [hW2] at LO LZ2 B2
  rw [hW2]
  obtain ⟨O, hO⟩ : ∃ O, w1.heap.size = O := ⟨_, rfl⟩
  rw [hO] at LO hZO
  rw [hO]
  have LO' := Lib.hid LO
  have LZ' := Lib.hid LZ2
  obtain ⟨k0, k1, k2, k3, k4, kl, kf⟩ := LO
  clear hW2 hO LZ LZ1 LZ2 b0 b1 b2 B1
  go_wp2_with fail
  refine (HF.out _).mono ?_
  rintro e w3 ⟨rfl, b3⟩
  have FH := four_new w3 true true true false 68
  have b4 := below_new w3 (.cells #[.bool true, .bool true, .bool true, .bool false] 68)
  have LO4 := ((LO'.out).later b3).later b4
  have LZ4 := ((LZ'.out).later b3).later b4
  have B4 := below_up (below_up B2 b3) b4
  have hOH : O < w3.heap.size := ((LO'.out).later b3).lt
  clear k0 k1 k2 k3 k4 kl kf LO' LZ'
  go_upto_region 4 with fail
  obtain ⟨W4, hW4⟩ : ∃ W, w3.alloc (.cells #[.bool true, .bool true, .bool true, .bool false] 68) = W := ⟨_, rfl⟩
  rw [hW4] at FH LO4 LZ4 B4
  rw [hW4]
  obtain ⟨H, hH⟩ : ∃ H, w3.heap.size = H := ⟨_, rfl⟩
  rw [hH] at FH hOH
  rw [hH]
  have FH' := Lib.hid FH
  have LO' := Lib.hid LO4
  have LZ' := Lib.hid LZ4
  obtain ⟨f0, f1, f2, f3, ff⟩ := FH
  clear hW4 hH b3 b4 LO4 LZ4 B2
  go_wp2_with fail
  refine (HA.out _ ((HT.out).later B4)).mono ?_
  rintro e w6 ⟨rfl, b6⟩
  have LO6 := (LO'.out).later b6
  have LZ6 := (LZ'.out).later b6
  have FH6 := (FH'.out).later b6
  have B6 := below_up B4 b6
  clear f0 f1 f2 f3 ff LO' LZ' FH' B4
  have LO7 := LO6.set1 (a : Nat)
  have LZ7 := LZ6.far (B' := O) (i := 1) (v := .int .u8 (a : Nat)) (by omega)
  have FH7 := FH6.far (B' := O) (i := 1) (v := .int .u8 (a : Nat)) (by omega)
  have B7 := B6.setCell (p := ⟨O, 1, none⟩) (show w.heap.size ≤ O by omega) (.int .u8 (a : Nat))
  obtain ⟨k0, k1, k2, k3, k4, kl, kf⟩ := LO6
  go_upto_region 6 with fail
  obtain ⟨U1, hU1⟩ : ∃ U, w6.setCell ⟨O, 1, none⟩ (.int .u8 (a : Nat)) = U := ⟨_, rfl⟩
  rw [hU1] at LO7 LZ7 FH7 B7
  rw [hU1]
  have FH' := Lib.hid FH7
  have LO' := Lib.hid LO7
  have LZ' := Lib.hid LZ7
  have B4 := B7
  obtain ⟨f0, f1, f2, f3, ff⟩ := FH7
  clear hU1 k0 k1 k2 k3 k4 kl kf LO7 LZ7 LZ6 FH6 B6 B7 b6 w6
  go_wp2_with fail
  refine (HB.out _ ((HT.out).later B4)).mono ?_
  rintro e w6 ⟨rfl, b6⟩
  have LO6 := (LO'.out).later b6
  have LZ6 := (LZ'.out).later b6
  have FH6 := (FH'.out).later b6
  have B6 := below_up B4 b6
  clear f0 f1 f2 f3 ff LO' LZ' FH' B4
  have LO7 := LO6.set2 (b : Nat)
  have LZ7 := LZ6.far (B' := O) (i := 2) (v := .int .u8 (b : Nat)) (by omega)
  have FH7 := FH6.far (B' := O) (i := 2) (v := .int .u8 (b : Nat)) (by omega)
  have B7 := B6.setCell (p := ⟨O, 2, none⟩) (show w.heap.size ≤ O by omega) (.int .u8 (b : Nat))
  obtain ⟨k0, k1, k2, k3, k4, kl, kf⟩ := LO6
  go_upto_region 8 with fail
  obtain ⟨U2, hU2⟩ : ∃ U, w6.setCell ⟨O, 2, none⟩ (.int .u8 (b : Nat)) = U := ⟨_, rfl⟩
  rw [hU2] at LO7 LZ7 FH7 B7
  rw [hU2]
  have FH' := Lib.hid FH7
  have LO' := Lib.hid LO7
  have LZ' := Lib.hid LZ7
  have B4 := B7
  obtain ⟨f0, f1, f2, f3, ff⟩ := FH7
  clear hU2 k0 k1 k2 k3 k4 kl kf LO7 LZ7 LZ6 FH6 B6 B7 b6 w6
  go_wp2_with fail
  refine (HD.out _ ((HT.out).later B4)).mono ?_
  rintro e w6 ⟨rfl, b6⟩
  have LO6 := (LO'.out).later b6
  have LZ6 := (LZ'.out).later b6
  have FH6 := (FH'.out).later b6
  have B6 := below_up B4 b6
  clear f0 f1 f2 f3 ff LO' LZ' FH' B4
  have LO7 := LO6.set3 (d : Nat)
  have LZ7 := LZ6.far (B' := O) (i := 3) (v := .int .u8 (d : Nat)) (by omega)
  have FH7 := FH6.far (B' := O) (i := 3) (v := .int .u8 (d : Nat)) (by omega)
  have B7 := B6.setCell (p := ⟨O, 3, none⟩) (show w.heap.size ≤ O by omega) (.int .u8 (d : Nat))
  obtain ⟨k0, k1, k2, k3, k4, kl, kf⟩ := LO6
  go_upto_region 10 with fail
  obtain ⟨U3, hU3⟩ : ∃ U, w6.setCell ⟨O, 3, none⟩ (.int .u8 (d : Nat)) = U := ⟨_, rfl⟩
  rw [hU3] at LO7 LZ7 FH7 B7
  rw [hU3]
  have FH' := Lib.hid FH7
  have LO' := Lib.hid LO7
  have LZ' := Lib.hid LZ7
  have B4 := B7
  obtain ⟨f0, f1, f2, f3, ff⟩ := FH7
  clear hU3 k0 k1 k2 k3 k4 kl kf LO7 LZ7 LZ6 FH6 B6 B7 b6 w6
  obtain ⟨k0, k1, k2, k3, k4, kl, kf⟩ := LO'.out
  obtain ⟨z0, z1, z2, z3, z4, zl, zf⟩ := LZ'.out
  go_wp2
  refine ret5 (hr := rfl) (hp := rfl) (by simp [z0]) (by simp [z1]) (by simp [z2]) (by simp [z3]) (by simp [z4]) ⟨rfl, ?_⟩
  repeat (first | with_reducible exact B4 | with_reducible refine Below.setCell ?_ (by simp) _)
theorem guess_in (l : List UInt8) (w : World) (hl : l.length ≤ 1000000) (hT : TW w) :
    Calls Tryd.prog 19 #[.string (str l)] w fun e w' => e = .returned (opV (gC l) (gA l) (gB l) (gD l) (gN l)) ∧ Below w.heap.size w w' := by
  rcases kinds' (gC l) with ⟨k1, k2, k3, k4⟩ | ⟨k1, k2, k3, k4⟩ | ⟨k1, k2, k3, k4⟩ | ⟨k1, k2, k3, k4⟩ | ⟨k1, k2, k3, k4⟩
  · exact guess_0 l w hl hT k1 k2 k3 k4
  · exact guess_9 l w hl hT k1 k2 k3 k4
  · exact guess_8 l w hl hT k1 k2 k3 k4
  · exact guess_11 l w hl hT k1 k2 k3 k4
  · exact guess_7 l w hl hT k1 k2 k3 k4
end Go.Proofs.YtclieoeaknlfbaaDoor
