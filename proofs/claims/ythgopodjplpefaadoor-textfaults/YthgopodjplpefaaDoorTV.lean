/-
  The law TextLists, walked: any bytes as lines.
-/
import Derived.Test.YthgopodjplpefaaDoorTL
namespace Go.Proofs.YthgopodjplpefaaDoor
open Go.ChangeShapes Go.WideShapes Go.ChangeAt Go.RowKit
open WM CM
set_option maxRecDepth 100000
set_option linter.unusedVariables false
set_option linter.unusedSimpArgs false
theorem own_form {w : World} {base e k : Nat} {v : Value} {xs : List Value} (h : w.ownsRow base e 1 v k xs) :
    ∃ A c, v = .slice A k c ∧ ∀ j u, j < k → xs[j]? = some u → ∃ g, A = some ⟨g, 0, none⟩ ∧ w.cell? ⟨g, j, none⟩ = some u := by
  obtain ⟨_, ⟨rfl, rfl⟩ | ⟨g, cap, cur, rfl, hb, hg, hnc, hm, hsz, ht⟩⟩ := h
  · exact ⟨none, 0, rfl, fun j u hj => by omega⟩
  · refine ⟨_, cap, rfl, fun j u hj hu => ⟨g, rfl, ?_⟩⟩
    rw [← ht, List.getElem?_take, if_pos (by omega)] at hu
    simp [World.cell?, hg]
    simpa using hu
theorem linesV_at (f : Nat → Nat) (k j : Nat) (h : j < k) : (linesV f k)[j]? = some (.string (str (lineL (word4 f (4 * j))))) := by simp [linesV, h]
set_option maxHeartbeats 4000000 in
theorem lists_walk (a : Option Addr) (n cap : Nat) (f : Nat → Nat) (w : World) (hb : BytesAt w a n f) (hf : ∀ i, f i < 256) (hc : n ≤ cap) (hn : n ≤ 100) (hT : TW w) :
    Calls Tryd.prog 7 #[.slice a n cap] w fun e w' => e = .returned (.bool true) ∧ Below w.heap.size w w' := by
  have HA := Lib.hid (awake3_in w hT)
  have HB := Lib.hid hb
  have HF := Lib.hid hf
  have HT := Lib.hid hT
  clear hb hf hT
  go_enter Tryd.func7, Tryd.ntmps7
  go_wp2_with fail
  refine (HA.out).mono ?_
  rintro e w1 ⟨rfl, b1⟩
  have HL := Lib.hid (list_in a n cap f w1 ((HB.out).kept b1) HF.out hc (by omega) ((HT.out).later b1))
  go_wp2_with fail
  refine (HL.out).mono ?_
  rintro e w2 ⟨v, rfl, ho, b2⟩
  obtain ⟨k, hk⟩ : ∃ k, n / 4 = k := ⟨_, rfl⟩
  rw [hk] at ho
  obtain ⟨A, c, rfl, hfm⟩ := own_form ho
  have HM := Lib.hid hfm
  have B2 := below_up b1 b2
  have t1 : ((k : Int) != (n : Int) / 4) = false := by simp; omega
  have hk4 : 4 * k ≤ n := by omega
  clear ho hfm hk b1 b2 HL HA
  go_wp2_with fail
  go_loopw [4] (fun i wr => ∃ j : Nat, j ≤ k ∧ i = .int .i64 j ∧ Below w2.heap.size w2 wr) (fun i _ => k - (intOf i).toNat)
  case atStart => exact ⟨0, by omega, rfl, Below.refl _ _⟩
  case round =>
    obtain ⟨j, hj, rfl, hbw⟩ := hrel
    have HBW := Lib.hid hbw
    clear hbw
    by_cases hlt : j < k
    · have bW := below_up B2 HBW.out
      obtain ⟨g, rfl, hcg⟩ := (HM.out) j _ hlt (linesV_at f k j hlt)
      have lg := (HBW.out.cell (p := ⟨g, j, none⟩) (World.block_lt_of_cell? w2 ⟨g, j, none⟩ hcg)).trans hcg
      have cc : ∀ i, i < 4 → ∃ b o, a = some ⟨b, o, none⟩ ∧ wr.cell? ⟨b, o + (4 * j + i), none⟩ = some (Value.int .u8 (f (4 * j + i) : Nat)) := fun i hi => (HB.out).kept bW (4 * j + i) (by omega)
      obtain ⟨b, o, rfl, c0⟩ := cc 0 (by decide)
      have cc' : ∀ i, i < 4 → wr.cell? ⟨b, o + (4 * j + i), none⟩ = some (Value.int .u8 (f (4 * j + i) : Nat)) := fun i hi => by
        obtain ⟨b', o', e, hcl⟩ := cc i hi
        injection e with e
        injection e with e1 e2
        subst e1 e2
        exact hcl
      have c1 := cc' 1 (by decide)
      have c2 := cc' 2 (by decide)
      have c3 := cc' 3 (by decide)
      simp only [Nat.add_zero] at c0
      have q0 := HF.out (4 * j)
      have q1 := HF.out (4 * j + 1)
      have q2 := HF.out (4 * j + 2)
      have q3 := HF.out (4 * j + 3)
      have hX := word4_lt f (4 * j) HF.out
      have hW : word4 f (4 * j) = f (4 * j) + f (4 * j + 1) * 256 + f (4 * j + 2) * 65536 + f (4 * j + 3) * 16777216 := rfl
      obtain ⟨x0, hx0⟩ : ∃ x, f (4 * j) = x := ⟨_, rfl⟩
      obtain ⟨x1, hx1⟩ : ∃ x, f (4 * j + 1) = x := ⟨_, rfl⟩
      obtain ⟨x2, hx2⟩ : ∃ x, f (4 * j + 2) = x := ⟨_, rfl⟩
      obtain ⟨x3, hx3⟩ : ∃ x, f (4 * j + 3) = x := ⟨_, rfl⟩
      rw [hx0, hx1, hx2, hx3] at hW
      rw [hx0] at q0 c0
      rw [hx1] at q1 c1
      rw [hx2] at q2 c2
      rw [hx3] at q3 c3
      have HE := Lib.hid ((or4 x0 x1 x2 x3 q0 q1 q2 q3).trans (congrArg (fun x : Nat => (x : Int)) hW.symm))
      have e0 : IntKind.i64.wrap (4 * (j : Int)) = 4 * (j : Int) := IntWalk.i64_in _ (by omega)
      have e1 : IntKind.i64.wrap (4 * (j : Int) + 1) = 4 * (j : Int) + 1 := IntWalk.i64_in _ (by omega)
      have e2 : IntKind.i64.wrap (4 * (j : Int) + 2) = 4 * (j : Int) + 2 := IntWalk.i64_in _ (by omega)
      have e3 : IntKind.i64.wrap (4 * (j : Int) + 3) = 4 * (j : Int) + 3 := IntWalk.i64_in _ (by omega)
      have n0 : (4 * (j : Int)).toNat = 4 * j := by omega
      have n1 : (4 * (j : Int) + 1).toNat = 4 * j + 1 := by omega
      have n2 : (4 * (j : Int) + 2).toNat = 4 * j + 2 := by omega
      have n3 : (4 * (j : Int) + 3).toNat = 4 * j + 3 := by omega
      have p0 : (0 : Int) ≤ 4 * (j : Int) := by omega
      have p1 : (0 : Int) ≤ 4 * (j : Int) + 1 := by omega
      have p2 : (0 : Int) ≤ 4 * (j : Int) + 2 := by omega
      have p3 : (0 : Int) ≤ 4 * (j : Int) + 3 := by omega
      have r0 : 4 * (j : Int) < n := by omega
      have r1 : 4 * (j : Int) + 1 < n := by omega
      have r2 : 4 * (j : Int) + 2 < n := by omega
      have r3 : 4 * (j : Int) + 3 < n := by omega
      clear hx0 hx1 hx2 hx3 hW cc cc' hcg
      go_wp2_with fail
      go_quiet (fail)
      rw [HE.out]
      clear e0 e1 e2 e3 n0 n1 n2 n3 p0 p1 p2 p3 r0 r1 r2 r3 HE c0 c1 c2 c3 q0 q1 q2 q3
      obtain ⟨y, hy⟩ : ∃ y, str (lineL (word4 f (4 * j))) = y := ⟨_, rfl⟩
      rw [hy] at lg
      have hyl : lineL (word4 f (4 * j)) = if isW (word4 f (4 * j)) then showL (pC (word4 f (4 * j))) (pA (word4 f (4 * j))) (pB (word4 f (4 * j))) (pD (word4 f (4 * j))) (pN (word4 f (4 * j))) else [63] := rfl
      rw [hyl] at hy
      clear hyl
      generalize word4 f (4 * j) = X at *
      have b5 : Below w2.heap.size w2 (wr.drewN nq) := below_draws HBW.out nq
      cases hi : isW X
      · have HD := Lib.hid (decode_no X (wr.drewN nq) hX hi)
        rw [hi] at hy
        have hy' : y = ⟨#[63]⟩ := hy.symm
        subst hy'
        clear hy hi
        unfold opV at HD
        go_wp2_with fail
        refine (HD.out).mono ?_
        rintro e w5 ⟨rfl, b5'⟩
        have b6 := below_up b5 b5'
        have lg5 := (b5'.cell (p := ⟨g, j, none⟩) (World.block_lt_of_cell? wr ⟨g, j, none⟩ lg)).trans lg
        have b7 := below_more b6 (.cells #[.int .u8 0, .int .u8 0, .int .u8 0, .int .u8 0, .int .i16 0] 24)
        have hgl := World.block_lt_of_cell? w5 ⟨g, j, none⟩ lg5
        have tt : ((⟨#[63]⟩ : ByteArray).toList != (⟨#[63]⟩ : ByteArray).toList) = false := by simp
        clear b5' HD
        go_wp2
        go_roundw
        case rel => exact ⟨j + 1, by omega, by go_num, b7⟩
        case measure => simp [intOf]; omega
      · have HD := Lib.hid (decode_yes X (wr.drewN nq) hX hi)
        rw [hi] at hy
        have hr : rightB (pC X) (pA X) (pB X) (pD X) (pN X) = true := by
          unfold isW at hi
          simp only [Bool.and_eq_true] at hi
          exact hi.1
        have hpn : -32768 ≤ pN X ∧ pN X ≤ 32767 := by
          unfold pN sgn
          split
          · omega
          · split <;> omega
        have HS := Lib.hid (fun V => reftext_in (pC X) (pA X) (pB X) (pD X) (pN X) V hpn hr)
        have hy' : str (showL (pC X) (pA X) (pB X) (pD X) (pN X)) = y := hy
        rw [hy'] at HS
        clear hy hi hr hpn hy'
        unfold opV at HD
        generalize pC X = pc at *
        generalize pA X = pa at *
        generalize pB X = pb at *
        generalize pD X = pd at *
        generalize pN X = pn at *
        go_wp2_with fail
        refine (HD.out).mono ?_
        rintro e w5 ⟨rfl, b5'⟩
        have b6 := below_up b5 b5'
        have lg5 := (b5'.cell (p := ⟨g, j, none⟩) (World.block_lt_of_cell? wr ⟨g, j, none⟩ lg)).trans lg
        have b7 := below_more b6 (.cells #[.int .u8 pc, .int .u8 pa, .int .u8 pb, .int .u8 pd, .int .i16 pn] 24)
        have bn := below_new w5 (.cells #[.int .u8 pc, .int .u8 pa, .int .u8 pb, .int .u8 pd, .int .i16 pn] 24)
        have lg6 := (bn.cell (p := ⟨g, j, none⟩) (World.block_lt_of_cell? w5 ⟨g, j, none⟩ lg5)).trans lg5
        have LG := Lib.hid lg6
        obtain ⟨k0, k1, k2, k3, k4, kl, kf⟩ := lies_new w5 pc pa pb pd pn 24
        clear b5' HD lg5 bn lg6
        go_wp2_with fail
        refine (HS.out _).mono ?_
        rintro e w6 ⟨rfl, b6'⟩
        have lg7 := (b6'.cell (p := ⟨g, j, none⟩) (World.block_lt_of_cell? _ ⟨g, j, none⟩ LG.out)).trans LG.out
        have b8 := below_up b7 b6'
        have tt : (y.toList != y.toList) = false := by simp
        clear k0 k1 k2 k3 k4 kl kf b6' b7 LG
        go_wp2
        go_roundw
        case rel => exact ⟨j + 1, by omega, by go_num, b8⟩
        case measure => simp [intOf]; omega
    · obtain rfl : j = k := by omega
      have bW := below_up B2 HBW.out
      go_wp2
      go_ret
      exact ⟨rfl, bW⟩
theorem lists_long (a : Option Addr) (n cap : Nat) (w : World) (hn : ¬ n ≤ 100) (hm : n ≤ 9223372036854775807) (hT : TW w) :
    Calls Tryd.prog 7 #[.slice a n cap] w fun e w' => e = .returned (.bool true) ∧ Below w.heap.size w w' := by
  have HA := Lib.hid (fun W hW => awake3_in W hW)
  have HT := Lib.hid hT
  have t1 : (100 : Int) < n := by omega
  clear hT
  go_enter Tryd.func7, Tryd.ntmps7
  go_wp2_with fail
  refine (HA.out _ HT.out).mono ?_
  rintro e w1 ⟨rfl, b1⟩
  go_wp2_with fail
  refine (HA.out _ ((HT.out).later b1)).mono ?_
  rintro e w2 ⟨rfl, b2⟩
  go_wp2
  go_ret
  exact ⟨rfl, below_up b1 b2⟩
end Go.Proofs.YthgopodjplpefaaDoor
