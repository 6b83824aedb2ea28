/-
  TextFaults: the walk.
-/
import Derived.Test.YthgopodjplpefaaDoorTZ
import Derived.Test.YthgopodjplpefaaDoorCN
import Derived.Deep.Slices
import Derived.Deep.Fields
import Derived.Deep.CutBlock
namespace Go.Proofs.YthgopodjplpefaaDoor
open Go.ChangeShapes Go.WideShapes Go.ChangeAt Go.RowKit
open WM CM
set_option maxRecDepth 100000
set_option linter.unusedVariables false
set_option linter.unusedSimpArgs false
/-- Instructions, as a slice of n of them that came in. -/
structure Ops (w : World) (a : Option Addr) (n : Nat) (fC fA fB fD : Nat → Nat) (fN : Nat → Int) : Prop where
  at' : ∀ i, i < n → ∃ b off, a = some ⟨b, off, none⟩ ∧ b < w.heap.size ∧ w.cell? ⟨b, off + i * 5 + 0, none⟩ = some (.int .u8 (fC i)) ∧ w.cell? ⟨b, off + i * 5 + 1, none⟩ = some (.int .u8 (fA i)) ∧ w.cell? ⟨b, off + i * 5 + 2, none⟩ = some (.int .u8 (fB i)) ∧
    w.cell? ⟨b, off + i * 5 + 3, none⟩ = some (.int .u8 (fD i)) ∧ w.cell? ⟨b, off + i * 5 + 4, none⟩ = some (.int .i16 (fN i))
  num : ∀ i, i < n → -32768 ≤ fN i ∧ fN i ≤ 32767
theorem Ops.later {w w' : World} {a : Option Addr} {n : Nat} {fC fA fB fD : Nat → Nat} {fN : Nat → Int} (h : Ops w a n fC fA fB fD fN) (hb : Below w.heap.size w w') : Ops w' a n fC fA fB fD fN :=
  ⟨fun i hi => by
    obtain ⟨b, off, ha, hlt, h0, h1, h2, h3, h4⟩ := h.at' i hi
    exact ⟨b, off, ha, Nat.lt_of_lt_of_le hlt hb.size, (hb.cell hlt).trans h0, (hb.cell hlt).trans h1, (hb.cell hlt).trans h2, (hb.cell hlt).trans h3, (hb.cell hlt).trans h4⟩, h.num⟩
/-- The text of the instruction near the i-th. -/
def nearL (fC fA fB fD : Nat → Nat) (fN : Nat → Int) (i : Nat) : List UInt8 := showL (nC (fC i)) (nA (fC i) (fA i)) (nB (fC i) (fB i)) (nD (fC i) (fD i)) (nN (fC i) (fN i))
theorem nearL_len (fC fA fB fD : Nat → Nat) (fN : Nat → Int) (i : Nat) (h : -32768 ≤ fN i ∧ fN i ≤ 32767) : (nearL fC fA fB fD fN i).length ≤ 50 := show_len _ _ _ _ _ (near_right _ _ _ _ _) (near_n h)
theorem nearL_read (fC fA fB fD : Nat → Nat) (fN : Nat → Int) (i : Nat) (h : -32768 ≤ fN i ∧ fN i ≤ 32767) : readB (nearL fC fA fB fD fN i) = true := back_read _ _ _ _ _ (near_right _ _ _ _ _) (near_n h)
theorem nearL_semi (fC fA fB fD : Nat → Nat) (fN : Nat → Int) (i : Nat) : (59 : UInt8) ∉ nearL fC fA fB fD fN i := show_semi _ _ _ _ _ (Nat.mod_lt _ (by decide))
theorem nearL_trim (p q : Nat) (fC fA fB fD : Nat → Nat) (fN : Nat → Int) (i : Nat) : Lib.trimB (padL p q (nearL fC fA fB fD fN i)) 32 = nearL fC fA fB fD fN i := trim_show _ _ _ _ _ _ _ (Nat.mod_lt _ (by decide))
/-- The lines. -/
def fLine (k : Nat) (g : Nat → List UInt8) (i : Nat) : List UInt8 := if i = k then whatL else g i
def fLines (k : Nat) (g : Nat → List UInt8) (i : Nat) : List (List UInt8) := (List.range i).map fun j => padL (if j = 0 then 0 else 1) 0 (fLine k g j)
theorem fLines_len (k : Nat) (g : Nat → List UInt8) (i : Nat) : (fLines k g i).length = i := by simp [fLines]
theorem fLines_at (k : Nat) (g : Nat → List UInt8) (n i : Nat) (h : i < n) : (fLines k g n)[i]? = some (padL (if i = 0 then 0 else 1) 0 (fLine k g i)) := by simp [fLines, h]
theorem fText_next (k : Nat) (g : Nat → List UInt8) (i : Nat) : joinL (fLines k g (i + 1)) = if i = 0 then fLine k g 0 else joinL (fLines k g i) ++ [59, 32] ++ fLine k g i := by
  have e : fLines k g (i + 1) = fLines k g i ++ [padL (if i = 0 then 0 else 1) 0 (fLine k g i)] := by unfold fLines; rw [List.range_succ, List.map_append]; rfl
  rw [e, join_snoc]
  by_cases h : i = 0
  · subst h; simp [fLines, padL]
  · rw [if_neg h, if_neg (by intro e; have := congrArg List.length e; rw [fLines_len] at this; simp at this; omega), if_neg h]
    simp [padL, List.replicate]
theorem fText_len (k : Nat) (g : Nat → List UInt8) (n : Nat) (hg : ∀ i, i < n → (g i).length ≤ 50) : ∀ i, i ≤ n → (joinL (fLines k g i)).length ≤ 60 * i := by
  intro i
  induction i with
  | zero => intro _; exact Nat.le_refl _
  | succ i ih =>
    intro hi
    have h1 := ih (by omega)
    have h2 : (fLine k g i).length ≤ 50 := by unfold fLine; split; (· decide); (· exact hg i (by omega))
    rw [fText_next]
    split
    · rename_i h; subst h; omega
    · simp only [List.length_append, List.length_cons, List.length_nil]; omega
theorem faults_short (a : Option Addr) (n cap at' : Nat) (w : World) (hn : n = 0 ∨ 20 < n) (hm : n ≤ 9223372036854775807) (hT : TW w) :
    Calls Tryd.prog 6 #[.slice a n cap, .int .u8 at'] w fun e w' => e = .returned (.bool true) ∧ Below w.heap.size w w' := by
  have HA := Lib.hid (fun W hW => awake3_in W hW)
  have HT := Lib.hid hT
  clear hT
  rcases hn with rfl | hn
  · go_enter Tryd.func6, Tryd.ntmps6
    go_wp2_with fail
    refine (HA.out _ HT.out).mono ?_
    rintro e w1 ⟨rfl, b1⟩
    go_wp2_with fail
    refine (HA.out _ ((HT.out).later b1)).mono ?_
    rintro e w2 ⟨rfl, b2⟩
    go_wp2
    go_ret
    exact ⟨rfl, below_up b1 b2⟩
  · have t1 : (20 : Int) < n := by omega
    have t2 : ¬ (n : Int) = 0 := by omega
    have t3 : ¬ n = 0 := by omega
    go_enter Tryd.func6, Tryd.ntmps6
    go_wp2_with fail
    refine (HA.out _ HT.out).mono ?_
    rintro e w1 ⟨rfl, b1⟩
    go_wp2_with fail
    refine (HA.out _ ((HT.out).later b1)).mono ?_
    rintro e w2 ⟨rfl, b2⟩
    go_wp2
    go_ret
    exact ⟨rfl, below_up b1 b2⟩
set_option maxHeartbeats 4000000 in
theorem faults_walk (a : Option Addr) (n cap at' : Nat) (fC fA fB fD : Nat → Nat) (fN : Nat → Int) (w : World) (hO : Ops w a n fC fA fB fD fN) (hn : 0 < n) (hn2 : n ≤ 20) (hat : at' < 256) (hT : TW w) :
    Calls Tryd.prog 6 #[.slice a n cap, .int .u8 at'] w fun e w' => e = .returned (.bool true) ∧ Below w.heap.size w w' := by
  have HA := Lib.hid (fun W hW => awake3_in W hW)
  have HT := Lib.hid hT
  have HO := Lib.hid hO
  have HG := Lib.hid (fun i hi => nearL_len fC fA fB fD fN i (hO.num i hi))
  have htm : Int.tmod (at' : Int) (n : Int) = ((at' % n : Nat) : Int) := by rw [Int.tmod_eq_emod_of_nonneg (by omega)]; rfl
  have hne : (n : Int) ≠ 0 := by omega
  have hne' : ¬ (n : Int) = 0 := hne
  have hkn : at' % n < n := Nat.mod_lt _ hn
  have t1 : ¬ (20 : Int) < n := by omega
  have t0 : ((n : Int) == 0) = false := by rw [beq_eq_false_iff_ne]; omega
  generalize at' % n = k at *
  have HL := Lib.hid (fun W hW => lay_in (fLines k (nearL fC fA fB fD fN) n) k W (by rw [fLines_len]; omega) (by rw [fLines_len]; omega) (by rw [fLines_len]; omega)
    (fun l hl => by
      unfold fLines at hl
      obtain ⟨j, _, rfl⟩ := List.mem_map.1 hl
      apply pad_semi
      unfold fLine
      split
      · exact what_semi
      · exact nearL_semi _ _ _ _ _ _)
    (Nat.le_trans (fText_len k _ n (HG.out) n (Nat.le_refl _)) (by omega))
    (fun j l hj hl => by
      rw [fLines_at _ _ _ _ (by omega)] at hl
      obtain rfl := Option.some.inj hl
      rw [show fLine k (nearL fC fA fB fD fN) j = nearL fC fA fB fD fN j from if_neg (by omega), nearL_trim]
      exact nearL_read _ _ _ _ _ _ (hO.num j (by omega)))
    (fun l hl => by
      rw [fLines_at _ _ _ _ hkn] at hl
      obtain rfl := Option.some.inj hl
      rw [show fLine k (nearL fC fA fB fD fN) k = whatL from if_pos rfl, trim_what]
      exact what_no) hW)
  have HFL := Lib.hid (fun i (hi : i ≤ n) => fText_len k (nearL fC fA fB fD fN) n (HG.out) i hi)
  have HKN := Lib.hid hkn
  clear hT hO hkn
  go_enter Tryd.func6, Tryd.ntmps6
  go_wp2_with fail
  refine (HA.out _ HT.out).mono ?_
  rintro e W0 ⟨rfl, b0⟩
  have B0 := Lib.hid b0
  clear b0
  go_wp2_with fail
  go_loopw [6, 7] (fun s i wr => ∃ j : Nat, j ≤ n ∧ s = .string (str (joinL (fLines k (nearL fC fA fB fD fN) j))) ∧ i = .int .i64 j ∧ Below w.heap.size w wr) (fun _ i _ => (200 - intOf i).toNat)
  case atStart => exact ⟨0, by omega, rfl, rfl, B0.out⟩
  case round =>
    obtain ⟨j, hj, rfl, rfl, hb⟩ := hrel
    have HB := Lib.hid hb
    have hfl := (HFL.out) j hj
    rw [← str_size] at hfl
    obtain ⟨x, hx⟩ : ∃ x, str (joinL (fLines k (nearL fC fA fB fD fN) j)) = x := ⟨_, rfl⟩
    clear hb B0
    by_cases hlt : j < n
    · rw [hx] at hfl ⊢
      have HX := Lib.hid hx
      obtain ⟨b, off, rfl, hbl, c0, c1, c2, c3, c4⟩ := ((HO.out).later (HB.out)).at' j hlt
      have HN := Lib.hid (fun W => near_in (fC j) (fA j) (fB j) (fD j) (fN j) W)
      have HTX := Lib.hid (fun W => reftext_in _ _ _ _ _ W (near_n (c := fC j) ((HO.out).num j hlt)) (near_right (fC j) (fA j) (fB j) (fD j) (fN j)))
      have HNX := Lib.hid (fText_next k (nearL fC fA fB fD fN) j)
      unfold opV at HN
      simp only [Nat.add_zero] at c0
      obtain ⟨g0, g1, g2, g3, g4⟩ := And.intro c0 (And.intro c1 (And.intro c2 (And.intro c3 c4)))
      clear c0 c1 c2 c3 c4 hx
      have HNL : Hid (nearL fC fA fB fD fN j = showL (nC (fC j)) (nA (fC j) (fA j)) (nB (fC j) (fB j)) (nD (fC j) (fD j)) (nN (fC j) (fN j))) := Lib.hid rfl
      generalize fC j = oc at *
      generalize fA j = oa at *
      generalize fB j = ob at *
      generalize fD j = od at *
      generalize fN j = on at *
      generalize nC oc = c' at *
      generalize nA oc oa = a' at *
      generalize nB oc ob = b' at *
      generalize nD oc od = d' at *
      generalize nN oc on = n' at *
      have hyl : (str (nearL fC fA fB fD fN j)).size ≤ 50 := by rw [str_size]; exact (HG.out) j hlt
      rw [HNL.out] at hyl
      obtain ⟨y, hy⟩ : ∃ y, str (showL c' a' b' d' n') = y := ⟨_, rfl⟩
      rw [hy] at HTX hyl
      have HYY := Lib.hid hy
      clear hy
      by_cases h0 : j = 0
      · by_cases hk : j = k
        · have z1 : ¬ (0 : Int) < j := by omega
          have z2 : ¬ 0 < j := by omega
          have z3 : ((j : Int) == (k : Int)) = true := by simp; omega
          have HQ : Hid (x ++ ⟨#[119, 104, 97, 116]⟩ = str (joinL (fLines k (nearL fC fA fB fD fN) (j + 1)))) := Lib.hid (by
            rw [HNX.out, if_pos h0]
            have hx0 : x = str [] := by rw [← HX.out, h0]; rfl
            rw [hx0]
            rw [show fLine k (nearL fC fA fB fD fN) 0 = whatL from if_pos (by omega)]
            exact str_app [] whatL)
          clear h0 hk
          go_wp2_with fail
          refine (HN.out _).mono ?_
          rintro e W1 ⟨rfl, b1⟩
          obtain ⟨k0, k1, k2, k3, k4, kl, kf⟩ := lies_new W1 c' a' b' d' n' 24
          have B1 := Lib.hid (below_more (below_up (HB.out) b1) (.cells #[.int .u8 c', .int .u8 a', .int .u8 b', .int .u8 d', .int .i16 n'] 24))
          clear b1 g0 g1 g2 g3 g4
          go_wp2
          go_roundw
          case rel => exact ⟨j + 1, by omega, congrArg Value.string (HQ.out), by go_num, B1.out⟩
          case measure => simp [intOf]; omega
        · have z1 : ¬ (0 : Int) < j := by omega
          have z2 : ¬ 0 < j := by omega
          have z3 : ((j : Int) == (k : Int)) = false := by rw [beq_eq_false_iff_ne]; omega
          have HQ : Hid (x ++ y = str (joinL (fLines k (nearL fC fA fB fD fN) (j + 1)))) := Lib.hid (by
            rw [HNX.out, if_pos h0]
            have hx0 : x = str [] := by rw [← HX.out, h0]; rfl
            rw [hx0]
            rw [show fLine k (nearL fC fA fB fD fN) 0 = nearL fC fA fB fD fN j from by rw [h0]; exact if_neg (by omega), HNL.out, ← HYY.out]
            exact str_app [] _)
          clear h0 hk
          go_wp2_with fail
          refine (HN.out _).mono ?_
          rintro e W1 ⟨rfl, b1⟩
          obtain ⟨k0, k1, k2, k3, k4, kl, kf⟩ := lies_new W1 c' a' b' d' n' 24
          have B1 := Lib.hid (below_more (below_up (HB.out) b1) (.cells #[.int .u8 c', .int .u8 a', .int .u8 b', .int .u8 d', .int .i16 n'] 24))
          clear b1 g0 g1 g2 g3 g4
          go_wp2_with fail
          refine (HTX.out _).mono ?_
          rintro e W2 ⟨rfl, b2⟩
          have B2 := Lib.hid (below_up (B1.out) b2)
          clear b2 k0 k1 k2 k3 k4 kl kf B1
          go_wp2
          go_roundw
          case rel => exact ⟨j + 1, by omega, congrArg Value.string (HQ.out), by go_num, B2.out⟩
          case measure => simp [intOf]; omega
      · by_cases hk : j = k
        · have z1 : (0 : Int) < j := by omega
          have z2 : 0 < j := by omega
          have z3 : ((j : Int) == (k : Int)) = true := by simp; omega
          have HQ : Hid (x ++ ⟨#[59, 32]⟩ ++ ⟨#[119, 104, 97, 116]⟩ = str (joinL (fLines k (nearL fC fA fB fD fN) (j + 1)))) := Lib.hid (by
            rw [HNX.out, if_neg h0]
            rw [show fLine k (nearL fC fA fB fD fN) j = whatL from if_pos hk, ← HX.out, ← str_app, ← str_app]
            rfl)
          clear h0 hk
          go_wp2_with fail
          refine (HN.out _).mono ?_
          rintro e W1 ⟨rfl, b1⟩
          obtain ⟨k0, k1, k2, k3, k4, kl, kf⟩ := lies_new W1 c' a' b' d' n' 24
          have B1 := Lib.hid (below_more (below_up (HB.out) b1) (.cells #[.int .u8 c', .int .u8 a', .int .u8 b', .int .u8 d', .int .i16 n'] 24))
          clear b1 g0 g1 g2 g3 g4
          go_wp2
          go_roundw
          case rel => exact ⟨j + 1, by omega, congrArg Value.string (HQ.out), by go_num, B1.out⟩
          case measure => simp [intOf]; omega
        · have z1 : (0 : Int) < j := by omega
          have z2 : 0 < j := by omega
          have z3 : ((j : Int) == (k : Int)) = false := by rw [beq_eq_false_iff_ne]; omega
          have HQ : Hid (x ++ ⟨#[59, 32]⟩ ++ y = str (joinL (fLines k (nearL fC fA fB fD fN) (j + 1)))) := Lib.hid (by
            rw [HNX.out, if_neg h0]
            rw [show fLine k (nearL fC fA fB fD fN) j = nearL fC fA fB fD fN j from if_neg hk, HNL.out, ← HYY.out, ← HX.out, ← str_app, ← str_app]
            rfl)
          clear h0 hk
          go_wp2_with fail
          refine (HN.out _).mono ?_
          rintro e W1 ⟨rfl, b1⟩
          obtain ⟨k0, k1, k2, k3, k4, kl, kf⟩ := lies_new W1 c' a' b' d' n' 24
          have B1 := Lib.hid (below_more (below_up (HB.out) b1) (.cells #[.int .u8 c', .int .u8 a', .int .u8 b', .int .u8 d', .int .i16 n'] 24))
          clear b1 g0 g1 g2 g3 g4
          go_wp2_with fail
          refine (HTX.out _).mono ?_
          rintro e W2 ⟨rfl, b2⟩
          have B2 := Lib.hid (below_up (B1.out) b2)
          clear b2 k0 k1 k2 k3 k4 kl kf B1
          go_wp2
          go_roundw
          case rel => exact ⟨j + 1, by omega, congrArg Value.string (HQ.out), by go_num, B2.out⟩
          case measure => simp [intOf]; omega
    · obtain rfl : j = n := by omega
      rw [hx]
      rw [hx] at HL
      clear hx hfl hlt
      go_wp2_with fail
      refine (HL.out _ ((HT.out).later (HB.out))).mono ?_
      rintro e W1 ⟨b1, ⟨_, rfl⟩ | ⟨hk', _⟩⟩
      · have B1 := below_up (HB.out) b1
        go_wp2
        go_ret
        exact ⟨rfl, B1⟩
      · rw [fLines_len] at hk'
        exact absurd (HKN.out) (by omega)
end Go.Proofs.YthgopodjplpefaaDoor
