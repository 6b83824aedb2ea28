/-
  The walk of LeaseFull.
-/
import Derived.Test.YthafcgppopfdkaaHH
namespace Go.Proofs.Ythafcgppopfdkaa
open Go.ChangeShapes Go.WideShapes Go.ChangeAt Go.RowKit
set_option maxRecDepth 100000
set_option linter.unusedVariables false

/-- The first k leases, all alike. -/
def fbN (x : LsV) (k i : Nat) : LsV := if i < k then x else LsV.zero
theorem fbN_first (x : LsV) (hx : x.on = true) (k : Nat) (hk : k < 16) : fstB (freeB (fbN x k)) 16 = (k : Nat) :=
  fstB_is hk (by unfold freeB fbN; rw [if_neg (by omega)]; rfl) (fun i hi => by unfold freeB fbN; rw [if_pos hi, hx]; rfl)
theorem fbN_full (x : LsV) (hx : x.on = true) : fstB (freeB (fbN x 16)) 16 = -1 := fstB_no (fun i hi => by unfold freeB fbN; rw [if_pos hi, hx]; rfl)
theorem fbN_step (x : LsV) (k : Nat) : BKA (updA (fbN x k) k x) = BKA (fbN x (k + 1)) := BKA_congr fun i _ => by
  unfold updA
  by_cases h : i = k
  · subst h; rw [if_pos rfl]; unfold fbN; rw [if_pos (by omega)]
  · rw [if_neg h]
    unfold fbN
    by_cases h2 : i < k
    · rw [if_pos h2, if_pos (by omega)]
    · rw [if_neg h2, if_neg (by omega)]
theorem fbN_zero (x : LsV) : BKA (fbN x 0) = BKA zB := BKA_congr fun i _ => by unfold fbN zB; rw [if_neg (by omega)]
theorem fbN_gap (x : LsV) (hx : x.on = true) (a : Nat) (ha : a < 16) : fstB (freeB (updA (fbN x 16) a LsV.zero)) 16 = (a : Nat) :=
  fstB_is ha (by unfold freeB; rw [updA_same]; rfl) (fun i hi => by unfold freeB; rw [updA_other _ _ _ _ (by omega)]; unfold fbN; rw [if_pos (by omega), hx]; rfl)
theorem badO_no {f p t : Int} (h1 : 0 ≤ f ∧ f < 6) (h2 : 0 ≤ t ∧ t < 6) (h3 : 0 ≤ p ∧ p < 32) (h4 : ¬ f = t) : badO f p t = false := by
  unfold badO; rw [decide_eq_true h1, decide_eq_true h2, decide_eq_true h3, decide_eq_false h4]; rfl
set_option maxHeartbeats 4000000 in
theorem leaseFull_core (vm pg at_ : Nat) (h1 : vm < 256) (h2 : pg < 256) (h3 : at_ < 256) (w : World) :
    Calls Try.prog 9 #[.int .u8 vm, .int .u8 pg, .int .u8 at_] w fun e w' => e = .returned (.bool true) ∧ Below w.heap.size w w' := by
  have HZ := zeroB_run
  have HY := zeroL_run
  have HA := Lib.hid awake14_in
  rw [zB_is] at HZ
  have o1 := Lib.hid (ob_new (Below.refl w.heap.size w) 44 (BKA zB))
  go_enter Try.func9, Try.ntmps9
  go_upto_region 3 with fail
  generalize w.alloc (.cells (BKA zB) 44) = V at *
  go_wp2_with fail
  obtain ⟨v, hv⟩ : ∃ v : Nat, vm % 6 = v := ⟨_, rfl⟩
  have hvi : (vm : Int) % 6 = (v : Nat) := by omega
  have v6 : v < 6 := by omega
  have v0 : (0 : Int) ≤ (v : Int) ∧ (v : Int) < 6 := by omega
  obtain ⟨v0, v5⟩ := v0
  rw [hvi]
  clear hv hvi
  have HO := Lib.hid (fun k (hk : k < 16) => offer_yes (fbN (newLs v ((pg : Int) % 32) (((v : Int) + 1) % 6) true) k) v ((pg : Int) % 32) (((v : Int) + 1) % 6) true (badO_no ⟨v0, v5⟩ (by omega) (by omega) (by omega)) hk (fbN_first _ rfl k hk))
  have HF := Lib.hid (offer_full (fbN (newLs v ((pg : Int) % 32) (((v : Int) + 1) % 6) true) 16) v 0 (((v : Int) + 1) % 6) true (badO_no ⟨v0, v5⟩ (by omega) (by omega) (by omega)) (fbN_full _ rfl))
  obtain ⟨ai, hai⟩ : ∃ a : Nat, at_ % 16 = a := ⟨_, rfl⟩
  have haI : (at_ : Int) % 16 = (ai : Nat) := by omega
  have a16 : ai < 16 := by omega
  have a0 : (0 : Int) ≤ (ai : Int) := by omega
  have a15 : (ai : Int) < 16 := by omega
  have HAI := Lib.hid haI
  have HS := Lib.hid (fun k => fbN_step (newLs v ((pg : Int) % 32) (((v : Int) + 1) % 6) true) k)
  have HW := Lib.hid (withdraw_in (fbN (newLs v ((pg : Int) % 32) (((v : Int) + 1) % 6) true) 16) ai v)
  have ew : witE (fbN (newLs v ((pg : Int) % 32) (((v : Int) + 1) % 6) true) 16) ai v = 0 := by
    have e1 : fbN (newLs v ((pg : Int) % 32) (((v : Int) + 1) % 6) true) 16 ai = newLs v ((pg : Int) % 32) (((v : Int) + 1) % 6) true := if_pos a16
    have e2 : okB (fbN (newLs v ((pg : Int) % 32) (((v : Int) + 1) % 6) true) 16) ai = true := by
      unfold okB
      rw [decide_eq_true ⟨a0, a15⟩, Int.toNat_natCast, e1]; rfl
    rw [witE_at, if_neg (by rw [e2]; simp), e1, if_neg (fun h => h rfl), if_neg (by show ¬ (0 : Int) ≤ -1; omega)]
  have ewb : witB (fbN (newLs v ((pg : Int) % 32) (((v : Int) + 1) % 6) true) 16) ai v = updA (fbN (newLs v ((pg : Int) % 32) (((v : Int) + 1) % 6) true) 16) ai LsV.zero := by rw [witB_at, ew, if_pos rfl]
  rw [ew, ewb] at HW
  have HD := Lib.hid (offer_yes (updA (fbN (newLs v ((pg : Int) % 32) (((v : Int) + 1) % 6) true) 16) ai LsV.zero) v 0 (((v : Int) + 2) % 6) false (badO_no ⟨v0, v5⟩ (by omega) (by omega) (by omega)) a16 (fbN_gap _ rfl ai a16))
  have HG := Lib.hid (get_yes (b := updA (updA (fbN (newLs v ((pg : Int) % 32) (((v : Int) + 1) % 6) true) 16) ai LsV.zero) ai (newLs v 0 (((v : Int) + 2) % 6) false)) a16 (by rw [updA_same]; rfl))
  rw [updA_same] at HG
  have o2 := o1.out
  rw [← fbN_zero (newLs v ((pg : Int) % 32) (((v : Int) + 1) % 6) true)] at o2
  have O2 := Lib.hid o2
  clear ew ewb hai haI o1 o2
  generalize newLs v ((pg : Int) % 32) (((v : Int) + 1) % 6) true = x at *
  go_loopw [9, 10, 11, 12] (fun i _ _ _ wr => ∃ k : Nat, k ≤ 16 ∧ i = .int .i64 k ∧ OB w wr w.heap.size 44 (BKA (fbN x k))) (fun i _ _ _ _ => 16 - (intOf i).toNat)
  case atStart => exact ⟨0, by omega, rfl, O2.out⟩
  case round =>
    clear O2
    obtain ⟨k, hk, rfl, h0⟩ := hrel
    have H0 := Lib.hid h0
    clear h0
    by_cases hlt : k < 16
    · have k1 : (k : Int) < 16 := by omega
      have HK := Lib.hid ((HO.out) k hlt)
      have hs := (HS.out) k
      rw [hs] at HK
      have z1 : ((k : Int) != (k : Int)) = false := by simp
      clear hs
      go_wp2_with (refine wpList_ldB rfl (.tmp 7) rfl w.heap.size rfl 44 (fbN x k) (H0.out).bl ?_)
      refine (HK.out _).mono ?_
      rintro e w2 ⟨rfl, b2⟩
      have H2 := Lib.hid ((H0.out).below b2)
      have H3 := Lib.hid ((H2.out).below (lay_below w2 44 (BKA zB) (BKA (fbN x (k + 1)))))
      have N3 := Lib.hid (ob_lay (H2.out).bel 44 (BKA zB) (BKA (fbN x (k + 1))))
      have Z3 := Lib.hid (bl_new w2 44 (BKA zB))
      have H4 := Lib.hid ((H3.out).put (BKA (fbN x (k + 1))))
      clear H0 HK b2 H2
      go_wp2_with (first
        | (refine wpList_stB rfl (.tmp 10) (.tmp 40) rfl w2.heap.size rfl 44 zB (fbN x (k + 1)) rfl Z3.out ?_)
        | (refine wpList_ldB rfl (.tmp 10) rfl w2.heap.size rfl 44 (fbN x (k + 1)) (N3.out).bl ?_)
        | (refine wpList_stB rfl (.tmp 7) (.tmp 50) rfl w.heap.size rfl 44 (fbN x k) (fbN x (k + 1)) rfl (H3.out).bl ?_))
      go_roundw
      case rel => exact ⟨k + 1, by omega, by go_num, H4.out⟩
      case measure => simp [intOf]; omega
    · obtain rfl : k = 16 := by omega
      clear HS HO
      go_wp2_with (refine wpList_ldB rfl (.tmp 7) rfl w.heap.size rfl 44 (fbN x 16) (H0.out).bl ?_)
      refine (HF.out _).mono ?_
      rintro e w2 ⟨rfl, b2⟩
      have H2 := Lib.hid (((H0.out).below b2).below (lay_below w2 44 (BKA zB) (BKA (fbN x 16))))
      have Z2 := Lib.hid (bl_new w2 44 (BKA zB))
      clear H0 HF b2
      generalize fbN x 16 = full at *
      go_wp2_with (first
        | (refine wpList_stB rfl (.tmp 13) (.tmp 58) rfl w2.heap.size rfl 44 zB full rfl Z2.out ?_)
        | (refine wpList_ldB rfl (.tmp 7) rfl w.heap.size rfl 44 full (H2.out).bl ?_))
      rw [HAI.out]
      refine (HW.out _).mono ?_
      rintro e w3 ⟨rfl, b3⟩
      generalize updA full ai LsV.zero = gap at *
      have H3 := Lib.hid ((H2.out).below b3)
      have N3 := Lib.hid (ob_lay (H3.out).bel 44 (BKA zB) (BKA gap))
      have Z3 := Lib.hid (bl_new w3 44 (BKA zB))
      clear H2 HW b3 Z2
      go_wp2_with (first
        | (refine wpList_stB rfl (.tmp 16) (.tmp 68) rfl w3.heap.size rfl 44 zB gap rfl Z3.out ?_)
        | (refine wpList_ldB rfl (.tmp 16) rfl w3.heap.size rfl 44 gap (N3.out).bl ?_))
      refine (HD.out _).mono ?_
      rintro e w4 ⟨rfl, b4⟩
      generalize updA gap ai (newLs (v : Int) 0 (((v : Int) + 2) % 6) false) = fin at *
      have H4 := Lib.hid ((N3.out).below b4)
      have N4 := Lib.hid (ob_lay (H4.out).bel 44 (BKA zB) (BKA fin))
      have Z4 := Lib.hid (bl_new w4 44 (BKA zB))
      clear H3 N3 HD b4 Z3
      go_wp2_with (first
        | (refine wpList_stB rfl (.tmp 18) (.tmp 77) rfl w4.heap.size rfl 44 zB fin rfl Z4.out ?_)
        | (refine wpList_ldB rfl (.tmp 18) rfl w4.heap.size rfl 44 fin (N4.out).bl ?_))
      refine (HG.out _).mono ?_
      rintro e w5 ⟨rfl, b5⟩
      have H5 := Lib.hid ((N4.out).below b5)
      have N5 := Lib.hid (ob_lay (H5.out).bel 42 LsV.zero.cells (newLs (v : Int) 0 (((v : Int) + 2) % 6) false).cells)
      have Z5 := Lib.hid (newL w5 LsV.zero)
      clear H4 N4 HG b5 Z4
      go_wp2_with (refine wpList_stL rfl (.tmp 21) (.tmp 84) rfl w5.heap.size rfl LsV.zero (newLs (v : Int) 0 (((v : Int) + 2) % 6) false) rfl Z5.out ?_)
      refine (HA.out _).mono ?_
      rintro e w6 ⟨rfl, b6⟩
      have N6 := Lib.hid ((N5.out).below b6)
      have c3 : w6.cell? ⟨w5.heap.size, 3, none⟩ = some (.int .i64 (((v : Int) + 2) % 6)) := (N6.out).bl.cell 3
      have c5 : w6.cell? ⟨w5.heap.size, 5, none⟩ = some (.int .i64 (-1)) := (N6.out).bl.cell 5
      have z1 : ((ai : Int) == (at_ : Int) % 16) = true := by have := HAI.out; simp; omega
      clear N5 Z5 b6
      go_wp2
      go_ret
      exact ⟨rfl, (N6.out).bel⟩
end Go.Proofs.Ythafcgppopfdkaa
