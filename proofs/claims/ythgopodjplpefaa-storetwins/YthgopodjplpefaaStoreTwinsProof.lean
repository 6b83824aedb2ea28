/-
  PROVED: for every two lists of bytes p and q and every n and m the law StoreTwins returns true: another one like it goes its own way; are two alike?; and p and q read as they did.
-/
import Derived.Test.YthgopodjplpefaaRows
import Derived.Test.YthgopodjplpefaaWM
import Derived.Test.YthgopodjplpefaaWC
import Derived.Test.YthgopodjplpefaaWB
import Derived.Test.YthgopodjplpefaaLT
import Derived.Test.YthgopodjplpefaaSM
import Derived.Test.YthgopodjplpefaaSC
import Derived.Test.YthgopodjplpefaaSD
import Derived.WalkKit
import Derived.ProofKit
import Derived.OpenShut
import Derived.ShutString
import Derived.ChangeOld
import Derived.Below
import Derived.Deep.Cut
namespace Go.Proofs.Ythgopodjplpefaa.storeTwins
open Go.Proofs.Ythgopodjplpefaa Go.Proofs.Ythgopodjplpefaa.WM
open Go.ChangeShapes Go.WideShapes Go.ChangeAt Go.RowKit
open Go.ChangeMaps (open_string shut_string)
set_option linter.unusedVariables false

theorem own : ownKnob Try.prog.godebug = none := by kernel_rfl
theorem laidOut : laidOutB Try.prog = true := by kernel_rfl
theorem wf_i64 {a : Int} (h : (Lit.int .i64 a).wf = true) : -9223372036854775808 ≤ a ∧ a ≤ 9223372036854775807 := by
  simp only [Lit.wf, IntKind.min, IntKind.max, IntKind.signed, IntKind.bits, Bool.and_eq_true, decide_eq_true_eq] at h
  simp at h
  omega
/-- What the walk is told of a slice of integers that came in: it is nil, or it leads to a row of as many cells as its capacity says. -/
def IsRow (k : IntKind) (w : World) (a : Option Addr) (len cap : Nat) (zs : List Int) : Prop :=
  (a = none ∧ len = 0 ∧ cap = 0 ∧ zs = []) ∨
  ∃ x, a = some x ∧ len ≤ cap ∧ cap ≤ maxLen ∧ zs.length = cap ∧ (∀ i, i < zs.length → w.cell? (x.add i) = some (.int k (zs.getD i 0))) ∧ ∀ n ∈ zs, (Lit.int k n).wf = true
theorem IsRow.bytes {w : World} {a : Option Addr} {len cap : Nat} {zs : List Int} (h : IsRow .u8 w a len cap zs) : len ≤ maxLen ∧ ∃ f : Nat → Nat, BytesAt w a len f ∧ (∀ i, f i < 256) ∧ ∀ i, i < len → f i = (zs.getD i 0).toNat := by
  rcases h with ⟨rfl, rfl, rfl, rfl⟩ | ⟨y, rfl, hl, hm, hz, hcell, hwz⟩
  · exact ⟨by omega, fun _ => 0, fun i hi => by omega, fun _ => (by decide : (0 : Nat) < 256), fun i hi => by omega⟩
  · have key : ∀ i, i < len → ∃ n : Nat, zs.getD i 0 = n ∧ n < 256 := fun i hi =>
      of_u8 (hwz (zs.getD i 0) (by simp [List.getD_eq_getElem?_getD, List.getElem?_eq_getElem (show i < zs.length by omega)]))
    refine ⟨by omega, fun i => (zs.getD i 0).toNat % 256, fun i hi => ?_, fun i => Nat.mod_lt _ (by omega), fun i hi => ?_⟩
    · obtain ⟨b, off, spot⟩ := y
      have hc := hcell i (by omega)
      have hspot : spot = none := by simpa [Addr.add] using World.cell?_spot (hcell 0 (by omega))
      subst hspot
      obtain ⟨n, en, hn⟩ := key i hi
      refine ⟨b, off, rfl, ?_⟩
      rw [en] at hc
      show w.cell? ⟨b, off + i, none⟩ = some (.int .u8 (((zs.getD i 0).toNat % 256 : Nat) : Int))
      rw [en, Int.toNat_natCast, Nat.mod_eq_of_lt hn, ← hc]
      unfold Addr.add
      split <;> simp_all
    · obtain ⟨n, en, hn⟩ := key i hi
      show (zs.getD i 0).toNat % 256 = _
      rw [en]; omega

/-! ### the walk -/
set_option maxRecDepth 100000
/-- Are the first k noughts? -/
def zB (f : Nat → Nat) : Nat → Bool
  | 0 => true
  | k + 1 => zB f k && (f k == 0)
theorem zB_iff (f : Nat → Nat) : ∀ k, zB f k = true ↔ ∀ i, i < k → f i = 0
  | 0 => by simp [zB]
  | k + 1 => by
    simp only [zB, Bool.and_eq_true, zB_iff f k, beq_iff_eq]
    constructor
    · rintro ⟨h1, h2⟩ i hi
      by_cases c : i = k
      · subst c; exact h2
      · exact h1 i (by omega)
    · intro h
      exact ⟨fun i hi => h i (by omega), h k (by omega)⟩
theorem nought_beq (x : Nat) : ((x : Int) == 0) = (x == 0) := by
  rw [Bool.eq_iff_iff, beq_iff_eq, beq_iff_eq]; omega
theorem same_self (f : Nat → Nat) (n : Nat) (hf : ∀ i, f i < 256) : sameS (strF f n) (strF f n) = true := (sameS_iff f f n n hf hf).2 ⟨rfl, fun _ _ => rfl⟩
theorem same_twin (f q : Nat → Nat) (lp lq : Nat) (hf : ∀ i, f i < 256) (hq : ∀ i, q i < 256) (h1 : lp ≤ 256) (h2 : lq ≤ 256) :
    sameS (strF (putF (fun _ => 0) 0 lp f) (256 * 2)) (strF (putF (putF (fun _ => 0) 0 lp f) 256 lq q) (256 * 2)) = zB q lq := by
  rw [Bool.eq_iff_iff, sameS_iff _ _ _ _ (putF_lt (fun _ => by decide) hf _ _) (putF_lt (putF_lt (fun _ => by decide) hf _ _) hq _ _), zB_iff]
  constructor
  · rintro ⟨_, h⟩ i hi
    have h3 := h (256 + i) (by omega)
    unfold putF at h3
    rw [if_neg (by omega), if_pos (by omega), show 256 + i - 256 = i by omega] at h3
    exact h3.symm
  · intro h
    refine ⟨rfl, fun i hi => ?_⟩
    show _ = putF _ 256 lq q i
    unfold putF
    by_cases c : 256 ≤ i ∧ i < 256 + lq
    · rw [if_neg (by omega), if_pos c, h (i - 256) (by omega)]
    · rw [if_neg c]
theorem same_clear (n m : Nat) : sameS (strF (fun _ => 0) (256 * n)) (strF (fun _ => 0) (256 * m)) = decide (n = m) := by
  rw [Bool.eq_iff_iff, sameS_iff _ _ _ _ (fun _ => by decide) (fun _ => by decide), decide_eq_true_iff]
  constructor
  · rintro ⟨h, _⟩; omega
  · rintro rfl; exact ⟨rfl, fun _ _ => rfl⟩
theorem same_none (f : Nat → Nat) (hf : ∀ i, f i < 256) : sameS (strF (fun _ => 0) 0) (strF f (256 * 2)) = false := by
  rw [Bool.eq_false_iff, Ne, sameS_iff _ _ _ _ (fun _ => by decide) hf]
  rintro ⟨h, _⟩; omega
set_option maxHeartbeats 8000000 in
theorem twins (a : Option Addr) (len cap : Nat) (f : Nat → Nat) (b : Option Addr) (blen bcap : Nat) (q : Nat → Nat) (w : World) (hb : BytesAt w a len f) (hf : ∀ i, f i < 256) (hlen : len ≤ 256)
    (hbb : BytesAt w b blen q) (hq : ∀ i, q i < 256) (hblen : blen ≤ 256) (n m : Int) (hn : -9223372036854775808 ≤ n ∧ n ≤ 9223372036854775807) (hm : -9223372036854775808 ≤ m ∧ m ≤ 9223372036854775807) :
    Calls Try.prog 5 #[.slice a len cap, .slice b blen bcap, .int .i64 n, .int .i64 m] w fun e w' => e = .returned (.bool true) ∧ Below w.heap.size w w' := by
  have HF := Lib.hid hf
  have HB := Lib.hid hb
  have HQ := Lib.hid hq
  have HBB := Lib.hid hbb
  clear hf hb hq hbb
  go_enter Try.func5, Try.ntmps5
  go_wp2_with fail
  refine (awake4_in _).mono ?_
  rintro e w1 ⟨rfl, b1⟩
  go_wp2_with fail
  refine (new_in 2 (by omega) _).mono ?_
  rintro e w2 ⟨rfl, h1, h2⟩
  have b2 := below_up b1 (below_of_grown h2)
  obtain ⟨s, hs⟩ : ∃ s, w1.heap.size + 1 = s := ⟨_, rfl⟩
  obtain ⟨g, hg⟩ : ∃ g, w1.heap.size = g := ⟨_, rfl⟩
  rw [hs, hg, show clampN 2 = 2 by unfold clampN; omega] at h1
  have hg1 : w.heap.size ≤ g := by rw [← hg]; exact b1.size
  have HS := Lib.hid h1
  rw [hs]
  clear h1 h2 hs hg b1
  go_wp2_with fail
  refine (write_ok (HS.out) 0 0 a len cap f (HF.out) ((HB.out).kept b2) (by unfold PartOk; omega)).mono ?_
  rintro e w3 ⟨rfl, h3, hg3⟩
  rw [show Int.toNat 0 * 256 + Int.toNat 0 = 0 by decide] at h3
  have b3 := b2.grown hg3 b2.size (fun k hk => by injection hk with hk; omega)
  have HS3 := Lib.hid h3
  clear h3 hg3 HS b2
  go_wp2_with fail
  refine (twin_in (HS3.out)).mono ?_
  rintro e w4 ⟨rfl, h4, hb4⟩
  have HS4 := Lib.hid ((HS3.out).below hb4)
  have hsl := (HS3.out).lt
  have hgl := (HS3.out).row.lt
  have b4 := below_up b3 hb4
  obtain ⟨t, ht⟩ : ∃ t, w3.heap.size + 1 = t := ⟨_, rfl⟩
  obtain ⟨h, hh⟩ : ∃ h, w3.heap.size = h := ⟨_, rfl⟩
  rw [ht, hh] at h4
  rw [ht]
  rw [hh] at hsl hgl
  have hh1 : w.heap.size ≤ h := by rw [← hh]; exact b3.size
  have HT4 := Lib.hid h4
  clear h4 hb4 b3 HS3 ht hh
  have hsa := same_in (HS4.out) (HT4.out)
  rw [same_self _ _ (HS4.out).byte] at hsa
  have HSA := Lib.hid hsa
  clear hsa
  go_wp2_with fail
  refine (HSA.out).mono ?_
  rintro e w9 ⟨rfl, rfl⟩
  clear HSA
  go_wp2_with fail
  refine (write_ok (HT4.out) 1 0 b blen bcap q (HQ.out) ((HBB.out).kept b4) (by unfold PartOk; omega)).mono ?_
  rintro e w5 ⟨rfl, h5, hg5⟩
  rw [show Int.toNat 1 * 256 + Int.toNat 0 = 256 by decide] at h5
  have HT5 := Lib.hid h5
  have HS5 := Lib.hid ((HS4.out).kept hg5 (by simp; omega) (by simp; omega))
  have b5 := b4.grown hg5 b4.size (fun k hk => by injection hk with hk; omega)
  have HB5 := Lib.hid ((HBB.out).kept b5)
  clear h5 hg5 b4 HS4 HT4
  go_wp2_with fail
  go_loop [12, 13] (fun v i => ∃ k : Nat, k ≤ blen ∧ i = .int .i64 k ∧ v = .bool (zB q k)) (fun _ i => blen - (intOf i).toNat)
  case atStart => exact ⟨0, by omega, rfl, rfl⟩
  case round =>
    obtain ⟨k, hk, rfl, rfl⟩ := hrel
    by_cases hlt : k < blen
    · obtain ⟨bb, off, rfl, hc⟩ := (HB5.out) k hlt
      have hzk : zB q (k + 1) = (zB q k && (q k == 0)) := rfl
      obtain ⟨z, hz⟩ : ∃ z, zB q k = z := ⟨_, rfl⟩
      rw [hz] at hzk
      rw [hz]
      have HZ := Lib.hid hzk
      clear hz hzk
      cases z
      · go_wp2
        go_round
        case rel => exact ⟨k + 1, by omega, by go_num, by rw [HZ.out]; rfl⟩
        case measure => simp [intOf]; omega
      · go_wp2
        go_round
        case rel => exact ⟨k + 1, by omega, by go_num, by rw [HZ.out, Bool.true_and, ← nought_beq]⟩
        case measure => simp [intOf]; omega
    · obtain rfl : k = blen := by omega
      obtain ⟨z, hz⟩ : ∃ z, zB q k = z := ⟨_, rfl⟩
      rw [hz]
      have HZZ := Lib.hid hz
      clear hz hlt
      go_wp2_with fail
      have hc3 : (n < 0 ∧ clampN n = 0) ∨ (∃ j : Nat, n = j ∧ j ≤ 512 ∧ clampN n = j) ∨ (512 < n ∧ clampN n = 512) := by
        by_cases c1 : n < 0
        · exact .inl ⟨c1, by unfold clampN; omega⟩
        · by_cases c2 : 512 < n
          · exact .inr (.inr ⟨c2, by unfold clampN; omega⟩)
          · exact .inr (.inl ⟨n.toNat, by omega, by omega, by unfold clampN; omega⟩)
      have hnew := new_in n hn w5
      rcases hc3 with ⟨c1, c2⟩ | ⟨j, rfl, c1, c2⟩ | ⟨c1, c2⟩
      · rw [c2] at hnew
        refine hnew.mono ?_
        rintro e w6 ⟨rfl, h6, hg6⟩
        clear hnew c2
        obtain ⟨a1, ha1⟩ : ∃ a1, w5.heap.size + 1 = a1 := ⟨_, rfl⟩
        obtain ⟨a2, ha2⟩ : ∃ a2, w5.heap.size = a2 := ⟨_, rfl⟩
        rw [ha1, ha2] at h6
        rw [ha1]
        have HA6 := Lib.hid h6
        have b6 := below_up b5 (below_of_grown hg6)
        have HS6 := Lib.hid ((HS5.out).kept hg6 (by simp) (by simp))
        have HT6 := Lib.hid ((HT5.out).kept hg6 (by simp) (by simp))
        clear h6 hg6 ha1 ha2 HS5 HT5 HB5 b5
        go_wp2_with fail
        refine (new_in m hm w6).mono ?_
        rintro e w7 ⟨rfl, h7, hg7⟩
        obtain ⟨b1, hb1⟩ : ∃ b1, w6.heap.size + 1 = b1 := ⟨_, rfl⟩
        obtain ⟨b2, hb2⟩ : ∃ b2, w6.heap.size = b2 := ⟨_, rfl⟩
        obtain ⟨c, hc⟩ : ∃ c, clampN m = c := ⟨_, rfl⟩
        have hc512 : c ≤ 512 := by rw [← hc]; exact clampN_le m
        rw [hb1, hb2, hc] at h7
        rw [hb1]
        have b7 := below_up b6 (below_of_grown hg7)
        have HB7 := Lib.hid h7
        have HA7 := Lib.hid ((HA6.out).kept hg7 (by simp) (by simp))
        have HS7 := Lib.hid ((HS6.out).kept hg7 (by simp) (by simp))
        have HT7 := Lib.hid ((HT6.out).kept hg7 (by simp) (by simp))
        clear h7 hg7 hb1 hb2 hc HA6 HS6 HT6 b6 hm
        have hsa := same_in (HS7.out) (HT7.out)
        rw [same_twin f q len k (HF.out) (HQ.out) hlen hblen, HZZ.out] at hsa
        have HSA := Lib.hid hsa
        clear hsa
        have hab := same_in (HA7.out) (HB7.out)
        rw [same_clear] at hab
        by_cases hcm : 0 = c
        · obtain rfl := hcm
          rw [decide_eq_true rfl] at hab
          have HAB := Lib.hid hab
          clear hab
          go_wp2_with fail
          refine (HSA.out).mono ?_
          rintro e w9 ⟨rfl, rfl⟩
          go_wp2_with fail
          refine (frames_in (HA7.out)).mono ?_
          rintro e w9 ⟨rfl, rfl⟩
          go_wp2_with fail
          refine (HAB.out).mono ?_
          rintro e w9 ⟨rfl, rfl⟩
          go_wp2_with fail
          refine (frames_in (HA7.out)).mono ?_
          rintro e w9 ⟨rfl, rfl⟩
          go_wp2_with fail
          refine (frames_in (HB7.out)).mono ?_
          rintro e w9 ⟨rfl, rfl⟩
          go_wp2_with fail
          refine (frames_nil _).mono ?_
          rintro e w9 ⟨rfl, rfl⟩
          go_wp2_with fail
          refine (twin_nil _).mono ?_
          rintro e w9 ⟨rfl, rfl⟩
          go_wp2_with fail
          refine (new_in 0 (by omega) _).mono ?_
          rintro e w8 ⟨rfl, h8, hg8⟩
          have b8 := below_up b7 (below_of_grown hg8)
          have hs1 := same_nil h8
          rw [show (0 : Nat) = 256 * 0 by decide, show clampN 0 = 0 by unfold clampN; omega, same_clear, decide_eq_true rfl] at hs1
          have hs2 := same_nil ((HS7.out).kept hg8 (by simp) (by simp))
          rw [same_none _ (HS7.out).byte] at hs2
          have HS1 := Lib.hid hs1
          have HS2 := Lib.hid hs2
          clear h8 hg8 hs1 hs2
          go_wp2_with fail
          refine (HS1.out).mono ?_
          rintro e w9 ⟨rfl, rfl⟩
          go_wp2_with fail
          refine (clear_nil _ _).mono ?_
          rintro e w9 ⟨rfl, rfl⟩
          go_wp2_with fail
          refine (HS2.out).mono ?_
          rintro e w9 ⟨rfl, rfl⟩
          go_wp2
          go_ret
          exact ⟨rfl, b8⟩
        · rw [decide_eq_false hcm] at hab
          have t1 : ((0 : Int) == (c : Int)) = false := by simp; omega
          have t2 : (0 == c) = false := by simpa using hcm
          have HAB := Lib.hid hab
          clear hab
          go_wp2_with fail
          refine (HSA.out).mono ?_
          rintro e w9 ⟨rfl, rfl⟩
          go_wp2_with fail
          refine (frames_in (HA7.out)).mono ?_
          rintro e w9 ⟨rfl, rfl⟩
          go_wp2_with fail
          refine (HAB.out).mono ?_
          rintro e w9 ⟨rfl, rfl⟩
          go_wp2_with fail
          refine (frames_in (HA7.out)).mono ?_
          rintro e w9 ⟨rfl, rfl⟩
          go_wp2_with fail
          refine (frames_in (HB7.out)).mono ?_
          rintro e w9 ⟨rfl, rfl⟩
          go_wp2_with fail
          refine (frames_nil _).mono ?_
          rintro e w9 ⟨rfl, rfl⟩
          go_wp2_with fail
          refine (twin_nil _).mono ?_
          rintro e w9 ⟨rfl, rfl⟩
          go_wp2_with fail
          refine (new_in 0 (by omega) _).mono ?_
          rintro e w8 ⟨rfl, h8, hg8⟩
          have b8 := below_up b7 (below_of_grown hg8)
          have hs1 := same_nil h8
          rw [show (0 : Nat) = 256 * 0 by decide, show clampN 0 = 0 by unfold clampN; omega, same_clear, decide_eq_true rfl] at hs1
          have hs2 := same_nil ((HS7.out).kept hg8 (by simp) (by simp))
          rw [same_none _ (HS7.out).byte] at hs2
          have HS1 := Lib.hid hs1
          have HS2 := Lib.hid hs2
          clear h8 hg8 hs1 hs2
          go_wp2_with fail
          refine (HS1.out).mono ?_
          rintro e w9 ⟨rfl, rfl⟩
          go_wp2_with fail
          refine (clear_nil _ _).mono ?_
          rintro e w9 ⟨rfl, rfl⟩
          go_wp2_with fail
          refine (HS2.out).mono ?_
          rintro e w9 ⟨rfl, rfl⟩
          go_wp2
          go_ret
          exact ⟨rfl, b8⟩
      · rw [c2] at hnew
        refine hnew.mono ?_
        rintro e w6 ⟨rfl, h6, hg6⟩
        clear hnew c2
        obtain ⟨a1, ha1⟩ : ∃ a1, w5.heap.size + 1 = a1 := ⟨_, rfl⟩
        obtain ⟨a2, ha2⟩ : ∃ a2, w5.heap.size = a2 := ⟨_, rfl⟩
        rw [ha1, ha2] at h6
        rw [ha1]
        have HA6 := Lib.hid h6
        have b6 := below_up b5 (below_of_grown hg6)
        have HS6 := Lib.hid ((HS5.out).kept hg6 (by simp) (by simp))
        have HT6 := Lib.hid ((HT5.out).kept hg6 (by simp) (by simp))
        clear h6 hg6 ha1 ha2 HS5 HT5 HB5 b5
        go_wp2_with fail
        refine (new_in m hm w6).mono ?_
        rintro e w7 ⟨rfl, h7, hg7⟩
        obtain ⟨b1, hb1⟩ : ∃ b1, w6.heap.size + 1 = b1 := ⟨_, rfl⟩
        obtain ⟨b2, hb2⟩ : ∃ b2, w6.heap.size = b2 := ⟨_, rfl⟩
        obtain ⟨c, hc⟩ : ∃ c, clampN m = c := ⟨_, rfl⟩
        have hc512 : c ≤ 512 := by rw [← hc]; exact clampN_le m
        rw [hb1, hb2, hc] at h7
        rw [hb1]
        have b7 := below_up b6 (below_of_grown hg7)
        have HB7 := Lib.hid h7
        have HA7 := Lib.hid ((HA6.out).kept hg7 (by simp) (by simp))
        have HS7 := Lib.hid ((HS6.out).kept hg7 (by simp) (by simp))
        have HT7 := Lib.hid ((HT6.out).kept hg7 (by simp) (by simp))
        clear h7 hg7 hb1 hb2 hc HA6 HS6 HT6 b6 hm
        have hsa := same_in (HS7.out) (HT7.out)
        rw [same_twin f q len k (HF.out) (HQ.out) hlen hblen, HZZ.out] at hsa
        have HSA := Lib.hid hsa
        clear hsa
        have hab := same_in (HA7.out) (HB7.out)
        rw [same_clear] at hab
        by_cases hcm : j = c
        · subst hcm
          rw [decide_eq_true rfl] at hab
          have HAB := Lib.hid hab
          clear hab
          go_wp2_with fail
          refine (HSA.out).mono ?_
          rintro e w9 ⟨rfl, rfl⟩
          go_wp2_with fail
          refine (frames_in (HA7.out)).mono ?_
          rintro e w9 ⟨rfl, rfl⟩
          go_wp2_with fail
          refine (HAB.out).mono ?_
          rintro e w9 ⟨rfl, rfl⟩
          go_wp2_with fail
          refine (frames_in (HA7.out)).mono ?_
          rintro e w9 ⟨rfl, rfl⟩
          go_wp2_with fail
          refine (frames_in (HB7.out)).mono ?_
          rintro e w9 ⟨rfl, rfl⟩
          go_wp2_with fail
          refine (frames_nil _).mono ?_
          rintro e w9 ⟨rfl, rfl⟩
          go_wp2_with fail
          refine (twin_nil _).mono ?_
          rintro e w9 ⟨rfl, rfl⟩
          go_wp2_with fail
          refine (new_in 0 (by omega) _).mono ?_
          rintro e w8 ⟨rfl, h8, hg8⟩
          have b8 := below_up b7 (below_of_grown hg8)
          have hs1 := same_nil h8
          rw [show (0 : Nat) = 256 * 0 by decide, show clampN 0 = 0 by unfold clampN; omega, same_clear, decide_eq_true rfl] at hs1
          have hs2 := same_nil ((HS7.out).kept hg8 (by simp) (by simp))
          rw [same_none _ (HS7.out).byte] at hs2
          have HS1 := Lib.hid hs1
          have HS2 := Lib.hid hs2
          clear h8 hg8 hs1 hs2
          go_wp2_with fail
          refine (HS1.out).mono ?_
          rintro e w9 ⟨rfl, rfl⟩
          go_wp2_with fail
          refine (clear_nil _ _).mono ?_
          rintro e w9 ⟨rfl, rfl⟩
          go_wp2_with fail
          refine (HS2.out).mono ?_
          rintro e w9 ⟨rfl, rfl⟩
          go_wp2
          go_ret
          exact ⟨rfl, b8⟩
        · rw [decide_eq_false hcm] at hab
          have t1 : (((j : Nat) : Int) == (c : Int)) = false := by simp; omega
          have t2 : (j == c) = false := by simpa using hcm
          have HAB := Lib.hid hab
          clear hab
          go_wp2_with fail
          refine (HSA.out).mono ?_
          rintro e w9 ⟨rfl, rfl⟩
          go_wp2_with fail
          refine (frames_in (HA7.out)).mono ?_
          rintro e w9 ⟨rfl, rfl⟩
          go_wp2_with fail
          refine (HAB.out).mono ?_
          rintro e w9 ⟨rfl, rfl⟩
          go_wp2_with fail
          refine (frames_in (HA7.out)).mono ?_
          rintro e w9 ⟨rfl, rfl⟩
          go_wp2_with fail
          refine (frames_in (HB7.out)).mono ?_
          rintro e w9 ⟨rfl, rfl⟩
          go_wp2_with fail
          refine (frames_nil _).mono ?_
          rintro e w9 ⟨rfl, rfl⟩
          go_wp2_with fail
          refine (twin_nil _).mono ?_
          rintro e w9 ⟨rfl, rfl⟩
          go_wp2_with fail
          refine (new_in 0 (by omega) _).mono ?_
          rintro e w8 ⟨rfl, h8, hg8⟩
          have b8 := below_up b7 (below_of_grown hg8)
          have hs1 := same_nil h8
          rw [show (0 : Nat) = 256 * 0 by decide, show clampN 0 = 0 by unfold clampN; omega, same_clear, decide_eq_true rfl] at hs1
          have hs2 := same_nil ((HS7.out).kept hg8 (by simp) (by simp))
          rw [same_none _ (HS7.out).byte] at hs2
          have HS1 := Lib.hid hs1
          have HS2 := Lib.hid hs2
          clear h8 hg8 hs1 hs2
          go_wp2_with fail
          refine (HS1.out).mono ?_
          rintro e w9 ⟨rfl, rfl⟩
          go_wp2_with fail
          refine (clear_nil _ _).mono ?_
          rintro e w9 ⟨rfl, rfl⟩
          go_wp2_with fail
          refine (HS2.out).mono ?_
          rintro e w9 ⟨rfl, rfl⟩
          go_wp2
          go_ret
          exact ⟨rfl, b8⟩
      · rw [c2] at hnew
        refine hnew.mono ?_
        rintro e w6 ⟨rfl, h6, hg6⟩
        clear hnew c2
        obtain ⟨a1, ha1⟩ : ∃ a1, w5.heap.size + 1 = a1 := ⟨_, rfl⟩
        obtain ⟨a2, ha2⟩ : ∃ a2, w5.heap.size = a2 := ⟨_, rfl⟩
        rw [ha1, ha2] at h6
        rw [ha1]
        have HA6 := Lib.hid h6
        have b6 := below_up b5 (below_of_grown hg6)
        have HS6 := Lib.hid ((HS5.out).kept hg6 (by simp) (by simp))
        have HT6 := Lib.hid ((HT5.out).kept hg6 (by simp) (by simp))
        clear h6 hg6 ha1 ha2 HS5 HT5 HB5 b5
        go_wp2_with fail
        refine (new_in m hm w6).mono ?_
        rintro e w7 ⟨rfl, h7, hg7⟩
        obtain ⟨b1, hb1⟩ : ∃ b1, w6.heap.size + 1 = b1 := ⟨_, rfl⟩
        obtain ⟨b2, hb2⟩ : ∃ b2, w6.heap.size = b2 := ⟨_, rfl⟩
        obtain ⟨c, hc⟩ : ∃ c, clampN m = c := ⟨_, rfl⟩
        have hc512 : c ≤ 512 := by rw [← hc]; exact clampN_le m
        rw [hb1, hb2, hc] at h7
        rw [hb1]
        have b7 := below_up b6 (below_of_grown hg7)
        have HB7 := Lib.hid h7
        have HA7 := Lib.hid ((HA6.out).kept hg7 (by simp) (by simp))
        have HS7 := Lib.hid ((HS6.out).kept hg7 (by simp) (by simp))
        have HT7 := Lib.hid ((HT6.out).kept hg7 (by simp) (by simp))
        clear h7 hg7 hb1 hb2 hc HA6 HS6 HT6 b6 hm
        have hsa := same_in (HS7.out) (HT7.out)
        rw [same_twin f q len k (HF.out) (HQ.out) hlen hblen, HZZ.out] at hsa
        have HSA := Lib.hid hsa
        clear hsa
        have hab := same_in (HA7.out) (HB7.out)
        rw [same_clear] at hab
        by_cases hcm : 512 = c
        · obtain rfl := hcm
          rw [decide_eq_true rfl] at hab
          have HAB := Lib.hid hab
          clear hab
          go_wp2_with fail
          refine (HSA.out).mono ?_
          rintro e w9 ⟨rfl, rfl⟩
          go_wp2_with fail
          refine (frames_in (HA7.out)).mono ?_
          rintro e w9 ⟨rfl, rfl⟩
          go_wp2_with fail
          refine (HAB.out).mono ?_
          rintro e w9 ⟨rfl, rfl⟩
          go_wp2_with fail
          refine (frames_in (HA7.out)).mono ?_
          rintro e w9 ⟨rfl, rfl⟩
          go_wp2_with fail
          refine (frames_in (HB7.out)).mono ?_
          rintro e w9 ⟨rfl, rfl⟩
          go_wp2_with fail
          refine (frames_nil _).mono ?_
          rintro e w9 ⟨rfl, rfl⟩
          go_wp2_with fail
          refine (twin_nil _).mono ?_
          rintro e w9 ⟨rfl, rfl⟩
          go_wp2_with fail
          refine (new_in 0 (by omega) _).mono ?_
          rintro e w8 ⟨rfl, h8, hg8⟩
          have b8 := below_up b7 (below_of_grown hg8)
          have hs1 := same_nil h8
          rw [show (0 : Nat) = 256 * 0 by decide, show clampN 0 = 0 by unfold clampN; omega, same_clear, decide_eq_true rfl] at hs1
          have hs2 := same_nil ((HS7.out).kept hg8 (by simp) (by simp))
          rw [same_none _ (HS7.out).byte] at hs2
          have HS1 := Lib.hid hs1
          have HS2 := Lib.hid hs2
          clear h8 hg8 hs1 hs2
          go_wp2_with fail
          refine (HS1.out).mono ?_
          rintro e w9 ⟨rfl, rfl⟩
          go_wp2_with fail
          refine (clear_nil _ _).mono ?_
          rintro e w9 ⟨rfl, rfl⟩
          go_wp2_with fail
          refine (HS2.out).mono ?_
          rintro e w9 ⟨rfl, rfl⟩
          go_wp2
          go_ret
          exact ⟨rfl, b8⟩
        · rw [decide_eq_false hcm] at hab
          have t1 : ((512 : Int) == (c : Int)) = false := by simp; omega
          have t2 : (512 == c) = false := by simpa using hcm
          have HAB := Lib.hid hab
          clear hab
          go_wp2_with fail
          refine (HSA.out).mono ?_
          rintro e w9 ⟨rfl, rfl⟩
          go_wp2_with fail
          refine (frames_in (HA7.out)).mono ?_
          rintro e w9 ⟨rfl, rfl⟩
          go_wp2_with fail
          refine (HAB.out).mono ?_
          rintro e w9 ⟨rfl, rfl⟩
          go_wp2_with fail
          refine (frames_in (HA7.out)).mono ?_
          rintro e w9 ⟨rfl, rfl⟩
          go_wp2_with fail
          refine (frames_in (HB7.out)).mono ?_
          rintro e w9 ⟨rfl, rfl⟩
          go_wp2_with fail
          refine (frames_nil _).mono ?_
          rintro e w9 ⟨rfl, rfl⟩
          go_wp2_with fail
          refine (twin_nil _).mono ?_
          rintro e w9 ⟨rfl, rfl⟩
          go_wp2_with fail
          refine (new_in 0 (by omega) _).mono ?_
          rintro e w8 ⟨rfl, h8, hg8⟩
          have b8 := below_up b7 (below_of_grown hg8)
          have hs1 := same_nil h8
          rw [show (0 : Nat) = 256 * 0 by decide, show clampN 0 = 0 by unfold clampN; omega, same_clear, decide_eq_true rfl] at hs1
          have hs2 := same_nil ((HS7.out).kept hg8 (by simp) (by simp))
          rw [same_none _ (HS7.out).byte] at hs2
          have HS1 := Lib.hid hs1
          have HS2 := Lib.hid hs2
          clear h8 hg8 hs1 hs2
          go_wp2_with fail
          refine (HS1.out).mono ?_
          rintro e w9 ⟨rfl, rfl⟩
          go_wp2_with fail
          refine (clear_nil _ _).mono ?_
          rintro e w9 ⟨rfl, rfl⟩
          go_wp2_with fail
          refine (HS2.out).mono ?_
          rintro e w9 ⟨rfl, rfl⟩
          go_wp2
          go_ret
          exact ⟨rfl, b8⟩
theorem walk (p_p : Option Addr) (p_p_len p_p_cap : Nat) (p_p_z : List Int) (p_q : Option Addr) (p_q_len p_q_cap : Nat) (p_q_z : List Int) (p_n : Int) (hp_n : -9223372036854775808 ≤ p_n ∧ p_n ≤ 9223372036854775807) (p_m : Int) (hp_m : -9223372036854775808 ≤ p_m ∧ p_m ≤ 9223372036854775807) (w : World) (hp_p : IsRow .u8 w p_p p_p_len p_p_cap p_p_z) (hp_q : IsRow .u8 w p_q p_q_len p_q_cap p_q_z) :
    Calls Try.prog 5 #[.slice p_p p_p_len p_p_cap, .slice p_q p_q_len p_q_cap, .int .i64 p_n, .int .i64 p_m] w fun e w' => e = .returned (.bool true) ∧ Below w.heap.size w w' := by
  obtain ⟨hm, f, hb, hf, _⟩ := IsRow.bytes hp_p
  obtain ⟨hm2, q, hb2, hq, _⟩ := IsRow.bytes hp_q
  clear hp_p hp_q
  unfold maxLen at hm hm2
  by_cases h1 : p_p_len ≤ 256
  · by_cases h2 : p_q_len ≤ 256
    · exact twins p_p p_p_len p_p_cap f p_q p_q_len p_q_cap q w hb hf h1 hb2 hq h2 _ _ hp_n hp_m
    · go_enter Try.func5, Try.ntmps5
      go_wp2_with fail
      refine (awake4_in _).mono ?_
      rintro e w1 ⟨rfl, b1⟩
      go_wp2_with fail
      refine (awake4_in _).mono ?_
      rintro e w2 ⟨rfl, b2⟩
      go_wp2
      go_ret
      exact ⟨rfl, below_up b1 b2⟩
  · go_enter Try.func5, Try.ntmps5
    go_wp2_with fail
    refine (awake4_in _).mono ?_
    rintro e w1 ⟨rfl, b1⟩
    go_wp2_with fail
    refine (awake4_in _).mono ?_
    rintro e w2 ⟨rfl, b2⟩
    go_wp2
    go_ret
    exact ⟨rfl, below_up b1 b2⟩

/-! ### the row's step -/
set_option maxRecDepth 100000 in
theorem lifted (os : Os) (started : os.Started) (H : Type) (enc : TypeId × Value → H) :
    ReturnsInHanded {} Try.checked os 5 .any (Rows.storeTwinsSpec.pre6 enc Try.prog Try.f5 Rows.storeTwinsRow.domain false) (Rows.storeTwinsSpec.post enc Try.prog Try.f5 false true false false) := by
  refine returnsInHanded_of_change (C := Try.checked) own started (by kernel_rfl) Try.func5
    (ChangeSpec.witness6 (enc := enc) (C := Try.checked) false ⟨#[], #[.slice none 0 0, .slice none 0 0, .int .i64 0, .int .i64 0], []⟩ 8 (by kernel_rfl) (by kernel_rfl) (by kernel_rfl) (by kernel_rfl)) ?_
  intro W base args ds gs before hval0 hW hcnd _
  have hval : ∀ (j : Nat) t v, Try.f5.params[j]? = some t → args[j]? = some v → Value.okWide Try.prog W .any base t v := hval0
  have hW' := hW
  obtain ⟨p, q, hA0, hV, rfl, hfz, hnd⟩ := hW
  have hA : DataW.TrodAll enc Try.prog W 0 (fun _ => true) true Try.f5.params.toList args.toList ds p := hA0
  rw [Try.params5] at hA hval
  obtain ⟨v0, vs0, d0, ds0, p0, q0, hargs, rfl, rfl, h0, r0⟩ := trodAll_cons hA
  obtain ⟨v1, vs1, d1, ds1, p1, q1, rfl, rfl, rfl, h1, r1⟩ := trodAll_cons r0
  obtain ⟨v2, vs2, d2, ds2, p2, q2, rfl, rfl, rfl, h2, r2⟩ := trodAll_cons r1
  obtain ⟨v3, vs3, d3, ds3, p3, q3, rfl, rfl, rfl, h3, r3⟩ := trodAll_cons r2
  obtain ⟨rfl, rfl, rfl⟩ := trodAll_nil r3
  obtain rfl : args = #[v0, v1, v2, v3] := by cases args; simp_all
  obtain ⟨rfl, rfl⟩ := trodVars_none hV
  obtain ⟨a0, len0, cap0, rfl⟩ := okWide_slice Try.underlying27 (hval 0 27 v0 rfl rfl)
  have k0 := h0
  have lt0 : ∀ x ∈ p0, x.block < W.heap.size := by obtain ⟨m, hm⟩ := k0; exact DataW.trod_lt m _ _ _ hm
  obtain ⟨z0, w0⟩ : ∃ zs, IsRow .u8 W a0 len0 cap0 zs := by
    obtain ⟨fuel, hf⟩ := h0
    rcases open_ints Try.underlying27 Try.underlying5 (by kernel_rfl) hf with ⟨hcs, _⟩ | ⟨x, l, c, zs, hcs, _, hl, hm, hz, _, hcell, hwz⟩
    · simp [Value.cells] at hcs
      obtain ⟨rfl, rfl, rfl⟩ := hcs
      exact ⟨[], .inl ⟨rfl, rfl, rfl, rfl⟩⟩
    · simp [Value.cells] at hcs
      obtain ⟨rfl, rfl, rfl⟩ := hcs
      exact ⟨zs, .inr ⟨_, rfl, hl, hm, by simpa using hz, hcell, hwz⟩⟩
  obtain ⟨a1, len1, cap1, rfl⟩ := okWide_slice Try.underlying27 (hval 1 27 v1 rfl rfl)
  have k1 := h1
  have lt1 : ∀ x ∈ p1, x.block < W.heap.size := by obtain ⟨m, hm⟩ := k1; exact DataW.trod_lt m _ _ _ hm
  obtain ⟨z1, w1⟩ : ∃ zs, IsRow .u8 W a1 len1 cap1 zs := by
    obtain ⟨fuel, hf⟩ := h1
    rcases open_ints Try.underlying27 Try.underlying5 (by kernel_rfl) hf with ⟨hcs, _⟩ | ⟨x, l, c, zs, hcs, _, hl, hm, hz, _, hcell, hwz⟩
    · simp [Value.cells] at hcs
      obtain ⟨rfl, rfl, rfl⟩ := hcs
      exact ⟨[], .inl ⟨rfl, rfl, rfl, rfl⟩⟩
    · simp [Value.cells] at hcs
      obtain ⟨rfl, rfl, rfl⟩ := hcs
      exact ⟨zs, .inr ⟨_, rfl, hl, hm, by simpa using hz, hcell, hwz⟩⟩
  obtain ⟨a2, rfl, rfl, rfl, w2⟩ := open_int Try.underlying3 (hval 2 3 v2 rfl rfl) h2
  have b2 := wf_i64 w2
  obtain ⟨a3, rfl, rfl, rfl, w3⟩ := open_int Try.underlying3 (hval 3 3 v3 rfl rfl) h3
  have b3 := wf_i64 w3
  clear hA0 hval0
  refine (walk a0 len0 cap0 z0 a1 len1 cap1 z1 a2 b2 a3 b3 W w0 w1).mono fun e W' ⟨he, bel⟩ => ?_
  subst he
  exact ⟨_, rfl, _, _, _, [], _, [], hW', trodAll_mk1 (shut_bool Try.underlying4 _), (trodAll_cons_mk (Below.trod laidOut (by kernel_rfl) (of_decide_eq_true (by kernel_rfl)) k0 bel lt0) (trodAll_cons_mk (Below.trod laidOut (by kernel_rfl) (of_decide_eq_true (by kernel_rfl)) k1 bel lt1) (trodAll_cons_mk (shut_int Try.underlying3 w2) (trodAll_cons_mk (shut_int Try.underlying3 w3) trodAll_mk0)))), rfl, bel.frame _, fun h => by cases h⟩

theorem over : Rows.storeTwinsRow.holds Try.pinned (OpenSpec.ofChange Rows.storeTwinsSpec) :=
  OpenClaim.holds_of_wide 5 Try.f5 rfl rfl rfl rfl rfl rfl rfl ⟨rfl, rfl, rfl, rfl, rfl⟩ rfl rfl rfl rfl rfl (by kernel_rfl) Try.func5 (by kernel_rfl)
    (of_decide_eq_true (by kernel_rfl)) (by unfold Func.isWrapper; first | (rw [if_pos (by decide +kernel)]; kernel_rfl) | (rw [if_neg (by decide +kernel)]; exact ⟨rfl, rfl⟩))
    (fun os started H enc _ => lifted os started H enc)

/-- THE STATEMENT -/
theorem proved : Rows.StoreTwinsSaid := over
#print axioms proved
end Go.Proofs.Ythgopodjplpefaa.storeTwins
