/-
  PROVED: for every list of bytes p and every frame, off and n the law StoreReads returns true: bytes, and words, of any place; where there are none; and p reads as it did.
-/
import Derived.Test.YthgopodjplpefaaRows
import Derived.Test.YthgopodjplpefaaWM
import Derived.Test.YthgopodjplpefaaWC
import Derived.Test.YthgopodjplpefaaWB
import Derived.Test.YthgopodjplpefaaLT
import Derived.Test.YthgopodjplpefaaSM
import Derived.Test.YthgopodjplpefaaSC
import Derived.Test.YthgopodjplpefaaSD
import Derived.WalkKit
import Derived.ProofKit
import Derived.OpenShut
import Derived.ShutString
import Derived.ChangeOld
import Derived.Below
import Derived.Deep.Cut
namespace Go.Proofs.Ythgopodjplpefaa.storeReads
open Go.Proofs.Ythgopodjplpefaa Go.Proofs.Ythgopodjplpefaa.WM
open Go.ChangeShapes Go.WideShapes Go.ChangeAt Go.RowKit
open Go.ChangeMaps (open_string shut_string)
set_option linter.unusedVariables false

theorem own : ownKnob Try.prog.godebug = none := by kernel_rfl
theorem laidOut : laidOutB Try.prog = true := by kernel_rfl
theorem wf_i64 {a : Int} (h : (Lit.int .i64 a).wf = true) : -9223372036854775808 ≤ a ∧ a ≤ 9223372036854775807 := by
  simp only [Lit.wf, IntKind.min, IntKind.max, IntKind.signed, IntKind.bits, Bool.and_eq_true, decide_eq_true_eq] at h
  simp at h
  omega
/-- What the walk is told of a slice of integers that came in: it is nil, or it leads to a row of as many cells as its capacity says. -/
def IsRow (k : IntKind) (w : World) (a : Option Addr) (len cap : Nat) (zs : List Int) : Prop :=
  (a = none ∧ len = 0 ∧ cap = 0 ∧ zs = []) ∨
  ∃ x, a = some x ∧ len ≤ cap ∧ cap ≤ maxLen ∧ zs.length = cap ∧ (∀ i, i < zs.length → w.cell? (x.add i) = some (.int k (zs.getD i 0))) ∧ ∀ n ∈ zs, (Lit.int k n).wf = true
theorem IsRow.bytes {w : World} {a : Option Addr} {len cap : Nat} {zs : List Int} (h : IsRow .u8 w a len cap zs) : len ≤ maxLen ∧ ∃ f : Nat → Nat, BytesAt w a len f ∧ (∀ i, f i < 256) ∧ ∀ i, i < len → f i = (zs.getD i 0).toNat := by
  rcases h with ⟨rfl, rfl, rfl, rfl⟩ | ⟨y, rfl, hl, hm, hz, hcell, hwz⟩
  · exact ⟨by omega, fun _ => 0, fun i hi => by omega, fun _ => (by decide : (0 : Nat) < 256), fun i hi => by omega⟩
  · have key : ∀ i, i < len → ∃ n : Nat, zs.getD i 0 = n ∧ n < 256 := fun i hi =>
      of_u8 (hwz (zs.getD i 0) (by simp [List.getD_eq_getElem?_getD, List.getElem?_eq_getElem (show i < zs.length by omega)]))
    refine ⟨by omega, fun i => (zs.getD i 0).toNat % 256, fun i hi => ?_, fun i => Nat.mod_lt _ (by omega), fun i hi => ?_⟩
    · obtain ⟨b, off, spot⟩ := y
      have hc := hcell i (by omega)
      have hspot : spot = none := by simpa [Addr.add] using World.cell?_spot (hcell 0 (by omega))
      subst hspot
      obtain ⟨n, en, hn⟩ := key i hi
      refine ⟨b, off, rfl, ?_⟩
      rw [en] at hc
      show w.cell? ⟨b, off + i, none⟩ = some (.int .u8 (((zs.getD i 0).toNat % 256 : Nat) : Int))
      rw [en, Int.toNat_natCast, Nat.mod_eq_of_lt hn, ← hc]
      unfold Addr.add
      split <;> simp_all
    · obtain ⟨n, en, hn⟩ := key i hi
      show (zs.getD i 0).toNat % 256 = _
      rw [en]; omega

/-! ### the walk -/
set_option maxRecDepth 100000
theorem ofN_congr (f g : Nat → Nat) : ∀ n, (∀ i, i < n → f i = g i) → ofN f n = ofN g n
  | 0, _ => rfl
  | n + 1, h => by simp only [ofN]; rw [ofN_congr f g n (fun i hi => h i (by omega)), h n (by omega)]
theorem ofN_nought : ∀ n, ofN (fun _ => 0) n = 0
  | 0 => rfl
  | n + 1 => by simp only [ofN]; rw [ofN_nought n]; simp
theorem word_same {f F M : Nat → Nat} {len : Nat} (hF : putF (fun _ => 0) (Int.toNat 1 * 256 + Int.toNat 0) len f = F) (hM : putF (fun _ => 0) 0 len f = M) (k : Nat) (hk : k < 32) :
    ofN (fun j => F (1 * 256 + k * 8 + j)) 8 = ofN (fun j => M (8 * k + j)) 8 := by
  subst hF hM
  apply ofN_congr
  intro i hi
  unfold putF
  rw [show Int.toNat 1 * 256 + Int.toNat 0 = 256 by decide]
  by_cases c : 8 * k + i < len
  · rw [if_pos (by omega), if_pos (by omega)]; congr 1; omega
  · rw [if_neg (by omega), if_neg (by omega)]
theorem word_none {f F : Nat → Nat} {len : Nat} (hF : putF (fun _ => 0) (Int.toNat 1 * 256 + Int.toNat 0) len f = F) (k : Nat) (hk : k < 32) : ofN (fun j => F (0 * 256 + k * 8 + j)) 8 = 0 := by
  subst hF
  refine (ofN_congr _ (fun _ => 0) 8 ?_).trans (ofN_nought 8)
  intro i hi
  unfold putF
  rw [if_neg (by rw [show Int.toNat 1 * 256 + Int.toNat 0 = 256 by decide]; omega)]
theorem text_same {f F M : Nat → Nat} {len : Nat} (hF : putF (fun _ => 0) (Int.toNat 1 * 256 + Int.toNat 0) len f = F) (hM : putF (fun _ => 0) 0 len f = M) (o i : Nat) (h : o + i < 256) :
    F (Int.toNat 1 * 256 + o + i) = M (o + i) := by
  subst hF hM
  unfold putF
  rw [show Int.toNat 1 * 256 + Int.toNat 0 = 256 by decide, show Int.toNat 1 * 256 = 256 by decide]
  by_cases c : o + i < len
  · rw [if_pos (by omega), if_pos (by omega)]; congr 1; omega
  · rw [if_neg (by omega), if_neg (by omega)]
set_option maxHeartbeats 40000000 in
theorem reads (a : Option Addr) (len cap : Nat) (f : Nat → Nat) (w : World) (hb : BytesAt w a len f) (hf : ∀ i, f i < 256) (hlen : len ≤ 256)
    (fr off n : Int) (hfr : -9223372036854775808 ≤ fr ∧ fr ≤ 9223372036854775807) (hoff : -9223372036854775808 ≤ off ∧ off ≤ 9223372036854775807) (hn : -9223372036854775808 ≤ n ∧ n ≤ 9223372036854775807) :
    Calls Try.prog 4 #[.slice a len cap, .int .i64 fr, .int .i64 off, .int .i64 n] w fun e w' => e = .returned (.bool true) ∧ Below w.heap.size w w' := by
  have HF := Lib.hid hf
  have HB := Lib.hid hb
  clear hf hb
  go_enter Try.func4, Try.ntmps4
  go_wp2_with fail
  refine (awake4_in _).mono ?_
  rintro e w1 ⟨rfl, b1⟩
  go_wp2_with fail
  refine (new_in 2 (by omega) _).mono ?_
  rintro e w2 ⟨rfl, h1, h2⟩
  have b2 := below_up b1 (below_of_grown h2)
  obtain ⟨s, hs⟩ : ∃ s, w1.heap.size + 1 = s := ⟨_, rfl⟩
  obtain ⟨g, hg⟩ : ∃ g, w1.heap.size = g := ⟨_, rfl⟩
  rw [hs, hg, show clampN 2 = 2 by unfold clampN; omega] at h1
  have hg1 : w.heap.size ≤ g := by rw [← hg]; exact b1.size
  have hs1 : w.heap.size ≤ s := by omega
  have HS := Lib.hid h1
  have hsl := h1.lt
  have hgl := h1.row.lt
  rw [hs]
  clear h1 h2 hs hg b1
  go_wp2_with fail
  refine (write_ok (HS.out) 1 0 a len cap f (HF.out) ((HB.out).kept b2) (by unfold PartOk; omega)).mono ?_
  rintro e w3 ⟨rfl, h3, hg3⟩
  obtain ⟨F, hF⟩ : ∃ F, putF (fun _ => 0) (Int.toNat 1 * 256 + Int.toNat 0) len f = F := ⟨_, rfl⟩
  rw [hF] at h3
  have b3 := b2.grown hg3 b2.size (fun k hk => by injection hk with hk; omega)
  have HS3 := Lib.hid h3
  have hsl3 := h3.lt
  have hgl3 := h3.row.lt
  have FF := Lib.hid hF
  obtain ⟨M, hM⟩ : ∃ M, putF (fun _ => 0) 0 len f = M := ⟨_, rfl⟩
  have MM := Lib.hid hM
  have hmk : (Instr.makeSlice 27 (.int .i64 256) (.int .i64 256)).run Try.prog w3 = _ := make_run w3 256 (by omega)
  clear h3 hg3 hF hM
  go_upto_region 7 with (refine wpList_put rfl (.tmp 30) (.tmp 31) _ _ rfl _ und8 one8 (some ⟨w3.heap.size, 0, none⟩) a 256 256 len cap rfl rfl w3.heap.size 0 len 256 (fun _ => 0) f (Row.new w3 _ _) (by show len = Nat.min len 256; exact (Nat.min_eq_left hlen).symm) (by omega) (fun _ => rfl) ((HB.out).kept (below_more b3 _)) ?_
                         intro wL hr4 hg4
                         rw [MM.out] at hr4
                         have HML := Lib.hid hr4
                         have HSL := Lib.hid (((HS3.out).below (below_new w3 _)).kept hg4 (by simp; omega) (by simp; omega))
                         have bL := (below_more b3 _).grown hg4 (below_more b3 _).size (fun k hk => by injection hk with hk; have := b3.size; omega)
                         have hml4 := hr4.lt
                         obtain ⟨m, hm⟩ : ∃ m, w3.heap.size = m := ⟨_, rfl⟩
                         rw [hm] at HML hml4 hsl3 hgl3
                         rw [hm]
                         clear hr4 hg4 hmk HS3 b3 HS hm b2 hsl hgl)
  have hc : (fr ≠ 0 ∧ fr ≠ 1) ∨ fr = 0 ∨ fr = 1 := by omega
  have ho : off < 0 ∨ (0 ≤ off ∧ off < 32) ∨ (32 ≤ off ∧ off ≤ 256) ∨ 256 < off := by omega
  rcases hc with ⟨c1, c2⟩ | rfl | rfl
  · have t1 : (fr == 0) = false := by simpa using c1
    have t2 : (fr == 1) = false := by simpa using c2
    clear ho
    have HR := Lib.hid (read_no (HSL.out) fr off n hoff (by unfold PartOk; omega))
    go_wp2_with fail
    refine (HR.out).mono ?_
    rintro e w9 ⟨rfl, rfl⟩
    have HLD := Lib.hid (load_no (HSL.out) fr off (by omega))
    go_wp2_with fail
    refine (HLD.out).mono ?_
    rintro e w9 ⟨rfl, rfl⟩
    go_wp2
    go_ret
    exact ⟨rfl, bL⟩
  · rcases ho with ho | ⟨ho, ho2⟩ | ⟨ho, ho2⟩ | ho
    · have t3 : decide (off < 32) = true := by simp; omega
      have HR := Lib.hid (read_no (HSL.out) 0 off n hoff (by unfold PartOk; omega))
      go_wp2_with fail
      refine (HR.out).mono ?_
      rintro e w9 ⟨rfl, rfl⟩
      have HLD := Lib.hid (load_no (HSL.out) 0 off (by omega))
      go_wp2_with fail
      refine (HLD.out).mono ?_
      rintro e w9 ⟨rfl, rfl⟩
      go_wp2
      go_ret
      exact ⟨rfl, bL⟩
    · obtain ⟨o, rfl⟩ := Int.eq_ofNat_of_zero_le (show 0 ≤ off by omega)
      have hn3 : n < 0 ∨ (0 ≤ n ∧ 256 - (o : Int) < n) ∨ (0 ≤ n ∧ n ≤ 256 - (o : Int)) := by omega
      rcases hn3 with hn3 | ⟨hn3, hn4⟩ | ⟨hn3, hn4⟩
      · have HR := Lib.hid (read_no (HSL.out) 0 o n hoff (by unfold PartOk; omega))
        go_wp2_with fail
        refine (HR.out).mono ?_
        rintro e w9 ⟨rfl, rfl⟩
        have hld := load_ok (HSL.out) 0 o (by omega) (by omega)
        rw [word_none FF.out o (by omega)] at hld
        have HLD := Lib.hid hld
        clear hld
        go_wp2_with fail
        refine (HLD.out).mono ?_
        rintro e w9 ⟨rfl, rfl⟩
        go_wp2
        go_ret
        exact ⟨rfl, bL⟩
      · have HR := Lib.hid (read_no (HSL.out) 0 o n hoff (by unfold PartOk; omega))
        go_wp2_with fail
        refine (HR.out).mono ?_
        rintro e w9 ⟨rfl, rfl⟩
        have hld := load_ok (HSL.out) 0 o (by omega) (by omega)
        rw [word_none FF.out o (by omega)] at hld
        have HLD := Lib.hid hld
        clear hld
        go_wp2_with fail
        refine (HLD.out).mono ?_
        rintro e w9 ⟨rfl, rfl⟩
        go_wp2
        go_ret
        exact ⟨rfl, bL⟩
      · obtain ⟨q, rfl⟩ := Int.eq_ofNat_of_zero_le hn3
        have HR := Lib.hid (read_ok (HSL.out) 0 o q (by unfold PartOk; omega))
        go_wp2_with fail
        refine (HR.out).mono ?_
        rintro e wR ⟨rfl, hR, bR⟩
        simp only [Int.toNat_natCast] at hR ⊢
        obtain ⟨r, hr⟩ : ∃ r, wL.heap.size = r := ⟨_, rfl⟩
        rw [hr] at hR hml4 ⊢
        have hmk2 := make_run wR q (by omega)
        have hrR := hR.lt
        obtain ⟨W2, hW2⟩ : ∃ W, wR.alloc (.cells (rowV (fun _ => 0) q).toArray 5) = W := ⟨_, rfl⟩
        have hN := Row.new wR (fun _ => 0) q
        have bN := below_new wR (.cells (rowV (fun _ => 0) q).toArray 5)
        rw [hW2] at hmk2 hN bN
        have cv1 := conv_at ((hR.below bN).bytes0 q (Nat.le_refl _)) q
        rw [strF_congr _ (fun _ => 0) q (fun i hi => by rw [← FF.out]; unfold putF; rw [if_neg (by rw [show Int.toNat 1 * 256 + Int.toNat 0 = 256 by decide, show Int.toNat 0 = 0 by decide]; omega)])] at cv1
        have cv2 := conv_at (hN.bytes0 q (Nat.le_refl _)) q
        have HSL2 := Lib.hid (((HSL.out).below bR).below bN)
        have HML2 := Lib.hid (((HML.out).below bR).below bN)
        have bL2 := below_up (below_up bL bR) bN
        clear hR bR hW2 hN bN HSL HML bL HR hr
        have HSL := HSL2
        have HML := HML2
        have bL := bL2
        clear HSL2 HML2 bL2
        have hld := load_ok (HSL.out) 0 o (by omega) (by omega)
        rw [word_none FF.out o (by omega)] at hld
        have HLD := Lib.hid hld
        clear hld
        go_wp2_with fail
        refine (HLD.out).mono ?_
        rintro e w9 ⟨rfl, rfl⟩
        go_wp2
        go_ret
        exact ⟨rfl, bL⟩
    · obtain ⟨o, rfl⟩ := Int.eq_ofNat_of_zero_le (show 0 ≤ off by omega)
      have t3 : decide ((o : Int) < 32) = false := by simp; omega
      have t4 : decide (o < 32) = false := by simp; omega
      have hn3 : n < 0 ∨ (0 ≤ n ∧ 256 - (o : Int) < n) ∨ (0 ≤ n ∧ n ≤ 256 - (o : Int)) := by omega
      rcases hn3 with hn3 | ⟨hn3, hn4⟩ | ⟨hn3, hn4⟩
      · have HR := Lib.hid (read_no (HSL.out) 0 o n hoff (by unfold PartOk; omega))
        go_wp2_with fail
        refine (HR.out).mono ?_
        rintro e w9 ⟨rfl, rfl⟩
        have HLD := Lib.hid (load_no (HSL.out) 0 o (by omega))
        go_wp2_with fail
        refine (HLD.out).mono ?_
        rintro e w9 ⟨rfl, rfl⟩
        go_wp2
        go_ret
        exact ⟨rfl, bL⟩
      · have HR := Lib.hid (read_no (HSL.out) 0 o n hoff (by unfold PartOk; omega))
        go_wp2_with fail
        refine (HR.out).mono ?_
        rintro e w9 ⟨rfl, rfl⟩
        have HLD := Lib.hid (load_no (HSL.out) 0 o (by omega))
        go_wp2_with fail
        refine (HLD.out).mono ?_
        rintro e w9 ⟨rfl, rfl⟩
        go_wp2
        go_ret
        exact ⟨rfl, bL⟩
      · obtain ⟨q, rfl⟩ := Int.eq_ofNat_of_zero_le hn3
        have HR := Lib.hid (read_ok (HSL.out) 0 o q (by unfold PartOk; omega))
        go_wp2_with fail
        refine (HR.out).mono ?_
        rintro e wR ⟨rfl, hR, bR⟩
        simp only [Int.toNat_natCast] at hR ⊢
        obtain ⟨r, hr⟩ : ∃ r, wL.heap.size = r := ⟨_, rfl⟩
        rw [hr] at hR hml4 ⊢
        have hmk2 := make_run wR q (by omega)
        have hrR := hR.lt
        obtain ⟨W2, hW2⟩ : ∃ W, wR.alloc (.cells (rowV (fun _ => 0) q).toArray 5) = W := ⟨_, rfl⟩
        have hN := Row.new wR (fun _ => 0) q
        have bN := below_new wR (.cells (rowV (fun _ => 0) q).toArray 5)
        rw [hW2] at hmk2 hN bN
        have cv1 := conv_at ((hR.below bN).bytes0 q (Nat.le_refl _)) q
        rw [strF_congr _ (fun _ => 0) q (fun i hi => by rw [← FF.out]; unfold putF; rw [if_neg (by rw [show Int.toNat 1 * 256 + Int.toNat 0 = 256 by decide, show Int.toNat 0 = 0 by decide]; omega)])] at cv1
        have cv2 := conv_at (hN.bytes0 q (Nat.le_refl _)) q
        have HSL2 := Lib.hid (((HSL.out).below bR).below bN)
        have HML2 := Lib.hid (((HML.out).below bR).below bN)
        have bL2 := below_up (below_up bL bR) bN
        clear hR bR hW2 hN bN HSL HML bL HR hr
        have HSL := HSL2
        have HML := HML2
        have bL := bL2
        clear HSL2 HML2 bL2
        have HLD := Lib.hid (load_no (HSL.out) 0 o (by omega))
        go_wp2_with fail
        refine (HLD.out).mono ?_
        rintro e w9 ⟨rfl, rfl⟩
        go_wp2
        go_ret
        exact ⟨rfl, bL⟩
    · have t3 : decide (off < 32) = false := by simp; omega
      have hn3 : n < 0 ∨ 0 ≤ n := by omega
      have ho3 : 0 ≤ off := by omega
      rcases hn3 with hn3 | hn3
      · have HR := Lib.hid (read_no (HSL.out) 0 off n hoff (by unfold PartOk; omega))
        go_wp2_with fail
        refine (HR.out).mono ?_
        rintro e w9 ⟨rfl, rfl⟩
        have HLD := Lib.hid (load_no (HSL.out) 0 off (by omega))
        go_wp2_with fail
        refine (HLD.out).mono ?_
        rintro e w9 ⟨rfl, rfl⟩
        go_wp2
        go_ret
        exact ⟨rfl, bL⟩
      · have HR := Lib.hid (read_no (HSL.out) 0 off n hoff (by unfold PartOk; omega))
        go_wp2_with fail
        refine (HR.out).mono ?_
        rintro e w9 ⟨rfl, rfl⟩
        have HLD := Lib.hid (load_no (HSL.out) 0 off (by omega))
        go_wp2_with fail
        refine (HLD.out).mono ?_
        rintro e w9 ⟨rfl, rfl⟩
        go_wp2
        go_ret
        exact ⟨rfl, bL⟩
  · rcases ho with ho | ⟨ho, ho2⟩ | ⟨ho, ho2⟩ | ho
    · have t3 : decide (off < 32) = true := by simp; omega
      have HR := Lib.hid (read_no (HSL.out) 1 off n hoff (by unfold PartOk; omega))
      go_wp2_with fail
      refine (HR.out).mono ?_
      rintro e w9 ⟨rfl, rfl⟩
      have HLD := Lib.hid (load_no (HSL.out) 1 off (by omega))
      go_wp2_with fail
      refine (HLD.out).mono ?_
      rintro e w9 ⟨rfl, rfl⟩
      go_wp2
      go_ret
      exact ⟨rfl, bL⟩
    · obtain ⟨o, rfl⟩ := Int.eq_ofNat_of_zero_le (show 0 ≤ off by omega)
      have hn3 : n < 0 ∨ (0 ≤ n ∧ 256 - (o : Int) < n) ∨ (0 ≤ n ∧ n ≤ 256 - (o : Int)) := by omega
      rcases hn3 with hn3 | ⟨hn3, hn4⟩ | ⟨hn3, hn4⟩
      · have HR := Lib.hid (read_no (HSL.out) 1 o n hoff (by unfold PartOk; omega))
        go_wp2_with fail
        refine (HR.out).mono ?_
        rintro e w9 ⟨rfl, rfl⟩
        have hld := load_ok (HSL.out) 1 o (by omega) (by omega)
        rw [word_same FF.out MM.out o (by omega)] at hld
        have HLD := Lib.hid hld
        have HOF := Lib.hid (fun cap => of_in (some ⟨m, 8 * o, none⟩) 8 cap (fun j => M (8 * o + j)) wL ((HML.out).bytes (8 * o) 8 (by omega)) (fun j => by rw [← MM.out]; exact putF_lt (fun _ => by decide) (HF.out) _ _ _) (by omega))
        clear hld
        go_wp2_with fail
        refine (HLD.out).mono ?_
        rintro e w9 ⟨rfl, rfl⟩
        go_wp2_with fail
        refine (HOF.out _).mono ?_
        rintro e w9 ⟨rfl, rfl⟩
        go_wp2
        go_ret
        exact ⟨rfl, bL⟩
      · have HR := Lib.hid (read_no (HSL.out) 1 o n hoff (by unfold PartOk; omega))
        go_wp2_with fail
        refine (HR.out).mono ?_
        rintro e w9 ⟨rfl, rfl⟩
        have hld := load_ok (HSL.out) 1 o (by omega) (by omega)
        rw [word_same FF.out MM.out o (by omega)] at hld
        have HLD := Lib.hid hld
        have HOF := Lib.hid (fun cap => of_in (some ⟨m, 8 * o, none⟩) 8 cap (fun j => M (8 * o + j)) wL ((HML.out).bytes (8 * o) 8 (by omega)) (fun j => by rw [← MM.out]; exact putF_lt (fun _ => by decide) (HF.out) _ _ _) (by omega))
        clear hld
        go_wp2_with fail
        refine (HLD.out).mono ?_
        rintro e w9 ⟨rfl, rfl⟩
        go_wp2_with fail
        refine (HOF.out _).mono ?_
        rintro e w9 ⟨rfl, rfl⟩
        go_wp2
        go_ret
        exact ⟨rfl, bL⟩
      · obtain ⟨q, rfl⟩ := Int.eq_ofNat_of_zero_le hn3
        have HR := Lib.hid (read_ok (HSL.out) 1 o q (by unfold PartOk; omega))
        go_wp2_with fail
        refine (HR.out).mono ?_
        rintro e wR ⟨rfl, hR, bR⟩
        simp only [Int.toNat_natCast] at hR ⊢
        obtain ⟨r, hr⟩ : ∃ r, wL.heap.size = r := ⟨_, rfl⟩
        rw [hr] at hR hml4 ⊢
        have hmk2 := make_run wR q (by omega)
        have hrR := hR.lt
        have HRR := Lib.hid hR
        have BR := Lib.hid bR
        have hsz := bR.size
        clear hR bR HR
        go_wp2_with (refine wpList_put rfl (.tmp 70) (.tmp 73) _ _ rfl _ und8 one8 (some ⟨wR.heap.size, 0, none⟩) (some ⟨m, o, none⟩) q q (256 - o) (256 - o) rfl rfl wR.heap.size 0 q q (fun _ => 0) (fun i => M (o + i)) (Row.new wR _ _) (by show q = Nat.min (256 - o) q; exact (Nat.min_eq_right (by omega)).symm) (by omega) (fun _ => rfl) ((((HML.out).below BR.out).below (below_new wR _)).bytes o (256 - o) (by omega)) ?_
                     intro W2 hr5 hg5
                     have hq5 : r ≠ wR.heap.size := by omega
                     have hR5 := ((HRR.out).below (below_new wR _)).kept hg5 (fun e => hq5 (Option.some.inj e))
                     have cv1 := conv_at (hR5.bytes0 q (Nat.le_refl _)) q
                     rw [strF_congr _ (fun i => M (o + i)) q (fun i hi => text_same FF.out MM.out o i (by omega))] at cv1
                     have cv2 := conv_at (hr5.bytes0 q (Nat.le_refl _)) q
                     rw [strF_congr _ (fun i => M (o + i)) q (fun i hi => by unfold putF; rw [if_pos (by omega), Nat.sub_zero])] at cv2
                     have HSL2 := Lib.hid ((((HSL.out).below BR.out).below (below_new wR _)).kept hg5 (by simp; omega) (by simp; omega))
                     have HML2 := Lib.hid ((((HML.out).below BR.out).below (below_new wR _)).kept hg5 (by simp; omega))
                     have bL2 := (below_more (below_up bL BR.out) _).grown hg5 (below_more (below_up bL BR.out) _).size (fun k hk => by injection hk with hk; have := (below_up bL BR.out).size; omega)
                     clear hr5 hg5 hq5 hR5 HSL HML bL
                     have HSL := HSL2; have HML := HML2; have bL := bL2; clear HSL2 HML2 bL2)
        have hld := load_ok (HSL.out) 1 o (by omega) (by omega)
        rw [word_same FF.out MM.out o (by omega)] at hld
        have HLD := Lib.hid hld
        have HOF := Lib.hid (fun cap => of_in (some ⟨m, 8 * o, none⟩) 8 cap (fun j => M (8 * o + j)) W2 ((HML.out).bytes (8 * o) 8 (by omega)) (fun j => by rw [← MM.out]; exact putF_lt (fun _ => by decide) (HF.out) _ _ _) (by omega))
        clear hld
        refine (HLD.out).mono ?_
        rintro e w9 ⟨rfl, rfl⟩
        go_wp2_with fail
        refine (HOF.out _).mono ?_
        rintro e w9 ⟨rfl, rfl⟩
        go_wp2
        go_ret
        exact ⟨rfl, bL⟩
    · obtain ⟨o, rfl⟩ := Int.eq_ofNat_of_zero_le (show 0 ≤ off by omega)
      have t3 : decide ((o : Int) < 32) = false := by simp; omega
      have t4 : decide (o < 32) = false := by simp; omega
      have hn3 : n < 0 ∨ (0 ≤ n ∧ 256 - (o : Int) < n) ∨ (0 ≤ n ∧ n ≤ 256 - (o : Int)) := by omega
      rcases hn3 with hn3 | ⟨hn3, hn4⟩ | ⟨hn3, hn4⟩
      · have HR := Lib.hid (read_no (HSL.out) 1 o n hoff (by unfold PartOk; omega))
        go_wp2_with fail
        refine (HR.out).mono ?_
        rintro e w9 ⟨rfl, rfl⟩
        have HLD := Lib.hid (load_no (HSL.out) 1 o (by omega))
        go_wp2_with fail
        refine (HLD.out).mono ?_
        rintro e w9 ⟨rfl, rfl⟩
        go_wp2
        go_ret
        exact ⟨rfl, bL⟩
      · have HR := Lib.hid (read_no (HSL.out) 1 o n hoff (by unfold PartOk; omega))
        go_wp2_with fail
        refine (HR.out).mono ?_
        rintro e w9 ⟨rfl, rfl⟩
        have HLD := Lib.hid (load_no (HSL.out) 1 o (by omega))
        go_wp2_with fail
        refine (HLD.out).mono ?_
        rintro e w9 ⟨rfl, rfl⟩
        go_wp2
        go_ret
        exact ⟨rfl, bL⟩
      · obtain ⟨q, rfl⟩ := Int.eq_ofNat_of_zero_le hn3
        by_cases h256 : o < 256
        · have HR := Lib.hid (read_ok (HSL.out) 1 o q (by unfold PartOk; omega))
          go_wp2_with fail
          refine (HR.out).mono ?_
          rintro e wR ⟨rfl, hR, bR⟩
          simp only [Int.toNat_natCast] at hR ⊢
          obtain ⟨r, hr⟩ : ∃ r, wL.heap.size = r := ⟨_, rfl⟩
          rw [hr] at hR hml4 ⊢
          have hmk2 := make_run wR q (by omega)
          have hrR := hR.lt
          have HRR := Lib.hid hR
          have BR := Lib.hid bR
          have hsz := bR.size
          clear hR bR HR
          go_wp2_with (refine wpList_put rfl (.tmp 70) (.tmp 73) _ _ rfl _ und8 one8 (some ⟨wR.heap.size, 0, none⟩) (some ⟨m, o, none⟩) q q (256 - o) (256 - o) rfl rfl wR.heap.size 0 q q (fun _ => 0) (fun i => M (o + i)) (Row.new wR _ _) (by show q = Nat.min (256 - o) q; exact (Nat.min_eq_right (by omega)).symm) (by omega) (fun _ => rfl) ((((HML.out).below BR.out).below (below_new wR _)).bytes o (256 - o) (by omega)) ?_
                       intro W2 hr5 hg5
                       have hq5 : r ≠ wR.heap.size := by omega
                       have hR5 := ((HRR.out).below (below_new wR _)).kept hg5 (fun e => hq5 (Option.some.inj e))
                       have cv1 := conv_at (hR5.bytes0 q (Nat.le_refl _)) q
                       rw [strF_congr _ (fun i => M (o + i)) q (fun i hi => text_same FF.out MM.out o i (by omega))] at cv1
                       have cv2 := conv_at (hr5.bytes0 q (Nat.le_refl _)) q
                       rw [strF_congr _ (fun i => M (o + i)) q (fun i hi => by unfold putF; rw [if_pos (by omega), Nat.sub_zero])] at cv2
                       have HSL2 := Lib.hid ((((HSL.out).below BR.out).below (below_new wR _)).kept hg5 (by simp; omega) (by simp; omega))
                       have HML2 := Lib.hid ((((HML.out).below BR.out).below (below_new wR _)).kept hg5 (by simp; omega))
                       have bL2 := (below_more (below_up bL BR.out) _).grown hg5 (below_more (below_up bL BR.out) _).size (fun k hk => by injection hk with hk; have := (below_up bL BR.out).size; omega)
                       clear hr5 hg5 hq5 hR5 HSL HML bL
                       have HSL := HSL2; have HML := HML2; have bL := bL2; clear HSL2 HML2 bL2)
          have HLD := Lib.hid (load_no (HSL.out) 1 o (by omega))
          refine (HLD.out).mono ?_
          rintro e w9 ⟨rfl, rfl⟩
          go_wp2
          go_ret
          exact ⟨rfl, bL⟩
        · obtain rfl : o = 256 := by omega
          obtain rfl : q = 0 := by omega
          have HR := Lib.hid (read_ok (HSL.out) 1 256 0 (by unfold PartOk; omega))
          go_wp2_with fail
          refine (HR.out).mono ?_
          rintro e wR ⟨rfl, hR, bR⟩
          simp only [show Int.toNat 256 = 256 from rfl, show Int.toNat 0 = 0 from rfl] at hR ⊢
          obtain ⟨r, hr⟩ : ∃ r, wL.heap.size = r := ⟨_, rfl⟩
          rw [hr] at hR hml4 ⊢
          have hmk2 : (Instr.makeSlice 27 (.int .i64 0) (.int .i64 0)).run Try.prog wR = _ := make_run wR 0 (by omega)
          have hrR := hR.lt
          have HRR := Lib.hid hR
          have BR := Lib.hid bR
          have hsz := bR.size
          clear hR bR HR
          go_wp2_with (refine wpList_put rfl (.tmp 70) (.tmp 73) _ _ rfl _ und8 one8 (some ⟨wR.heap.size, 0, none⟩) (some ⟨m, 0, none⟩) 0 0 0 0 rfl rfl wR.heap.size 0 0 0 (fun _ => 0) (fun i => M (256 + i)) (Row.new wR _ _) (by decide) (by omega) (fun _ => rfl) (BytesAt.none_ _ _ _) ?_
                       intro W2 hr5 hg5
                       have hq5 : r ≠ wR.heap.size := by omega
                       have hR5 := ((HRR.out).below (below_new wR _)).kept hg5 (fun e => hq5 (Option.some.inj e))
                       have cv1 := conv_at (hR5.bytes0 0 (Nat.le_refl _)) 0
                       rw [strF_congr _ (fun i => M (256 + i)) 0 (fun i hi => by omega)] at cv1
                       have cv2 := conv_at (hr5.bytes0 0 (Nat.le_refl _)) 0
                       rw [strF_congr _ (fun i => M (256 + i)) 0 (fun i hi => by omega)] at cv2
                       have HSL2 := Lib.hid ((((HSL.out).below BR.out).below (below_new wR _)).kept hg5 (by simp; omega) (by simp; omega))
                       have HML2 := Lib.hid ((((HML.out).below BR.out).below (below_new wR _)).kept hg5 (by simp; omega))
                       have bL2 := (below_more (below_up bL BR.out) _).grown hg5 (below_more (below_up bL BR.out) _).size (fun k hk => by injection hk with hk; have := (below_up bL BR.out).size; omega)
                       clear hr5 hg5 hq5 hR5 HSL HML bL
                       have HSL := HSL2; have HML := HML2; have bL := bL2; clear HSL2 HML2 bL2)
          have HLD := Lib.hid (load_no (HSL.out) 1 256 (by omega))
          refine (HLD.out).mono ?_
          rintro e w9 ⟨rfl, rfl⟩
          go_wp2
          go_ret
          exact ⟨rfl, bL⟩
    · have t3 : decide (off < 32) = false := by simp; omega
      have hn3 : n < 0 ∨ 0 ≤ n := by omega
      have ho3 : 0 ≤ off := by omega
      rcases hn3 with hn3 | hn3
      · have HR := Lib.hid (read_no (HSL.out) 1 off n hoff (by unfold PartOk; omega))
        go_wp2_with fail
        refine (HR.out).mono ?_
        rintro e w9 ⟨rfl, rfl⟩
        have HLD := Lib.hid (load_no (HSL.out) 1 off (by omega))
        go_wp2_with fail
        refine (HLD.out).mono ?_
        rintro e w9 ⟨rfl, rfl⟩
        go_wp2
        go_ret
        exact ⟨rfl, bL⟩
      · have HR := Lib.hid (read_no (HSL.out) 1 off n hoff (by unfold PartOk; omega))
        go_wp2_with fail
        refine (HR.out).mono ?_
        rintro e w9 ⟨rfl, rfl⟩
        have HLD := Lib.hid (load_no (HSL.out) 1 off (by omega))
        go_wp2_with fail
        refine (HLD.out).mono ?_
        rintro e w9 ⟨rfl, rfl⟩
        go_wp2
        go_ret
        exact ⟨rfl, bL⟩
theorem walk (p_p : Option Addr) (p_p_len p_p_cap : Nat) (p_p_z : List Int) (p_frame : Int) (hp_frame : -9223372036854775808 ≤ p_frame ∧ p_frame ≤ 9223372036854775807) (p_off : Int) (hp_off : -9223372036854775808 ≤ p_off ∧ p_off ≤ 9223372036854775807) (p_n : Int) (hp_n : -9223372036854775808 ≤ p_n ∧ p_n ≤ 9223372036854775807) (w : World) (hp_p : IsRow .u8 w p_p p_p_len p_p_cap p_p_z) :
    Calls Try.prog 4 #[.slice p_p p_p_len p_p_cap, .int .i64 p_frame, .int .i64 p_off, .int .i64 p_n] w fun e w' => e = .returned (.bool true) ∧ Below w.heap.size w w' := by
  obtain ⟨hm, f, hb, hf, _⟩ := IsRow.bytes hp_p
  clear hp_p
  unfold maxLen at hm
  by_cases h1 : p_p_len ≤ 256
  · exact reads p_p p_p_len p_p_cap f w hb hf h1 _ _ _ hp_frame hp_off hp_n
  · go_enter Try.func4, Try.ntmps4
    go_wp2_with fail
    refine (awake4_in _).mono ?_
    rintro e w1 ⟨rfl, b1⟩
    go_wp2_with fail
    refine (awake4_in _).mono ?_
    rintro e w2 ⟨rfl, b2⟩
    go_wp2
    go_ret
    exact ⟨rfl, below_up b1 b2⟩

/-! ### the row's step -/
set_option maxRecDepth 100000 in
theorem lifted (os : Os) (started : os.Started) (H : Type) (enc : TypeId × Value → H) :
    ReturnsInHanded {} Try.checked os 4 .any (Rows.storeReadsSpec.pre6 enc Try.prog Try.f4 Rows.storeReadsRow.domain false) (Rows.storeReadsSpec.post enc Try.prog Try.f4 false true false false) := by
  refine returnsInHanded_of_change (C := Try.checked) own started (by kernel_rfl) Try.func4
    (ChangeSpec.witness6 (enc := enc) (C := Try.checked) false ⟨#[], #[.slice none 0 0, .int .i64 0, .int .i64 0, .int .i64 0], []⟩ 8 (by kernel_rfl) (by kernel_rfl) (by kernel_rfl) (by kernel_rfl)) ?_
  intro W base args ds gs before hval0 hW hcnd _
  have hval : ∀ (j : Nat) t v, Try.f4.params[j]? = some t → args[j]? = some v → Value.okWide Try.prog W .any base t v := hval0
  have hW' := hW
  obtain ⟨p, q, hA0, hV, rfl, hfz, hnd⟩ := hW
  have hA : DataW.TrodAll enc Try.prog W 0 (fun _ => true) true Try.f4.params.toList args.toList ds p := hA0
  rw [Try.params4] at hA hval
  obtain ⟨v0, vs0, d0, ds0, p0, q0, hargs, rfl, rfl, h0, r0⟩ := trodAll_cons hA
  obtain ⟨v1, vs1, d1, ds1, p1, q1, rfl, rfl, rfl, h1, r1⟩ := trodAll_cons r0
  obtain ⟨v2, vs2, d2, ds2, p2, q2, rfl, rfl, rfl, h2, r2⟩ := trodAll_cons r1
  obtain ⟨v3, vs3, d3, ds3, p3, q3, rfl, rfl, rfl, h3, r3⟩ := trodAll_cons r2
  obtain ⟨rfl, rfl, rfl⟩ := trodAll_nil r3
  obtain rfl : args = #[v0, v1, v2, v3] := by cases args; simp_all
  obtain ⟨rfl, rfl⟩ := trodVars_none hV
  obtain ⟨a0, len0, cap0, rfl⟩ := okWide_slice Try.underlying27 (hval 0 27 v0 rfl rfl)
  have k0 := h0
  have lt0 : ∀ x ∈ p0, x.block < W.heap.size := by obtain ⟨m, hm⟩ := k0; exact DataW.trod_lt m _ _ _ hm
  obtain ⟨z0, w0⟩ : ∃ zs, IsRow .u8 W a0 len0 cap0 zs := by
    obtain ⟨fuel, hf⟩ := h0
    rcases open_ints Try.underlying27 Try.underlying5 (by kernel_rfl) hf with ⟨hcs, _⟩ | ⟨x, l, c, zs, hcs, _, hl, hm, hz, _, hcell, hwz⟩
    · simp [Value.cells] at hcs
      obtain ⟨rfl, rfl, rfl⟩ := hcs
      exact ⟨[], .inl ⟨rfl, rfl, rfl, rfl⟩⟩
    · simp [Value.cells] at hcs
      obtain ⟨rfl, rfl, rfl⟩ := hcs
      exact ⟨zs, .inr ⟨_, rfl, hl, hm, by simpa using hz, hcell, hwz⟩⟩
  obtain ⟨a1, rfl, rfl, rfl, w1⟩ := open_int Try.underlying3 (hval 1 3 v1 rfl rfl) h1
  have b1 := wf_i64 w1
  obtain ⟨a2, rfl, rfl, rfl, w2⟩ := open_int Try.underlying3 (hval 2 3 v2 rfl rfl) h2
  have b2 := wf_i64 w2
  obtain ⟨a3, rfl, rfl, rfl, w3⟩ := open_int Try.underlying3 (hval 3 3 v3 rfl rfl) h3
  have b3 := wf_i64 w3
  clear hA0 hval0
  refine (walk a0 len0 cap0 z0 a1 b1 a2 b2 a3 b3 W w0).mono fun e W' ⟨he, bel⟩ => ?_
  subst he
  exact ⟨_, rfl, _, _, _, [], _, [], hW', trodAll_mk1 (shut_bool Try.underlying4 _), (trodAll_cons_mk (Below.trod laidOut (by kernel_rfl) (of_decide_eq_true (by kernel_rfl)) k0 bel lt0) (trodAll_cons_mk (shut_int Try.underlying3 w1) (trodAll_cons_mk (shut_int Try.underlying3 w2) (trodAll_cons_mk (shut_int Try.underlying3 w3) trodAll_mk0)))), rfl, bel.frame _, fun h => by cases h⟩

theorem over : Rows.storeReadsRow.holds Try.pinned (OpenSpec.ofChange Rows.storeReadsSpec) :=
  OpenClaim.holds_of_wide 4 Try.f4 rfl rfl rfl rfl rfl rfl rfl ⟨rfl, rfl, rfl, rfl, rfl⟩ rfl rfl rfl rfl rfl (by kernel_rfl) Try.func4 (by kernel_rfl)
    (of_decide_eq_true (by kernel_rfl)) (by unfold Func.isWrapper; first | (rw [if_pos (by decide +kernel)]; kernel_rfl) | (rw [if_neg (by decide +kernel)]; exact ⟨rfl, rfl⟩))
    (fun os started H enc _ => lifted os started H enc)

/-- THE STATEMENT -/
theorem proved : Rows.StoreReadsSaid := over
#print axioms proved
end Go.Proofs.Ythgopodjplpefaa.storeReads
