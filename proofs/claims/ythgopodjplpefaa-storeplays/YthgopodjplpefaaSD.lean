/-
  Contracts of package store's own calls: Read, Write, Load, Save, Clear, Copy, Twin, Same.
-/
import Derived.Test.YthgopodjplpefaaSC
import Derived.Maps.RangeWalk
import Derived.Deep.RegionLaw
namespace Go.Proofs.Ythgopodjplpefaa
open Go.ChangeShapes Go.WideShapes Go.ChangeAt Go.RowKit
open WM
set_option maxRecDepth 100000

theorem und8 : Try.prog.underlying 27 = some (.slice 5) := by kernel_rfl
theorem one8 : (Try.prog.info? 5).map (·.size) = some 1 := by kernel_rfl
theorem goInt_nat (n : Nat) : goInt n = .int .i64 n := rfl

theorem below_of_grown {w w' : World} (h : w.grownBy w' none) : Below w.heap.size w w' := ⟨h.os, h.tape, h.output, h.size, fun k hk => h.block k hk (by simp)⟩
theorem read_no {w : World} {s h n : Nat} {f : Nat → Nat} (H : St w s h n f) (fr off m : Int) (h2 : -9223372036854775808 ≤ off ∧ off ≤ 9223372036854775807) (hn : ¬ PartOk n fr off m) :
    Calls Try.prog 15 #[.pointer (some ⟨s, 0, none⟩), .int .i64 fr, .int .i64 off, .int .i64 m] w fun e w' => e = .returned (.tuple #[.slice none 0 0, .int .i64 1]) ∧ w = w' := by
  have H' := Lib.hid (part_no H fr off m h2 hn)
  clear H hn
  go_enter Try.func15, Try.ntmps15
  go_wp2_with (go_at_call 22; refine (H'.out).mono ?_; rintro e w' ⟨rfl, rfl⟩)
  go_ret2
  exact ⟨rfl, rfl⟩

theorem read_ok {w : World} {s h n : Nat} {f : Nat → Nat} (H : St w s h n f) (fr off m : Int) (hn : PartOk n fr off m) :
    Calls Try.prog 15 #[.pointer (some ⟨s, 0, none⟩), .int .i64 fr, .int .i64 off, .int .i64 m] w fun e w' =>
      e = .returned (.tuple #[.slice (some ⟨w.heap.size, 0, none⟩) m.toNat m.toNat, .int .i64 0]) ∧ Row w' w.heap.size (fun i => f (fr.toNat * 256 + off.toNat + i)) m.toNat ∧ Below w.heap.size w w' := by
  have HP := Lib.hid (part_ok H fr off m hn)
  obtain ⟨c1, c2, c3, c4, c5⟩ := hn
  obtain ⟨m, rfl⟩ := Int.eq_ofNat_of_zero_le c4
  have HA := Lib.hid (part_at H (fr.toNat * 256 + off.toNat) m (by omega))
  rw [Int.toNat_natCast] at HP ⊢
  have hmk := make_run w m (by omega)
  clear H
  obtain ⟨k, hk⟩ : ∃ k, fr.toNat * 256 + off.toNat = k := ⟨_, rfl⟩
  rw [hk] at HP HA ⊢
  obtain ⟨A, hA⟩ : ∃ A, partA h (256 * n) k = A := ⟨_, rfl⟩
  obtain ⟨C, hC⟩ : ∃ C, 256 * n - k = C := ⟨_, rfl⟩
  rw [hA, hC] at HP
  rw [hA] at HA
  clear hk hA hC c1 c2 c3 c5
  go_enter Try.func15, Try.ntmps15
  go_wp2_with (first
    | (go_at_call 22; refine (HP.out).mono ?_; rintro e w' ⟨rfl, rfl⟩)
    | (refine wpList_put rfl (.tmp 26) (.tmp 27) _ _ rfl _ und8 one8 (some ⟨w.heap.size, 0, none⟩) A m m m C rfl rfl w.heap.size 0 m m (fun _ => 0) (fun i => f (k + i)) (Row.new w _ _) (by simp) (by omega) (fun _ => rfl) ((HA.out).kept (below_new w _)) ?_
       intro w2 hr2 hg2
       have HR := Lib.hid hr2
       have HG := Lib.hid hg2
       clear hr2 hg2))
  go_ret2
  refine ⟨rfl, (HR.out).congr (fun i hi => ?_), (below_new w _).grown (HG.out) (by simp) (fun j hj => ?_)⟩
  · unfold putF; rw [if_pos (by omega)]; simp
  · injection hj with hj; omega

/-! ### Write -/
theorem write_no {w : World} {s h n : Nat} {f : Nat → Nat} (H : St w s h n f) (fr off : Int) (a : Option Addr) (len cap : Nat) (h2 : -9223372036854775808 ≤ off ∧ off ≤ 9223372036854775807) (hn : ¬ PartOk n fr off len) :
    Calls Try.prog 14 #[.pointer (some ⟨s, 0, none⟩), .int .i64 fr, .int .i64 off, .slice a len cap] w fun e w' => e = .returned (.int .i64 1) ∧ w = w' := by
  have H' := Lib.hid (part_no H fr off len h2 hn)
  clear H hn
  go_enter Try.func14, Try.ntmps14
  go_wp2_with (first
    | (go_at_call 22; refine (H'.out).mono ?_; rintro e w' ⟨rfl, rfl⟩)
    | (refine wpList_copy_nothing rfl (.tmp 20) (.tmp 21) _ _ rfl _ und8 one8 none a 0 0 len cap rfl rfl (Nat.min_eq_right (Nat.zero_le _)) ?_))
  go_ret
  exact ⟨rfl, rfl⟩
theorem write_ok {w : World} {s h n : Nat} {f : Nat → Nat} (H : St w s h n f) (fr off : Int) (a : Option Addr) (len cap : Nat) (p : Nat → Nat) (hp : ∀ i, p i < 256) (hb : BytesAt w a len p) (hn : PartOk n fr off len) :
    Calls Try.prog 14 #[.pointer (some ⟨s, 0, none⟩), .int .i64 fr, .int .i64 off, .slice a len cap] w fun e w' =>
      e = .returned (.int .i64 0) ∧ St w' s h n (putF f (fr.toNat * 256 + off.toNat) len p) ∧ w.grownBy w' (some h) := by
  have HP := Lib.hid (part_ok H fr off len hn)
  obtain ⟨c1, c2, c3, c4, c5⟩ := hn
  have hfit : fr.toNat * 256 + off.toNat + len ≤ 256 * n := by omega
  have H' := Lib.hid H
  have HB := Lib.hid hb
  have HPB := Lib.hid hp
  rw [Int.toNat_natCast] at HP
  clear H hb hp
  obtain ⟨k, hk⟩ : ∃ k, fr.toNat * 256 + off.toNat = k := ⟨_, rfl⟩
  rw [hk] at HP hfit ⊢
  obtain ⟨A, hA⟩ : ∃ A, partA h (256 * n) k = A := ⟨_, rfl⟩
  obtain ⟨C, hC⟩ : ∃ C, 256 * n - k = C := ⟨_, rfl⟩
  rw [hA, hC] at HP
  have HA := Lib.hid hA
  clear hk hA hC c1 c2 c3 c5
  go_enter Try.func14, Try.ntmps14
  go_wp2_with (first
    | (go_at_call 22; refine (HP.out).mono ?_; rintro e w' ⟨rfl, rfl⟩)
    | (refine wpList_put rfl (.tmp 20) (.tmp 21) _ _ rfl _ und8 one8 A a len C len cap rfl rfl h k len (256 * n) f p (H'.out).row (by simp) hfit (fun hl => by rw [← HA.out]; exact partA_pos (by omega)) (HB.out) ?_
       intro w2 hr2 hg2
       have HR := Lib.hid hr2
       have HG := Lib.hid hg2
       clear hr2 hg2))
  go_ret
  exact ⟨rfl, (H'.out).turned (HG.out) (HR.out) (putF_lt (H'.out).byte (HPB.out) _ _), HG.out⟩

/-! ### Load, Save -/
theorem load_no {w : World} {s h n : Nat} {f : Nat → Nat} (H : St w s h n f) (fr i : Int) (hn : ¬ (0 ≤ fr ∧ fr < n ∧ 0 ≤ i ∧ i < 32)) :
    Calls Try.prog 17 #[.pointer (some ⟨s, 0, none⟩), .int .i64 fr, .int .i64 i] w fun e w' => e = .returned (.tuple #[.int .u64 0, .int .i64 1]) ∧ w = w' := by
  have H' := Lib.hid (eight_no H fr i hn)
  clear H hn
  have HO := Lib.hid (of_in none 0 0 (fun _ => 0) w (BytesAt.none_ _ _ _) (fun _ => by decide) (by omega))
  go_enter Try.func17, Try.ntmps17
  go_wp2_with (first
    | (go_at_call 21; refine (H'.out).mono ?_; rintro e w' ⟨rfl, rfl⟩)
    | (go_at_call 18; refine (HO.out).mono ?_; rintro e w' ⟨rfl, rfl⟩))
  go_ret2
  exact ⟨rfl, rfl⟩
theorem load_ok {w : World} {s h n : Nat} {f : Nat → Nat} (H : St w s h n f) (fr i : Nat) (hf : fr < n) (hi : i < 32) :
    Calls Try.prog 17 #[.pointer (some ⟨s, 0, none⟩), .int .i64 fr, .int .i64 i] w fun e w' =>
      e = .returned (.tuple #[.int .u64 (ofN (fun j => f (fr * 256 + i * 8 + j)) 8 : Nat), .int .i64 0]) ∧ w = w' := by
  have H' := Lib.hid (eight_ok H fr i hf hi)
  have HO := Lib.hid (fun cap => of_in (some ⟨h, fr * 256 + i * 8, none⟩) 8 cap (fun j => f (fr * 256 + i * 8 + j)) w (H.row.bytes _ 8 (by omega)) (fun j => H.byte _) (by omega))
  clear H
  go_enter Try.func17, Try.ntmps17
  go_wp2_with (first
    | (go_at_call 21; refine (H'.out).mono ?_; rintro e w' ⟨rfl, rfl⟩)
    | (go_at_call 18; refine (HO.out _).mono ?_; rintro e w' ⟨rfl, rfl⟩))
  go_ret2
  exact ⟨rfl, rfl⟩
theorem save_no {w : World} {s h n : Nat} {f : Nat → Nat} (H : St w s h n f) (fr i : Int) (x : Nat) (hn : ¬ (0 ≤ fr ∧ fr < n ∧ 0 ≤ i ∧ i < 32)) :
    Calls Try.prog 10 #[.pointer (some ⟨s, 0, none⟩), .int .i64 fr, .int .i64 i, .int .u64 x] w fun e w' => e = .returned (.int .i64 1) ∧ Below w.heap.size w w' := by
  have H' := Lib.hid (eight_no H fr i hn)
  clear H hn
  go_enter Try.func10, Try.ntmps10
  go_wp2_with (first
    | (go_at_call 21; refine (H'.out).mono ?_; rintro e w' ⟨rfl, rfl⟩)
    | (go_at_call 11; refine (bytes_in x w).mono ?_; rintro e w' ⟨rfl, rfl⟩)
    | (refine wpList_copy_nothing rfl (.tmp 18) (.tmp 20) _ _ rfl _ und8 one8 none (some ⟨w.heap.size, 0, none⟩) 0 0 8 8 rfl rfl (by decide) ?_))
  go_ret
  exact ⟨rfl, below_new _ _⟩
theorem save_ok {w : World} {s h n : Nat} {f : Nat → Nat} (H : St w s h n f) (fr i : Nat) (x : Nat) (hf : fr < n) (hi : i < 32) :
    Calls Try.prog 10 #[.pointer (some ⟨s, 0, none⟩), .int .i64 fr, .int .i64 i, .int .u64 x] w fun e w' =>
      e = .returned (.int .i64 0) ∧ St w' s h n (putF f (fr * 256 + i * 8) 8 (byteN x)) ∧ w.grownBy w' (some h) := by
  have HE := Lib.hid (eight_ok H fr i hf hi)
  have HG0 := Lib.hid (World.grownBy_alloc w (.cells (bytesArr x 8) 5) none)
  have HS := Lib.hid (H.kept HG0.out (by simp) (by simp))
  have HB := Lib.hid (bytes_at x w)
  have hfit : fr * 256 + i * 8 + 8 ≤ 256 * n := by omega
  clear H
  obtain ⟨k, hk⟩ : ∃ k, fr * 256 + i * 8 = k := ⟨_, rfl⟩
  rw [hk] at HE hfit ⊢
  clear hk
  go_enter Try.func10, Try.ntmps10
  go_wp2_with (first
    | (go_at_call 21; refine (HE.out).mono ?_; rintro e w' ⟨rfl, rfl⟩)
    | (go_at_call 11; refine (bytes_in x w).mono ?_; rintro e w' ⟨rfl, rfl⟩)
    | (refine wpList_put rfl (.tmp 18) (.tmp 20) _ _ rfl _ und8 one8 (some ⟨h, k, none⟩) (some ⟨w.heap.size, 0, none⟩) 8 (256 * n - k) 8 8 rfl rfl h k 8 (256 * n) f (byteN x) (HS.out).row (by decide) hfit (fun _ => rfl) (HB.out) ?_
       intro w2 hr2 hg2
       have HR := Lib.hid hr2
       have HG := Lib.hid hg2
       clear hr2 hg2))
  go_ret
  exact ⟨rfl, (HS.out).turned (HG.out) (HR.out) (putF_lt (HS.out).byte (byteN_lt x) _ _), (World.grownBy.but HG0.out _).trans (HG.out)⟩

/-! ### Clear, Copy -/
theorem clear_nil (w : World) (fr : Int) : Calls Try.prog 12 #[.pointer none, .int .i64 fr] w fun e w' => e = .returned (.int .i64 1) ∧ w = w' := by
  go_enter Try.func12, Try.ntmps12
  go_wp2_with (first
    | (go_at_call 22; refine (part_nil _ _ _ _).mono ?_; rintro e w' ⟨rfl, rfl⟩)
    | (refine wpList_clear_nothing rfl (.tmp 13) rfl rfl ?_))
  go_ret
  exact ⟨rfl, rfl⟩
theorem clear_no {w : World} {s h n : Nat} {f : Nat → Nat} (H : St w s h n f) (fr : Int) (hn : ¬ (0 ≤ fr ∧ fr < n)) :
    Calls Try.prog 12 #[.pointer (some ⟨s, 0, none⟩), .int .i64 fr] w fun e w' => e = .returned (.int .i64 1) ∧ w = w' := by
  have HP := Lib.hid (part_no H fr 0 256 (by omega) (by unfold PartOk; omega))
  clear H hn
  go_enter Try.func12, Try.ntmps12
  go_wp2_with (first
    | (go_at_call 22; refine (HP.out).mono ?_; rintro e w' ⟨rfl, rfl⟩)
    | (refine wpList_clear_nothing rfl (.tmp 13) rfl rfl ?_))
  go_ret
  exact ⟨rfl, rfl⟩
theorem clear_ok {w : World} {s h n : Nat} {f : Nat → Nat} (H : St w s h n f) (fr : Nat) (hf : fr < n) :
    Calls Try.prog 12 #[.pointer (some ⟨s, 0, none⟩), .int .i64 fr] w fun e w' =>
      e = .returned (.int .i64 0) ∧ St w' s h n (putF f (fr * 256) 256 (fun _ => 0)) ∧ w.grownBy w' (some h) := by
  have hp := part_ok H fr 0 256 (by unfold PartOk; omega)
  rw [show (fr : Int).toNat = fr by omega, show (0 : Int).toNat = 0 by omega, show (256 : Int).toNat = 256 by omega, Nat.add_zero, partA_pos (by omega)] at hp
  have HP := Lib.hid hp
  have H' := Lib.hid H
  have hfit : fr * 256 + 256 ≤ 256 * n := by omega
  clear H hp
  obtain ⟨k, hk⟩ : ∃ k, fr * 256 = k := ⟨_, rfl⟩
  rw [hk] at HP hfit ⊢
  clear hk
  go_enter Try.func12, Try.ntmps12
  go_wp2_with (first
    | (go_at_call 22; refine (HP.out).mono ?_; rintro e w' ⟨rfl, rfl⟩)
    | (refine wpList_clear rfl (.tmp 13) rfl h k 256 (256 * n - k) (256 * n) f rfl (H'.out).row hfit (by omega) ?_
       intro w2 hr2 hg2
       have HR := Lib.hid hr2
       have HG := Lib.hid hg2
       clear hr2 hg2))
  go_ret
  exact ⟨rfl, (H'.out).turned (HG.out) (HR.out) (putF_lt (H'.out).byte (fun _ => by decide) _ _), HG.out⟩
theorem copy_no {w : World} {s h n : Nat} {f : Nat → Nat} (H : St w s h n f) (to fr : Int) (hn : ¬ (0 ≤ to ∧ to < n ∧ 0 ≤ fr ∧ fr < n)) :
    Calls Try.prog 13 #[.pointer (some ⟨s, 0, none⟩), .int .i64 to, .int .i64 fr] w fun e w' => e = .returned (.int .i64 1) ∧ w = w' := by
  by_cases hf : 0 ≤ fr ∧ fr < n
  · have HP := Lib.hid (part_ok H fr 0 256 (by unfold PartOk; omega))
    have HW := Lib.hid (fun a cap => write_no H to 0 a 256 cap (by omega) (by unfold PartOk; omega))
    clear H hn hf
    go_enter Try.func13, Try.ntmps13
    go_wp2_with (first
      | (go_at_call 22; refine (HP.out).mono ?_; rintro e w' ⟨rfl, rfl⟩)
      | (go_at_call 14; refine (HW.out _ _).mono ?_; rintro e w' ⟨rfl, rfl⟩))
    go_ret
    exact ⟨rfl, rfl⟩
  · have HP := Lib.hid (part_no H fr 0 256 (by omega) (by unfold PartOk; omega))
    clear H hn hf
    go_enter Try.func13, Try.ntmps13
    go_wp2_with (first
      | (go_at_call 22; refine (HP.out).mono ?_; rintro e w' ⟨rfl, rfl⟩))
    go_ret
    exact ⟨rfl, rfl⟩
theorem copy_ok {w : World} {s h n : Nat} {f : Nat → Nat} (H : St w s h n f) (to fr : Nat) (ht : to < n) (hf : fr < n) :
    Calls Try.prog 13 #[.pointer (some ⟨s, 0, none⟩), .int .i64 to, .int .i64 fr] w fun e w' =>
      e = .returned (.int .i64 0) ∧ St w' s h n (putF f (to * 256) 256 (fun i => f (fr * 256 + i))) ∧ w.grownBy w' (some h) := by
  have hp := part_ok H fr 0 256 (by unfold PartOk; omega)
  rw [show (fr : Int).toNat = fr by omega, show (0 : Int).toNat = 0 by omega, show (256 : Int).toNat = 256 by omega, Nat.add_zero, partA_pos (by omega)] at hp
  have HP := Lib.hid hp
  have hw := fun cap => write_ok H to 0 (some ⟨h, fr * 256, none⟩) 256 cap (fun i => f (fr * 256 + i)) (fun i => H.byte _) (H.row.bytes _ 256 (by omega)) (by unfold PartOk; omega)
  rw [show (to : Int).toNat = to by omega, show (0 : Int).toNat = 0 by omega, Nat.add_zero] at hw
  have HW := Lib.hid hw
  clear H hp hw
  go_enter Try.func13, Try.ntmps13
  go_wp2_with (first
    | (go_at_call 22; refine (HP.out).mono ?_; rintro e w' ⟨rfl, rfl⟩)
    | (go_at_call 14; refine (HW.out _).mono ?_; rintro e w' ⟨rfl, h1, h2⟩; have H1 := Lib.hid h1; have H2 := Lib.hid h2; clear h1 h2))
  go_ret
  exact ⟨rfl, H1.out, H2.out⟩

/-! ### Twin, Same -/
theorem twin_nil (w : World) : Calls Try.prog 19 #[.pointer none] w fun e w' => e = .returned (.pointer none) ∧ w = w' := by
  go_enter Try.func19, Try.ntmps19
  go_wp2
  go_ret
  exact ⟨rfl, rfl⟩
theorem twin_in {w : World} {s h n : Nat} {f : Nat → Nat} (H : St w s h n f) :
    Calls Try.prog 19 #[.pointer (some ⟨s, 0, none⟩)] w fun e w' =>
      e = .returned (.pointer (some ⟨w.heap.size + 1, 0, none⟩)) ∧ St w' (w.heap.size + 1) w.heap.size n f ∧ Below w.heap.size w w' := by
  have HF := Lib.hid (frames_in H)
  have hn := H.le
  have hnew := new_in (n : Nat) (by omega) w
  rw [show clampN (n : Nat) = n by unfold clampN; omega] at hnew
  have HN := Lib.hid hnew
  have H' := Lib.hid H
  have hs := H.lt
  have hh := H.row.lt
  clear H hnew
  go_enter Try.func19, Try.ntmps19
  go_wp2_with (first
    | (go_at_call 16; refine (HF.out).mono ?_; rintro e w' ⟨rfl, rfl⟩)
    | (go_at_call 9; refine (HN.out).mono ?_; rintro e w1 ⟨rfl, h1, h2⟩
       have HS := Lib.hid ((H'.out).kept h2 (by simp) (by simp)); have H1 := Lib.hid h1; have H2 := Lib.hid h2
       have c1 := h1.cell
       have c2 := (HS.out).cell
       clear h1 h2))
  go_region_law (refine step_put rfl (.tmp 12) (.tmp 16) _ _ rfl _ und8 one8 w.heap.size h (256 * n) (256 * n) (fun _ => 0) f (256 * n) (256 * n) (by simp [Act.eval]) (by simp [Act.eval]) (H1.out).row (HS.out).row (by omega) ?_; intro w2 hr2 hg2; have HR := Lib.hid hr2; have HG := Lib.hid hg2; clear hr2 hg2)
  all_goals go_wp2
  all_goals go_ret
  all_goals
    have hg1 : w1.grownBy w2 (some w.heap.size) := ⟨HG.out.os, HG.out.tape, HG.out.output, HG.out.size, HG.out.block⟩
    exact ⟨rfl, (H1.out).turned hg1 (HR.out) (H'.out).byte, (below_of_grown H2.out).grown hg1 (H2.out).size (fun k hk => by injection hk with hk; omega)⟩
theorem equal_in {w : World} {a b : Option Addr} {n m : Nat} {f g : Nat → Nat} (c d : Nat) (ha : BytesAt w a n f) (hb : BytesAt w b m g) :
    Calls Try.prog 24 #[.slice a n c, .slice b m d] w fun e w' => e = .returned (.bool (sameS (strF f n) (strF g m))) ∧ w = w' := by
  have h1 := conv_at ha c
  have h2 := conv_at hb d
  clear ha hb
  obtain ⟨x, hx⟩ : ∃ x, strF f n = x := ⟨_, rfl⟩
  obtain ⟨y, hy⟩ : ∃ y, strF g m = y := ⟨_, rfl⟩
  rw [hx] at h1 ⊢
  rw [hy] at h2 ⊢
  clear hx hy
  go_enter Try.func24, Try.ntmps24
  go_wp2
  go_ret
  exact ⟨rfl, rfl⟩
theorem same_in {w : World} {s h n t g m : Nat} {f k : Nat → Nat} (H : St w s h n f) (G : St w t g m k) :
    Calls Try.prog 20 #[.pointer (some ⟨s, 0, none⟩), .pointer (some ⟨t, 0, none⟩)] w fun e w' => e = .returned (.bool (sameS (strF f (256 * n)) (strF k (256 * m)))) ∧ w = w' := by
  have HA := Lib.hid (all_in H)
  have GA := Lib.hid (all_in G)
  have HE := Lib.hid (equal_in (256 * n) (256 * m) (H.row.bytes0 _ (Nat.le_refl _)) (G.row.bytes0 _ (Nat.le_refl _)))
  clear H G
  go_enter Try.func20, Try.ntmps20
  go_wp2_with (first
    | (go_at_call 23; with_reducible refine (HA.out).mono ?_; rintro e w' ⟨rfl, rfl⟩)
    | (go_at_call 23; with_reducible refine (GA.out).mono ?_; rintro e w' ⟨rfl, rfl⟩)
    | (go_at_call 24; refine (HE.out).mono ?_; rintro e w' ⟨rfl, rfl⟩))
  go_ret
  exact ⟨rfl, rfl⟩
theorem same_nil {w : World} {t g m : Nat} {k : Nat → Nat} (G : St w t g m k) :
    Calls Try.prog 20 #[.pointer none, .pointer (some ⟨t, 0, none⟩)] w fun e w' => e = .returned (.bool (sameS (strF (fun _ => 0) 0) (strF k (256 * m)))) ∧ w = w' := by
  have HA := Lib.hid (all_nil w)
  have GA := Lib.hid (all_in G)
  have HE := Lib.hid (equal_in 0 (256 * m) (BytesAt.none_ w none (fun _ => 0)) (G.row.bytes0 _ (Nat.le_refl _)))
  clear G
  go_enter Try.func20, Try.ntmps20
  go_wp2_with (first
    | (go_at_call 23; with_reducible refine (HA.out).mono ?_; rintro e w' ⟨rfl, rfl⟩)
    | (go_at_call 23; with_reducible refine (GA.out).mono ?_; rintro e w' ⟨rfl, rfl⟩)
    | (go_at_call 24; refine (HE.out).mono ?_; rintro e w' ⟨rfl, rfl⟩))
  go_ret
  exact ⟨rfl, rfl⟩

/-! ### the law's own example -/
theorem awake4_in (w : World) : Calls Try.prog 8 #[] w fun e w' => e = .returned (.bool true) ∧ Below w.heap.size w w' := by
  have HN := Lib.hid (new_in 2 (by omega) w)
  go_enter Try.func8, Try.ntmps8
  go_wp2_with fail
  refine (HN.out).mono ?_
  rintro e w1 ⟨rfl, h1, h2⟩
  have b1 := below_of_grown h2
  have HS := Lib.hid (save_ok h1 0 1 5 (by decide) (by decide))
  clear h1 h2
  go_wp2_with fail
  refine (HS.out).mono ?_
  rintro e w2 ⟨rfl, h1, h2⟩
  have b2 := b1.grown h2 b1.size (fun k hk => by injection hk with hk; omega)
  have HF := Lib.hid (frames_in h1)
  have HR := Lib.hid (read_ok h1 0 8 1 (by unfold PartOk clampN; omega))
  have HT := Lib.hid h1
  clear h1 h2 b1
  go_wp2_with fail
  refine (HR.out).mono ?_
  rintro e w3 ⟨rfl, h1, h2⟩
  have HF3 := Lib.hid (frames_in ((HT.out).below h2))
  have c0 : w3.cell? ⟨w2.heap.size, 0, none⟩ = some (.int .u8 5) := h1.cell 0 (by decide)
  have b3 := below_up b2 h2
  clear h1 h2 b2
  go_wp2_with (go_at_call 16; refine (HF3.out).mono ?_; rintro e w' ⟨rfl, rfl⟩)
  go_ret
  exact ⟨rfl, b3⟩
end Go.Proofs.Ythgopodjplpefaa
