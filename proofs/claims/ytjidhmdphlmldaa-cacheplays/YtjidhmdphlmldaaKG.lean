/-
  A new cache; a cache with all that a law wants of it; law07's awake.
-/
import Derived.Test.YtjidhmdphlmldaaKF
namespace Go.Proofs.Ytjidhmdphlmldaa
open Go.ChangeShapes Go.WideShapes Go.ChangeAt Go.RowKit
set_option maxRecDepth 100000

theorem ca_new (w : World) (t : TypeId) (base : Nat) (hb : base ≤ w.heap.size) : Ca (w.alloc (.cells #[.slice none 0 0] t)) base w.heap.size (.slice none 0 0) [] :=
  ⟨by simp, by simp, World.ownsRow_nil _ _ _ _, by simp [Value.ownBlock], by simp, hb⟩
/-- A cache that was made after w. -/
structure Cw (w wr : World) (C : Nat) (l : List R5) : Prop where
  ca : ∃ v, Ca wr w.heap.size C v l
  be : Below w.heap.size w wr
theorem cw_new {w U : World} (hb : Below w.heap.size w U) (t : TypeId) : Cw w (U.alloc (.cells #[.slice none 0 0] t)) U.heap.size [] :=
  ⟨⟨_, ca_new U t _ hb.size⟩, below_up hb (below_new U _)⟩
theorem Cw.below {w wr U : World} {C : Nat} {l : List R5} (h : Cw w wr C l) (hb : Below wr.heap.size wr U) : Cw w U C l := by
  obtain ⟨⟨v, h1⟩, h2⟩ := h
  exact ⟨⟨v, h1.below hb⟩, below_up h2 hb⟩
theorem Cw.cd {w wr U : World} {C : Nat} {v : Value} {l m : List R5} {e : Ending} (h : Cw w wr C l) (hv : Ca wr w.heap.size C v l) (hd : Cd wr w.heap.size C v m e U) : Cw w U C m := by
  obtain ⟨_, v', h1, h2⟩ := hd
  exact ⟨⟨v', h1⟩, h2.under hv h.be⟩
theorem Cw.put {w wr : World} {C : Nat} {l : List R5} (h : Cw w wr C l) (vm pg : Int) (th : Bool) (fr : Int) (wt : Bool) :
    Calls Try.prog 17 #[.pointer (some ⟨C, 0, none⟩), .int .i64 vm, .int .i64 pg, .agg #[.bool th, .int .i64 fr, .bool wt]] wr fun e U => e = .returned (.tuple #[]) ∧ Cw w U C (putL vm pg th fr wt l) := by
  obtain ⟨v, hv⟩ := h.ca
  exact (put_in hv vm pg th fr wt).mono (fun e U hd => ⟨hd.1, h.cd hv hd⟩)
theorem Cw.drop {w wr : World} {C : Nat} {l : List R5} (h : Cw w wr C l) (vm pg : Int) :
    Calls Try.prog 14 #[.pointer (some ⟨C, 0, none⟩), .int .i64 vm, .int .i64 pg] wr fun e U => e = .returned (.tuple #[]) ∧ Cw w U C (l.filter (fun r => !hitK vm pg r)) := by
  obtain ⟨v, hv⟩ := h.ca
  exact (drop_in hv vm pg).mono (fun e U hd => ⟨hd.1, h.cd hv hd⟩)
theorem Cw.look {w wr : World} {C : Nat} {l : List R5} (h : Cw w wr C l) (vm pg : Int) {o : Option R5} (ho : l.find? (hitK vm pg) = o) :
    Calls Try.prog 19 #[.pointer (some ⟨C, 0, none⟩), .int .i64 vm, .int .i64 pg] wr fun e U => e = .returned (lkA o) ∧ Cw w U C l ∧ Below wr.heap.size wr U := by
  obtain ⟨v, hv⟩ := h.ca
  subst ho
  exact (look_in hv vm pg).mono (fun e U hd => ⟨hd.1, h.below hd.2, hd.2⟩)
theorem Cw.len {w wr : World} {C : Nat} {l : List R5} (h : Cw w wr C l) :
    Calls Try.prog 18 #[.pointer (some ⟨C, 0, none⟩)] wr fun e U => e = .returned (.int .i64 (l.length : Nat)) ∧ wr = U := by
  obtain ⟨v, hv⟩ := h.ca
  exact len_in hv
/-- What awake puts, the first k of it. -/
def awL : Nat → List R5
  | 0 => []
  | k + 1 => putL 0 k true k false (awL k)
theorem aw_8 : (awL 9).find? (hitK 0 8) = some ⟨0, 8, true, 8, false⟩ := by kernel_rfl
theorem aw_0 : (awL 9).find? (hitK 0 0) = none := by kernel_rfl
theorem aw_n : (awL 9).length = 8 := by kernel_rfl
set_option maxHeartbeats 1000000 in
theorem awake7_in (w : World) : Calls Try.prog 13 #[] w fun e w' => e = .returned (.bool true) ∧ Below w.heap.size w w' := by
  have H0 := Lib.hid (cw_new (Below.refl w.heap.size w) 27)
  go_enter Try.func13, Try.ntmps13
  go_wp2_with fail
  go_loopw [2] (fun i wr => ∃ k : Nat, k ≤ 9 ∧ i = .int .i64 k ∧ Cw w wr w.heap.size (awL k)) (fun i _ => 9 - (intOf i).toNat)
  case atStart => exact ⟨0, by omega, rfl, H0.out⟩
  case round =>
    obtain ⟨k, hk, rfl, hC⟩ := hrel
    clear H0
    by_cases hlt : k < 9
    · have k1 : (k : Int) < 9 := by omega
      have HP := Lib.hid (hC.put 0 k true k false)
      clear hC
      go_wp2_with fail
      refine (HP.out).mono ?_
      rintro e w2 ⟨rfl, h2⟩
      have H2 := Lib.hid h2
      clear h2
      go_wp2
      go_roundw
      case rel => exact ⟨k + 1, by omega, by go_num, H2.out⟩
      case measure => simp [intOf]; omega
    · obtain rfl : k = 9 := by omega
      have HL := Lib.hid (hC.look 0 8 aw_8)
      simp only [lkA, lkE, Option.isSome] at HL
      clear hC
      go_wp2_with fail
      refine (HL.out).mono ?_
      rintro e w2 ⟨rfl, h2, b2⟩
      have b3 := below_new w2 (.cells #[.bool true, .int .i64 8, .bool false] 32)
      have l3 := l3_new w2 (.bool true) (.int .i64 8) (.bool false) 32
      have h3 := h2.below b3
      have HL2 := Lib.hid (h3.look 0 0 aw_0)
      have HX := Lib.hid l3
      simp only [lkA, lkE, Option.isSome] at HL2
      clear h2 b2 b3 l3 h3 HL
      go_wp2_with fail
      refine (HL2.out).mono ?_
      rintro e w4 ⟨rfl, h4, b4⟩
      have b5 := below_new w4 (.cells #[.bool false, .int .i64 0, .bool false] 32)
      have h5 := h4.below b5
      obtain ⟨x0, x1, x2, xl, xf⟩ := ((HX.out).later b4).later b5
      have hn := h5.len
      rw [aw_n] at hn
      have HN := Lib.hid hn
      have HE := Lib.hid h5.be
      clear h4 b4 b5 h5 hn HL2
      go_wp2_with (go_at_call 18; refine (HN.out).mono ?_; rintro e w6 ⟨rfl, rfl⟩)
      go_ret
      exact ⟨rfl, HE.out⟩
end Go.Proofs.Ytjidhmdphlmldaa
