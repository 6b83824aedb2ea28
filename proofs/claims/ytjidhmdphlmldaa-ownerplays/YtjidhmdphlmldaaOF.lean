/-
  Contracts of package owner: Count, New, Twin.
-/
import Derived.Test.YtjidhmdphlmldaaOE
namespace Go.Proofs.Ytjidhmdphlmldaa
open Go.ChangeShapes Go.WideShapes Go.ChangeAt Go.RowKit
set_option maxRecDepth 100000

/-! ### Count -/
def hit (r : R4) (kind : Nat) (n : Int) : Bool := decide (r.k = kind) && (decide (¬ (kind = 2 ∨ kind = 3)) || decide (r.vm = n))
def cntR (L : Nat → R4) (kind : Nat) (n : Int) : Nat → Nat
  | 0 => 0
  | k + 1 => cntR L kind n k + if hit (L k) kind n then 1 else 0
theorem cntR_yes (L : Nat → R4) (kind : Nat) (n : Int) (k : Nat) (h : hit (L k) kind n = true) : cntR L kind n (k + 1) = cntR L kind n k + 1 := by simp [cntR, h]
theorem cntR_no (L : Nat → R4) (kind : Nat) (n : Int) (k : Nat) (h : hit (L k) kind n = false) : cntR L kind n (k + 1) = cntR L kind n k := by simp [cntR, h]
theorem cntR_le (L : Nat → R4) (kind : Nat) (n : Int) (k : Nat) : cntR L kind n k ≤ k := by
  induction k with
  | zero => exact Nat.le_refl _
  | succ k ih => unfold cntR; split <;> omega
theorem cntR_congr {L M : Nat → R4} (kind : Nat) (n : Int) (k : Nat) (h : ∀ p, p < k → L p = M p) : cntR L kind n k = cntR M kind n k := by
  induction k with
  | zero => rfl
  | succ k ih => unfold cntR; rw [ih (fun p hp => h p (by omega)), h k (by omega)]
theorem count_nil (kind : Nat) (n : Int) (w : World) :
    Calls Try.prog 29 #[.pointer none, .int .u8 kind, .int .i64 n] w fun e w' => e = .returned (.int .i64 0) ∧ w = w' := by
  go_enter Try.func29, Try.ntmps29
  go_wp2
  go_ret
  exact ⟨rfl, rfl⟩
/-- What stands in Count's loop. -/
structure CI (w wr : World) (L : Nat → R4) (kind : Nat) (n : Int) (i : Nat) (c : Value) : Prop where
  c : c = .int .i64 (cntR L kind n i : Nat)
  bel : Below w.heap.size w wr
set_option maxHeartbeats 2000000 in
theorem count_all {w : World} {B g cap k : Nat} {L : Nat → R4} (H : Bk w B g cap k L) (kind : Nat) (n : Int) (h2 : ((kind : Int) == 2) = false) (h3 : ((kind : Int) == 3) = false) :
    Calls Try.prog 29 #[.pointer (some ⟨B, 0, none⟩), .int .u8 kind, .int .i64 n] w fun e w' => e = .returned (.int .i64 (cntR L kind n k : Nat)) ∧ Below w.heap.size w w' := by
  have c := H.c
  have hk := H.le
  have HR := Lib.hid (fun U (hb : Below w.heap.size w U) => (H.below hb).row)
  clear H
  go_enter Try.func29, Try.ntmps29
  go_wp2_with fail
  go_loopw [8, 10, 24] (fun c _ i wr => ∃ p : Nat, p ≤ k ∧ i = .int .i64 p ∧ CI w wr L kind n p c) (fun _ _ i _ => k - (intOf i).toNat)
  case atStart => exact ⟨0, by omega, rfl, rfl, Below.refl _ _⟩
  case round =>
    obtain ⟨p, hp, rfl, hc, hb⟩ := hrel
    have hle := cntR_le L kind n p
    obtain ⟨cc, hcc⟩ : ∃ cc, cntR L kind n p = cc := ⟨_, rfl⟩
    rw [hcc] at hc hle
    subst hc
    have HCC := Lib.hid hcc
    have HB := Lib.hid hb
    by_cases hlt : p < k
    · have hr := HR.out _ hb
      have d0 := hr.c0 p hlt
      have d1 := hr.c1 p hlt
      have d2 := hr.c2 p hlt
      have d3 := hr.c3 p hlt
      have p1 : (p : Int) < k := by omega
      obtain ⟨⟨qk, qv, qp, qs⟩, hL⟩ : ∃ q, L p = q := ⟨_, rfl⟩
      rw [hL] at d0 d1 d2 d3
      simp only at d0 d1 d2 d3
      obtain ⟨e0, e1, e2, e3, el, ef⟩ := l4_new wr (.int .u8 (qk : Nat)) (.int .i64 qv) (.int .i64 qp) (.int .i64 qs) 53
      have HB3 := Lib.hid (below_more hb (.cells #[.int .u8 (qk : Nat), .int .i64 qv, .int .i64 qp, .int .i64 qs] 53))
      by_cases h1 : qk = kind
      · have HY := Lib.hid (cntR_yes L kind n p (by rw [hL]; simp at h2 h3; simp [hit, h1]; omega))
        have t1 : ((qk : Int) == (kind : Int)) = true := by simp; omega
        clear hL hb hr h1 hcc
        go_wp2
        go_roundw
        case rel => exact ⟨p + 1, by omega, by go_num, by rw [HY.out, HCC.out]; go_num, HB3.out⟩
        case measure => simp [intOf]; omega
      · have HY := Lib.hid (cntR_no L kind n p (by rw [hL]; simp [hit, h1]))
        have t1 : ((qk : Int) == (kind : Int)) = false := by simp; omega
        clear hL hb hr h1 hcc
        go_wp2
        go_roundw
        case rel => exact ⟨p + 1, by omega, by go_num, by rw [HY.out, HCC.out], HB3.out⟩
        case measure => simp [intOf]; omega
    · have p1 : ¬ (p : Int) < k := by omega
      obtain rfl : p = k := by omega
      clear hb hcc
      go_wp2
      go_ret
      exact ⟨by rw [HCC.out]; rfl, HB.out⟩
set_option maxHeartbeats 2000000 in
theorem count_vm {w : World} {B g cap k : Nat} {L : Nat → R4} (H : Bk w B g cap k L) (kind : Nat) (n : Int) (h2 : kind = 2 ∨ kind = 3) :
    Calls Try.prog 29 #[.pointer (some ⟨B, 0, none⟩), .int .u8 kind, .int .i64 n] w fun e w' => e = .returned (.int .i64 (cntR L kind n k : Nat)) ∧ Below w.heap.size w w' := by
  have c := H.c
  obtain ⟨b2, hb2⟩ : ∃ b, ((kind : Int) == 2) = b := ⟨_, rfl⟩
  have h23 : b2 = true ∨ b2 = false ∧ ((kind : Int) == 3) = true := by
    rcases h2 with rfl | rfl
    · exact .inl (by rw [← hb2]; rfl)
    · exact .inr ⟨by rw [← hb2]; rfl, rfl⟩
  have hk := H.le
  have HR := Lib.hid (fun U (hb : Below w.heap.size w U) => (H.below hb).row)
  clear H
  have H2 := Lib.hid h2
  clear h2
  rcases h23 with rfl | ⟨rfl, h3⟩
  all_goals
   go_enter Try.func29, Try.ntmps29
   go_wp2_with fail
   go_loopw [8, 10, 24] (fun c _ i wr => ∃ p : Nat, p ≤ k ∧ i = .int .i64 p ∧ CI w wr L kind n p c) (fun _ _ i _ => k - (intOf i).toNat)
   case atStart => exact ⟨0, by omega, rfl, rfl, Below.refl _ _⟩
   case round =>
     obtain ⟨p, hp, rfl, hc, hb⟩ := hrel
     have hle := cntR_le L kind n p
     obtain ⟨cc, hcc⟩ : ∃ cc, cntR L kind n p = cc := ⟨_, rfl⟩
     rw [hcc] at hc hle
     subst hc
     have HCC := Lib.hid hcc
     have HB := Lib.hid hb
     by_cases hlt : p < k
     · have hr := HR.out _ hb
       have d0 := hr.c0 p hlt
       have d1 := hr.c1 p hlt
       have d2 := hr.c2 p hlt
       have d3 := hr.c3 p hlt
       have p1 : (p : Int) < k := by omega
       obtain ⟨⟨qk, qv, qp, qs⟩, hL⟩ : ∃ q, L p = q := ⟨_, rfl⟩
       rw [hL] at d0 d1 d2 d3
       simp only at d0 d1 d2 d3
       obtain ⟨e0, e1, e2, e3, el, ef⟩ := l4_new wr (.int .u8 (qk : Nat)) (.int .i64 qv) (.int .i64 qp) (.int .i64 qs) 53
       have HB3 := Lib.hid (below_more hb (.cells #[.int .u8 (qk : Nat), .int .i64 qv, .int .i64 qp, .int .i64 qs] 53))
       by_cases h1 : qk = kind ∧ qv = n
       · have HY := Lib.hid (cntR_yes L kind n p (by rw [hL]; simp [hit, h1]))
         have t1 : ((qk : Int) == (kind : Int)) = true := by simp; omega
         have t2 : (qv == n) = true := by simp; omega
         clear hL hb hr h1 hcc
         go_wp2
         go_roundw
         case rel => exact ⟨p + 1, by omega, by go_num, by rw [HY.out, HCC.out]; go_num, HB3.out⟩
         case measure => simp [intOf]; omega
       · have HY := Lib.hid (cntR_no L kind n p (by rw [hL]; have := H2.out; simp [hit]; omega))
         by_cases h4 : qk = kind
         · have t1 : ((qk : Int) == (kind : Int)) = true := by simp; omega
           have t2 : (qv == n) = false := by simp; omega
           clear hL hb hr h1 h4 hcc
           go_wp2
           go_roundw
           case rel => exact ⟨p + 1, by omega, by go_num, by rw [HY.out, HCC.out], HB3.out⟩
           case measure => simp [intOf]; omega
         · have t1 : ((qk : Int) == (kind : Int)) = false := by simp; omega
           clear hL hb hr h1 h4 hcc
           go_wp2
           go_roundw
           case rel => exact ⟨p + 1, by omega, by go_num, by rw [HY.out, HCC.out], HB3.out⟩
           case measure => simp [intOf]; omega
     · have p1 : ¬ (p : Int) < k := by omega
       obtain rfl : p = k := by omega
       clear hb hcc
       go_wp2
       go_ret
       exact ⟨by rw [HCC.out]; rfl, HB.out⟩
theorem count_in {w : World} {B g cap k : Nat} {L : Nat → R4} (H : Bk w B g cap k L) (kind : Nat) (n : Int) :
    Calls Try.prog 29 #[.pointer (some ⟨B, 0, none⟩), .int .u8 kind, .int .i64 n] w fun e w' => e = .returned (.int .i64 (cntR L kind n k : Nat)) ∧ Below w.heap.size w w' := by
  by_cases h : kind = 2 ∨ kind = 3
  · exact count_vm H kind n h
  · exact count_all H kind n (by simp; omega) (by simp; omega)
end Go.Proofs.Ytjidhmdphlmldaa
