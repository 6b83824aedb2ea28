/-
  Contracts of package owner: Donate, Keep, Release.
-/
import Derived.Test.YtjidhmdphlmldaaOD
namespace Go.Proofs.Ytjidhmdphlmldaa
open Go.ChangeShapes Go.WideShapes Go.ChangeAt Go.RowKit
set_option maxRecDepth 100000

/-! ### Donate -/
theorem donate_bad (v : Value) (f n p : Int) (w : World) (h : ¬ ((0 ≤ n ∧ n < 6) ∧ 0 ≤ p ∧ p < 32)) :
    Calls Try.prog 27 #[v, .int .i64 f, .int .i64 n, .int .i64 p] w fun e w' => e = .returned (.int .i64 1) ∧ w = w' := by
  by_cases hn : 0 ≤ n ∧ n < 6
  · have HV := Lib.hid (isVM_yes n hn.1 hn.2)
    by_cases p0 : p < 0
    · clear h hn
      go_enter Try.func27, Try.ntmps27
      go_wp2_with fail
      refine (HV.out _).mono ?_
      rintro e w3 ⟨rfl, rfl⟩
      go_wp2
      go_ret
      exact ⟨rfl, rfl⟩
    · have p1 : 32 ≤ p := by omega
      have p2 : ¬ p < 0 := by omega
      clear h hn
      go_enter Try.func27, Try.ntmps27
      go_wp2_with fail
      refine (HV.out _).mono ?_
      rintro e w3 ⟨rfl, rfl⟩
      go_wp2
      go_ret
      exact ⟨rfl, rfl⟩
  · have HV := Lib.hid (isVM_no n hn)
    clear h hn
    go_enter Try.func27, Try.ntmps27
    go_wp2_with fail
    refine (HV.out _).mono ?_
    rintro e w3 ⟨rfl, rfl⟩
    go_wp2
    go_ret
    exact ⟨rfl, rfl⟩
def Ret (err : Int) (Q : World → Prop) (e : Ending) (w' : World) : Prop := e = .returned (.int .i64 err) ∧ Q w'
theorem donate_good {v : Value} {f n p : Int} {w : World} {err : Int} {Q : World → Prop} (n0 : 0 ≤ n) (n6 : n < 6) (p0 : 0 ≤ p) (p1 : p < 32)
    (h : Calls Try.prog 37 #[v, .int .i64 f, (R4.mk 3 n p 0).agg] w (Ret err Q)) :
    Calls Try.prog 27 #[v, .int .i64 f, .int .i64 n, .int .i64 p] w (Ret err Q) := by
  have HV := Lib.hid (isVM_yes n n0 n6)
  have p2 : ¬ p < 0 := by omega
  have p3 : ¬ 32 ≤ p := by omega
  have HH := Lib.hid h
  unfold R4.agg at HH
  clear h
  go_enter Try.func27, Try.ntmps27
  go_wp2_with fail
  refine (HV.out _).mono ?_
  rintro e w3 ⟨rfl, rfl⟩
  go_wp2_with fail
  refine (HH.out).mono ?_
  rintro e w3 ⟨rfl, hq⟩
  have HQ := Lib.hid hq
  clear hq
  go_wp2
  go_ret
  exact ⟨rfl, HQ.out⟩
def donE (k : Nat) (L : Nat → R4) (f n p : Int) : Int := if (0 ≤ n ∧ n < 6) ∧ 0 ≤ p ∧ p < 32 then handE k L f else 1
theorem donate_in {w : World} {B g cap k : Nat} {L : Nat → R4} (H : Bk w B g cap k L) (f n p : Int) :
    Calls Try.prog 27 #[.pointer (some ⟨B, 0, none⟩), .int .i64 f, .int .i64 n, .int .i64 p] w fun e w' => e = .returned (.int .i64 (donE k L f n p)) ∧ Tn w w' B g cap k (turned L (donE k L f n p) f ⟨3, n, p, 0⟩) := by
  by_cases h : (0 ≤ n ∧ n < 6) ∧ 0 ≤ p ∧ p < 32
  · rw [show donE k L f n p = handE k L f from if_pos h]
    exact donate_good h.1.1 h.1.2 h.2.1 h.2.2 (hand_in H f ⟨3, n, p, 0⟩)
  · rw [show donE k L f n p = 1 from if_neg h, turned_err _ (by omega)]
    exact (donate_bad _ f n p w h).mono fun _ _ ⟨a, b⟩ => ⟨a, by subst b; exact Tn.same H (Below.refl _ _)⟩
theorem donate_no {w : World} {v : Value} {f : Int} (H : GF w v f) (n p : Int) :
    Calls Try.prog 27 #[v, .int .i64 f, .int .i64 n, .int .i64 p] w fun e w' => e = .returned (.int .i64 1) ∧ Below w.heap.size w w' := by
  by_cases h : (0 ≤ n ∧ n < 6) ∧ 0 ≤ p ∧ p < 32
  · exact donate_good h.1.1 h.1.2 h.2.1 h.2.2 (hand_no H ⟨3, n, p, 0⟩)
  · exact (donate_bad _ f n p w h).mono fun _ _ ⟨a, b⟩ => ⟨a, by subst b; exact Below.refl _ _⟩

/-! ### Keep -/
theorem keep_hyp {v : Value} {f n : Int} {w : World} {err : Int} {Q : World → Prop} (n0 : n < 0)
    (h : Calls Try.prog 37 #[v, .int .i64 f, (R4.mk 1 0 0 0).agg] w (Ret err Q)) :
    Calls Try.prog 22 #[v, .int .i64 f, .int .i64 n] w (Ret err Q) := by
  have HH := Lib.hid h
  unfold R4.agg at HH
  clear h
  go_enter Try.func22, Try.ntmps22
  go_wp2_with fail
  refine (HH.out).mono ?_
  rintro e w3 ⟨rfl, hq⟩
  have HQ := Lib.hid hq
  clear hq
  go_wp2
  go_ret
  exact ⟨rfl, HQ.out⟩
theorem keep_vm {v : Value} {f n : Int} {w : World} {err : Int} {Q : World → Prop} (n0 : 0 ≤ n) (n6 : n < 6)
    (h : Calls Try.prog 37 #[v, .int .i64 f, (R4.mk 2 n 0 0).agg] w (Ret err Q)) :
    Calls Try.prog 22 #[v, .int .i64 f, .int .i64 n] w (Ret err Q) := by
  have HV := Lib.hid (isVM_yes n n0 n6)
  have n1 : ¬ n < 0 := by omega
  have HH := Lib.hid h
  unfold R4.agg at HH
  clear h
  go_enter Try.func22, Try.ntmps22
  go_wp2_with fail
  refine (HV.out _).mono ?_
  rintro e w3 ⟨rfl, rfl⟩
  go_wp2_with fail
  refine (HH.out).mono ?_
  rintro e w3 ⟨rfl, hq⟩
  have HQ := Lib.hid hq
  clear hq
  go_wp2
  go_ret
  exact ⟨rfl, HQ.out⟩
theorem keep_bad (v : Value) (f n : Int) (w : World) (h : 6 ≤ n) :
    Calls Try.prog 22 #[v, .int .i64 f, .int .i64 n] w fun e w' => e = .returned (.int .i64 1) ∧ w = w' := by
  have HV := Lib.hid (isVM_no n (by omega))
  have n1 : ¬ n < 0 := by omega
  go_enter Try.func22, Try.ntmps22
  go_wp2_with fail
  refine (HV.out _).mono ?_
  rintro e w3 ⟨rfl, rfl⟩
  go_wp2
  go_ret
  exact ⟨rfl, rfl⟩
def keepE (k : Nat) (L : Nat → R4) (f n : Int) : Int := if n < 6 then handE k L f else 1
def keepR (n : Int) : R4 := if n < 0 then ⟨1, 0, 0, 0⟩ else ⟨2, n, 0, 0⟩
theorem keep_in {w : World} {B g cap k : Nat} {L : Nat → R4} (H : Bk w B g cap k L) (f n : Int) :
    Calls Try.prog 22 #[.pointer (some ⟨B, 0, none⟩), .int .i64 f, .int .i64 n] w fun e w' => e = .returned (.int .i64 (keepE k L f n)) ∧ Tn w w' B g cap k (turned L (keepE k L f n) f (keepR n)) := by
  by_cases h : n < 6
  · rw [show keepE k L f n = handE k L f from if_pos h]
    by_cases h0 : n < 0
    · rw [show keepR n = ⟨1, 0, 0, 0⟩ from if_pos h0]
      exact keep_hyp h0 (hand_in H f _)
    · rw [show keepR n = ⟨2, n, 0, 0⟩ from if_neg h0]
      exact keep_vm (by omega) h (hand_in H f _)
  · rw [show keepE k L f n = 1 from if_neg h, turned_err _ (by omega)]
    exact (keep_bad _ f n w (by omega)).mono fun _ _ ⟨a, b⟩ => ⟨a, by subst b; exact Tn.same H (Below.refl _ _)⟩
theorem keep_no {w : World} {v : Value} {f : Int} (H : GF w v f) (n : Int) :
    Calls Try.prog 22 #[v, .int .i64 f, .int .i64 n] w fun e w' => e = .returned (.int .i64 1) ∧ Below w.heap.size w w' := by
  by_cases h : n < 6
  · by_cases h0 : n < 0
    · exact keep_hyp h0 (hand_no H _)
    · exact keep_vm (by omega) h (hand_no H _)
  · exact (keep_bad _ f n w (by omega)).mono fun _ _ ⟨a, b⟩ => ⟨a, by subst b; exact Below.refl _ _⟩

/-! ### Release -/
theorem release_no {w : World} {v : Value} {f : Int} (H : GF w v f) :
    Calls Try.prog 26 #[v, .int .i64 f] w fun e w' => e = .returned (.int .i64 1) ∧ Below w.heap.size w w' := by
  have HG := Lib.hid (H _ (Below.refl _ _))
  unfold R4.zero R4.agg at *
  simp only at HG ⊢
  clear H
  go_enter Try.func26, Try.ntmps26
  go_wp2_with fail
  refine (HG.out).mono ?_
  rintro e w2 ⟨rfl, b2⟩
  have HB3 := Lib.hid (below_more b2 (.cells #[.int .u8 0, .int .i64 0, .int .i64 0, .int .i64 0] 53))
  clear b2
  go_wp2
  go_ret
  exact ⟨rfl, HB3.out⟩
set_option maxHeartbeats 1000000 in
theorem release_err {w : World} {B g cap k : Nat} {L : Nat → R4} (H : Bk w B g cap k L) (f : Nat) (hf : f < k) (err : Int) (he : (L f).k = 3 ∧ err = 7 ∨ (L f).k = 0 ∧ err = 8) :
    Calls Try.prog 26 #[.pointer (some ⟨B, 0, none⟩), .int .i64 f] w fun e w' => e = .returned (.int .i64 err) ∧ Below w.heap.size w w' := by
  have HG := Lib.hid (get_yes H f hf)
  unfold R4.agg at *
  obtain ⟨⟨qk, qv, qp, qs⟩, hL⟩ : ∃ q, L f = q := ⟨_, rfl⟩
  rw [hL] at he HG
  simp only at he HG
  clear hL H
  rcases he with ⟨rfl, rfl⟩ | ⟨rfl, rfl⟩
  · go_enter Try.func26, Try.ntmps26
    go_wp2_with fail
    refine (HG.out).mono ?_
    rintro e w2 ⟨rfl, b2⟩
    have HB3 := Lib.hid (below_more b2 (.cells #[.int .u8 3, .int .i64 qv, .int .i64 qp, .int .i64 qs] 53))
    obtain ⟨e0, e1, e2, e3, el, ef⟩ := l4_new w2 (.int .u8 3) (.int .i64 qv) (.int .i64 qp) (.int .i64 qs) 53
    clear b2
    go_wp2
    go_ret
    exact ⟨rfl, HB3.out⟩
  · go_enter Try.func26, Try.ntmps26
    go_wp2_with fail
    refine (HG.out).mono ?_
    rintro e w2 ⟨rfl, b2⟩
    have HB3 := Lib.hid (below_more b2 (.cells #[.int .u8 0, .int .i64 qv, .int .i64 qp, .int .i64 qs] 53))
    obtain ⟨e0, e1, e2, e3, el, ef⟩ := l4_new w2 (.int .u8 0) (.int .i64 qv) (.int .i64 qp) (.int .i64 qs) 53
    clear b2
    go_wp2
    go_ret
    exact ⟨rfl, HB3.out⟩
set_option maxHeartbeats 1000000 in
theorem release_ok {w : World} {B g cap k : Nat} {L : Nat → R4} (H : Bk w B g cap k L) (f : Nat) (hf : f < k) (h3 : (L f).k ≠ 3) (h0 : (L f).k ≠ 0) :
    Calls Try.prog 26 #[.pointer (some ⟨B, 0, none⟩), .int .i64 f] w fun e w' => e = .returned (.int .i64 0) ∧ Tn w w' B g cap k (upd4 L f R4.zero) := by
  have HG := Lib.hid (get_yes H f hf)
  have HT := Lib.hid (fun U hb => Tn.of H (U := U) hb f hf R4.zero)
  have HC := Lib.hid (fun U (hb : Below w.heap.size w U) => (H.below hb).c)
  have HR := Lib.hid (fun U (hb : Below w.heap.size w U) => (H.below hb).row)
  have f1 : ¬ (k : Int) ≤ (f : Int) := by omega
  unfold R4.agg at *
  obtain ⟨⟨qk, qv, qp, qs⟩, hL⟩ : ∃ q, L f = q := ⟨_, rfl⟩
  rw [hL] at h3 h0 HG
  simp only at h3 h0 HG
  have t0 : ((qk : Int) == 3) = false := by simp; omega
  have t1 : ((qk : Int) == 0) = false := by simp; omega
  clear hL H h0 h3
  go_enter Try.func26, Try.ntmps26
  go_wp2_with fail
  refine (HG.out).mono ?_
  rintro e w2 ⟨rfl, b2⟩
  have b3 := below_more b2 (.cells #[.int .u8 (qk : Nat), .int .i64 qv, .int .i64 qp, .int .i64 qs] 53)
  obtain ⟨e0, e1, e2, e3, el, ef⟩ := l4_new w2 (.int .u8 (qk : Nat)) (.int .i64 qv) (.int .i64 qp) (.int .i64 qs) 53
  have c := HC.out _ b3
  have hr := HR.out _ b3
  have d0 := hr.c0 f hf
  have d1 := hr.c1 f hf
  have d2 := hr.c2 f hf
  have d3 := hr.c3 f hf
  have df := hr.fz
  have HB3 := Lib.hid b3
  clear b2 b3 hr
  go_wp2
  go_ret
  exact ⟨rfl, HT.out _ HB3.out⟩
end Go.Proofs.Ytjidhmdphlmldaa
