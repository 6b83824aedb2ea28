/-
  Contracts of package owner: pageOf, and the calls that are made of hand and pageOf: Donate, Keep, Share, Unshare, Reclaim, Release.
-/
import Derived.Test.YtjidhmdphlmldaaOB
namespace Go.Proofs.Ytjidhmdphlmldaa
open Go.ChangeShapes Go.WideShapes Go.ChangeAt Go.RowKit
set_option maxRecDepth 100000

theorem isVM_yes (n : Int) (h0 : 0 ≤ n) (h : n < 6) (w : World) : Calls Try.prog 38 #[.int .i64 n] w fun e w' => e = .returned (.bool true) ∧ w = w' := by
  have := isVM_in n w
  rwa [show isVMb n = true by simp [isVMb, h0, h]] at this
theorem isVM_no (n : Int) (h : ¬ (0 ≤ n ∧ n < 6)) (w : World) : Calls Try.prog 38 #[.int .i64 n] w fun e w' => e = .returned (.bool false) ∧ w = w' := by
  have := isVM_in n w
  rwa [show isVMb n = false by simp only [isVMb]; rw [← Bool.decide_and]; exact decide_eq_false h] at this
set_option maxHeartbeats 1000000 in
theorem page_ok {w : World} {B g cap k : Nat} {L : Nat → R4} (H : Bk w B g cap k L) (f : Nat) (hf : f < k) (n : Int) (n0 : 0 ≤ n) (n6 : n < 6) (h3 : (L f).k = 3) (hn : (L f).vm = n) :
    Calls Try.prog 39 #[.pointer (some ⟨B, 0, none⟩), .int .i64 f, .int .i64 n] w fun e w' => e = .returned (.tuple #[(L f).agg, .int .i64 0]) ∧ Below w.heap.size w w' := by
  have b1 := below_new w (.cells #[.int .u8 0, .int .i64 0, .int .i64 0, .int .i64 0] 53)
  have l1 := l4_new w (.int .u8 0) (.int .i64 0) (.int .i64 0) (.int .i64 0) 53
  have HG := Lib.hid (get_yes (H.below b1) f hf)
  have HV := Lib.hid (isVM_yes n n0 n6)
  unfold R4.agg at *
  obtain ⟨⟨qk, qv, qp, qs⟩, hL⟩ : ∃ q, L f = q := ⟨_, rfl⟩
  rw [hL] at h3 hn HG
  rw [hL]
  simp only at h3 hn HG ⊢
  subst h3 hn
  clear hL H
  go_enter Try.func39, Try.ntmps39
  go_wp2_with fail
  refine (HG.out).mono ?_
  rintro e w2 ⟨rfl, b2⟩
  have b3 := below_up b2 (below_new w2 (.cells #[.int .u8 3, .int .i64 qv, .int .i64 qp, .int .i64 qs] 53))
  obtain ⟨e0, e1, e2, e3, el, ef⟩ := l1.later b3
  obtain ⟨g0, g1, g2, g3, gl, gf⟩ := l4_new w2 (.int .u8 3) (.int .i64 qv) (.int .i64 qp) (.int .i64 qs) 53
  have HB3 := Lib.hid (below_up b1 b3)
  clear b1 b2 b3 l1
  go_wp2_with fail
  generalize w2.alloc (.cells #[.int .u8 3, .int .i64 qv, .int .i64 qp, .int .i64 qs] 53) = U at *
  refine (HV.out _).mono ?_
  rintro e w3 ⟨rfl, rfl⟩
  go_wp2
  refine ret42 (hr := rfl) (hp := rfl) (by rw [e0]; rfl) (by rw [e1]; rfl) (by rw [e2]; rfl) (by rw [e3]; rfl) ⟨rfl, ?_⟩
  exact ((((HB3.out).setCell (by simp) _).setCell (by simp) _).setCell (by simp) _).setCell (by simp) _
set_option maxHeartbeats 1000000 in
theorem page_a {w : World} {B g cap k : Nat} {L : Nat → R4} (H : Bk w B g cap k L) (f : Nat) (hf : f < k) (n : Int) (hn : ¬ (0 ≤ n ∧ n < 6)) :
    Calls Try.prog 39 #[.pointer (some ⟨B, 0, none⟩), .int .i64 f, .int .i64 n] w fun e w' => e = .returned (.tuple #[R4.zero.agg, .int .i64 7]) ∧ Below w.heap.size w w' := by
  have b1 := below_new w (.cells #[.int .u8 0, .int .i64 0, .int .i64 0, .int .i64 0] 53)
  have l1 := l4_new w (.int .u8 0) (.int .i64 0) (.int .i64 0) (.int .i64 0) 53
  have HG := Lib.hid (get_yes (H.below b1) f hf)
  unfold R4.zero R4.agg at *
  obtain ⟨⟨qk, qv, qp, qs⟩, hL⟩ : ∃ q, L f = q := ⟨_, rfl⟩
  rw [hL] at HG
  have HV := Lib.hid (isVM_no n hn)
  clear hn
  clear hL H
  go_enter Try.func39, Try.ntmps39
  go_wp2_with fail
  refine (HG.out).mono ?_
  rintro e w2 ⟨rfl, b2⟩
  simp only
  have b3 := below_up b2 (below_new w2 (.cells #[.int .u8 (qk : Nat), .int .i64 qv, .int .i64 qp, .int .i64 qs] 53))
  obtain ⟨e0, e1, e2, e3, el, ef⟩ := l1.later b3
  obtain ⟨g0, g1, g2, g3, gl, gf⟩ := l4_new w2 (.int .u8 (qk : Nat)) (.int .i64 qv) (.int .i64 qp) (.int .i64 qs) 53
  have HB3 := Lib.hid (below_up b1 b3)
  clear b1 b2 b3 l1
  go_wp2_with fail
  generalize w2.alloc (.cells #[.int .u8 (qk : Nat), .int .i64 qv, .int .i64 qp, .int .i64 qs] 53) = U at *
  refine (HV.out _).mono ?_
  rintro e w3 ⟨rfl, rfl⟩
  go_wp2
  refine ret42 (hr := rfl) (hp := rfl) (by rw [e0]; rfl) (by rw [e1]; rfl) (by rw [e2]; rfl) (by rw [e3]; rfl) ⟨rfl, ?_⟩
  exact ((((HB3.out).setCell (by simp) _).setCell (by simp) _).setCell (by simp) _).setCell (by simp) _
set_option maxHeartbeats 1000000 in
theorem page_b {w : World} {B g cap k : Nat} {L : Nat → R4} (H : Bk w B g cap k L) (f : Nat) (hf : f < k) (n : Int) (n0 : 0 ≤ n) (n6 : n < 6) (h3 : (L f).k ≠ 3) :
    Calls Try.prog 39 #[.pointer (some ⟨B, 0, none⟩), .int .i64 f, .int .i64 n] w fun e w' => e = .returned (.tuple #[R4.zero.agg, .int .i64 7]) ∧ Below w.heap.size w w' := by
  have b1 := below_new w (.cells #[.int .u8 0, .int .i64 0, .int .i64 0, .int .i64 0] 53)
  have l1 := l4_new w (.int .u8 0) (.int .i64 0) (.int .i64 0) (.int .i64 0) 53
  have HG := Lib.hid (get_yes (H.below b1) f hf)
  unfold R4.zero R4.agg at *
  obtain ⟨⟨qk, qv, qp, qs⟩, hL⟩ : ∃ q, L f = q := ⟨_, rfl⟩
  rw [hL] at HG h3
  have HV := Lib.hid (isVM_yes n n0 n6)
  simp only at h3
  have t0 : ((qk : Int) == 3) = false := by simp; omega
  have t1 : ((qk : Int) != 3) = true := by simp; omega
  clear hL H
  go_enter Try.func39, Try.ntmps39
  go_wp2_with fail
  refine (HG.out).mono ?_
  rintro e w2 ⟨rfl, b2⟩
  simp only
  have b3 := below_up b2 (below_new w2 (.cells #[.int .u8 (qk : Nat), .int .i64 qv, .int .i64 qp, .int .i64 qs] 53))
  obtain ⟨e0, e1, e2, e3, el, ef⟩ := l1.later b3
  obtain ⟨g0, g1, g2, g3, gl, gf⟩ := l4_new w2 (.int .u8 (qk : Nat)) (.int .i64 qv) (.int .i64 qp) (.int .i64 qs) 53
  have HB3 := Lib.hid (below_up b1 b3)
  clear b1 b2 b3 l1
  go_wp2_with fail
  generalize w2.alloc (.cells #[.int .u8 (qk : Nat), .int .i64 qv, .int .i64 qp, .int .i64 qs] 53) = U at *
  refine (HV.out _).mono ?_
  rintro e w3 ⟨rfl, rfl⟩
  go_wp2
  refine ret42 (hr := rfl) (hp := rfl) (by rw [e0]; rfl) (by rw [e1]; rfl) (by rw [e2]; rfl) (by rw [e3]; rfl) ⟨rfl, ?_⟩
  exact ((((HB3.out).setCell (by simp) _).setCell (by simp) _).setCell (by simp) _).setCell (by simp) _
set_option maxHeartbeats 1000000 in
theorem page_c {w : World} {B g cap k : Nat} {L : Nat → R4} (H : Bk w B g cap k L) (f : Nat) (hf : f < k) (n : Int) (n0 : 0 ≤ n) (n6 : n < 6) (h3 : (L f).k = 3) (hv : (L f).vm ≠ n) :
    Calls Try.prog 39 #[.pointer (some ⟨B, 0, none⟩), .int .i64 f, .int .i64 n] w fun e w' => e = .returned (.tuple #[R4.zero.agg, .int .i64 7]) ∧ Below w.heap.size w w' := by
  have b1 := below_new w (.cells #[.int .u8 0, .int .i64 0, .int .i64 0, .int .i64 0] 53)
  have l1 := l4_new w (.int .u8 0) (.int .i64 0) (.int .i64 0) (.int .i64 0) 53
  have HG := Lib.hid (get_yes (H.below b1) f hf)
  unfold R4.zero R4.agg at *
  obtain ⟨⟨qk, qv, qp, qs⟩, hL⟩ : ∃ q, L f = q := ⟨_, rfl⟩
  rw [hL] at HG h3 hv
  have HV := Lib.hid (isVM_yes n n0 n6)
  simp only at h3 hv
  have t0 : ((qk : Int) == 3) = true := by simp; omega
  have t1 : ((qk : Int) != 3) = false := by simp; omega
  have t2 : (qv == n) = false := by simpa using hv
  have t3 : (qv != n) = true := by simpa using hv
  have H3 := Lib.hid h3
  have HV3 := Lib.hid hv
  clear h3 hv
  clear hL H
  go_enter Try.func39, Try.ntmps39
  go_wp2_with fail
  refine (HG.out).mono ?_
  rintro e w2 ⟨rfl, b2⟩
  simp only
  have b3 := below_up b2 (below_new w2 (.cells #[.int .u8 (qk : Nat), .int .i64 qv, .int .i64 qp, .int .i64 qs] 53))
  obtain ⟨e0, e1, e2, e3, el, ef⟩ := l1.later b3
  obtain ⟨g0, g1, g2, g3, gl, gf⟩ := l4_new w2 (.int .u8 (qk : Nat)) (.int .i64 qv) (.int .i64 qp) (.int .i64 qs) 53
  have HB3 := Lib.hid (below_up b1 b3)
  clear b1 b2 b3 l1
  go_wp2_with fail
  generalize w2.alloc (.cells #[.int .u8 (qk : Nat), .int .i64 qv, .int .i64 qp, .int .i64 qs] 53) = U at *
  refine (HV.out _).mono ?_
  rintro e w3 ⟨rfl, rfl⟩
  go_wp2
  refine ret42 (hr := rfl) (hp := rfl) (by rw [e0]; rfl) (by rw [e1]; rfl) (by rw [e2]; rfl) (by rw [e3]; rfl) ⟨rfl, ?_⟩
  exact ((((HB3.out).setCell (by simp) _).setCell (by simp) _).setCell (by simp) _).setCell (by simp) _
set_option maxHeartbeats 1000000 in
theorem page_no {w : World} {v : Value} {f : Int} (H : GF w v f) (n : Int) :
    Calls Try.prog 39 #[v, .int .i64 f, .int .i64 n] w fun e w' => e = .returned (.tuple #[R4.zero.agg, .int .i64 1]) ∧ Below w.heap.size w w' := by
  have b1 := below_new w (.cells #[.int .u8 0, .int .i64 0, .int .i64 0, .int .i64 0] 53)
  have l1 := l4_new w (.int .u8 0) (.int .i64 0) (.int .i64 0) (.int .i64 0) 53
  have HG := Lib.hid (H _ b1)
  unfold R4.zero R4.agg at *
  simp only at HG ⊢
  clear H
  go_enter Try.func39, Try.ntmps39
  go_wp2_with fail
  refine (HG.out).mono ?_
  rintro e w2 ⟨rfl, b2⟩
  have b3 := below_up b2 (below_new w2 (.cells #[.int .u8 0, .int .i64 0, .int .i64 0, .int .i64 0] 53))
  obtain ⟨e0, e1, e2, e3, el, ef⟩ := l1.later b3
  have HB3 := Lib.hid (below_up b1 b3)
  clear b1 b2 b3 l1
  go_wp2
  generalize w2.alloc (.cells #[.int .u8 0, .int .i64 0, .int .i64 0, .int .i64 0] 53) = U at *
  refine ret42 (hr := rfl) (hp := rfl) (by rw [e0]; rfl) (by rw [e1]; rfl) (by rw [e2]; rfl) (by rw [e3]; rfl) ⟨rfl, ?_⟩
  exact ((((HB3.out).setCell (by simp) _).setCell (by simp) _).setCell (by simp) _).setCell (by simp) _
end Go.Proofs.Ytjidhmdphlmldaa
