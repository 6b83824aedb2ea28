/-
  Contracts of package owner: Donate, Keep, Share, Unshare, Reclaim, Release.
-/
import Derived.Test.YtjidhmdphlmldaaOC
namespace Go.Proofs.Ytjidhmdphlmldaa
open Go.ChangeShapes Go.WideShapes Go.ChangeAt Go.RowKit
set_option maxRecDepth 100000

/-! ### where pageOf tells an error -/
def PF (w : World) (v : Value) (f n err : Int) : Prop := ∀ U, Below w.heap.size w U → Calls Try.prog 39 #[v, .int .i64 f, .int .i64 n] U fun e w' => e = .returned (.tuple #[R4.zero.agg, .int .i64 err]) ∧ Below U.heap.size U w'
theorem pf_of {w : World} {v : Value} {f : Int} (H : GF w v f) (n : Int) : PF w v f n 1 := fun _ hb => page_no (H.below hb) n
theorem pf_owner {w : World} {B g cap k : Nat} {L : Nat → R4} (H : Bk w B g cap k L) (f : Nat) (hf : f < k) (n : Int) (h : ¬ ((0 ≤ n ∧ n < 6) ∧ (L f).k = 3 ∧ (L f).vm = n)) : PF w (.pointer (some ⟨B, 0, none⟩)) f n 7 := fun _ hb => by
  by_cases h1 : 0 ≤ n ∧ n < 6
  · by_cases h2 : (L f).k = 3
    · exact page_c (H.below hb) f hf n h1.1 h1.2 h2 (fun e => h ⟨h1, h2, e⟩)
    · exact page_b (H.below hb) f hf n h1.1 h1.2 h2
  · exact page_a (H.below hb) f hf n h1
set_option maxHeartbeats 1000000 in
theorem share_err {w : World} {v : Value} {f n err : Int} (H : PF w v f n err) (he : err ≠ 0) :
    Calls Try.prog 23 #[v, .int .i64 f, .int .i64 n] w fun e w' => e = .returned (.int .i64 err) ∧ Below w.heap.size w w' := by
  have HG := Lib.hid (H _ (Below.refl _ _))
  have t0 : (err == 0) = false := by simpa using he
  have t1 : (err != 0) = true := by simpa using he
  unfold R4.zero R4.agg at *
  simp only at HG ⊢
  clear H he
  go_enter Try.func23, Try.ntmps23
  go_wp2_with fail
  refine (HG.out).mono ?_
  rintro e w2 ⟨rfl, b2⟩
  have HB3 := Lib.hid (below_more b2 (.cells #[.int .u8 0, .int .i64 0, .int .i64 0, .int .i64 0] 53))
  clear b2
  go_wp2
  go_ret
  exact ⟨rfl, HB3.out⟩
set_option maxHeartbeats 1000000 in
theorem unshare_err {w : World} {v : Value} {f n err : Int} (H : PF w v f n err) (he : err ≠ 0) :
    Calls Try.prog 24 #[v, .int .i64 f, .int .i64 n] w fun e w' => e = .returned (.int .i64 err) ∧ Below w.heap.size w w' := by
  have HG := Lib.hid (H _ (Below.refl _ _))
  have t0 : (err == 0) = false := by simpa using he
  have t1 : (err != 0) = true := by simpa using he
  unfold R4.zero R4.agg at *
  simp only at HG ⊢
  clear H he
  go_enter Try.func24, Try.ntmps24
  go_wp2_with fail
  refine (HG.out).mono ?_
  rintro e w2 ⟨rfl, b2⟩
  have HB3 := Lib.hid (below_more b2 (.cells #[.int .u8 0, .int .i64 0, .int .i64 0, .int .i64 0] 53))
  clear b2
  go_wp2
  go_ret
  exact ⟨rfl, HB3.out⟩
set_option maxHeartbeats 1000000 in
theorem reclaim_err {w : World} {v : Value} {f n err : Int} (H : PF w v f n err) (he : err ≠ 0) :
    Calls Try.prog 25 #[v, .int .i64 f, .int .i64 n] w fun e w' => e = .returned (.int .i64 err) ∧ Below w.heap.size w w' := by
  have HG := Lib.hid (H _ (Below.refl _ _))
  have t0 : (err == 0) = false := by simpa using he
  have t1 : (err != 0) = true := by simpa using he
  unfold R4.zero R4.agg at *
  simp only at HG ⊢
  clear H he
  go_enter Try.func25, Try.ntmps25
  go_wp2_with fail
  refine (HG.out).mono ?_
  rintro e w2 ⟨rfl, b2⟩
  have HB3 := Lib.hid (below_more b2 (.cells #[.int .u8 0, .int .i64 0, .int .i64 0, .int .i64 0] 53))
  clear b2
  go_wp2
  go_ret
  exact ⟨rfl, HB3.out⟩
set_option maxHeartbeats 1000000 in
theorem share_ok {w : World} {B g cap k : Nat} {L : Nat → R4} (H : Bk w B g cap k L) (f : Nat) (hf : f < k) (n : Int) (n0 : 0 ≤ n) (n6 : n < 6) (h3 : (L f).k = 3) (hn : (L f).vm = n) (hs : -1 ≤ (L f).sh ∧ (L f).sh ≤ 1000000) :
    Calls Try.prog 23 #[.pointer (some ⟨B, 0, none⟩), .int .i64 f, .int .i64 n] w fun e w' => e = .returned (.int .i64 0) ∧ Tn w w' B g cap k (upd4 L f ⟨(L f).k, (L f).vm, (L f).pg, (L f).sh + 1⟩) := by
  have HG := Lib.hid (page_ok H f hf n n0 n6 h3 hn)
  have HT := Lib.hid (fun U hb => Tn.of H (U := U) hb f hf ⟨(L f).k, (L f).vm, (L f).pg, (L f).sh + 1⟩)
  have HC := Lib.hid (fun U (hb : Below w.heap.size w U) => (H.below hb).c)
  have HR := Lib.hid (fun U (hb : Below w.heap.size w U) => (H.below hb).row)
  have f1 : ¬ (k : Int) ≤ (f : Int) := by omega
  unfold R4.agg at *
  obtain ⟨⟨qk, qv, qp, qs⟩, hL⟩ : ∃ q, L f = q := ⟨_, rfl⟩
  rw [hL] at h3 hn HG hs HT ⊢
  simp only at h3 hn HG hs HT ⊢
  obtain ⟨hs0, hs1⟩ := hs
  obtain rfl : qk = 3 := h3
  subst hn
  clear hL H
  go_enter Try.func23, Try.ntmps23
  go_wp2_with fail
  refine (HG.out).mono ?_
  rintro e w2 ⟨rfl, b2⟩
  have b3 := below_more b2 (.cells #[.int .u8 3, .int .i64 qv, .int .i64 qp, .int .i64 qs] 53)
  have l3 := l4_new w2 (.int .u8 3) (.int .i64 qv) (.int .i64 qp) (.int .i64 qs) 53
  have b4 := below_more b2 (.cells #[.int .u8 3, .int .i64 qv, .int .i64 qp, .int .i64 (qs + 1)] 53)
  have l4 := l4_new w2 (.int .u8 3) (.int .i64 qv) (.int .i64 qp) (.int .i64 (qs + 1)) 53
  have c := HC.out _ b4
  have hr := HR.out _ b4
  have d0 := hr.c0 f hf
  have d1 := hr.c1 f hf
  have d2 := hr.c2 f hf
  have d3 := hr.c3 f hf
  have df := hr.fz
  obtain ⟨e0, e1, e2, e3, el, ef⟩ := l3
  obtain ⟨g0, g1, g2, g3, gl, gf⟩ := l4
  have HB4 := Lib.hid b4
  clear b2 b3 b4 hr
  go_wp2
  go_region
  go_wp2
  go_ret
  exact ⟨rfl, (HT.out _ HB4.out).drew⟩
set_option maxHeartbeats 1000000 in
theorem unshare_ok {w : World} {B g cap k : Nat} {L : Nat → R4} (H : Bk w B g cap k L) (f : Nat) (hf : f < k) (n : Int) (n0 : 0 ≤ n) (n6 : n < 6) (h3 : (L f).k = 3) (hn : (L f).vm = n) (hs : 1 ≤ (L f).sh ∧ (L f).sh ≤ 1000000) :
    Calls Try.prog 24 #[.pointer (some ⟨B, 0, none⟩), .int .i64 f, .int .i64 n] w fun e w' => e = .returned (.int .i64 0) ∧ Tn w w' B g cap k (upd4 L f ⟨(L f).k, (L f).vm, (L f).pg, (L f).sh - 1⟩) := by
  have HG := Lib.hid (page_ok H f hf n n0 n6 h3 hn)
  have HT := Lib.hid (fun U hb => Tn.of H (U := U) hb f hf ⟨(L f).k, (L f).vm, (L f).pg, (L f).sh - 1⟩)
  have HC := Lib.hid (fun U (hb : Below w.heap.size w U) => (H.below hb).c)
  have HR := Lib.hid (fun U (hb : Below w.heap.size w U) => (H.below hb).row)
  have f1 : ¬ (k : Int) ≤ (f : Int) := by omega
  unfold R4.agg at *
  obtain ⟨⟨qk, qv, qp, qs⟩, hL⟩ : ∃ q, L f = q := ⟨_, rfl⟩
  rw [hL] at h3 hn HG hs HT ⊢
  simp only at h3 hn HG hs HT ⊢
  obtain ⟨hs0, hs1⟩ := hs
  have t0 : (qs == 0) = false := by simp; omega
  obtain rfl : qk = 3 := h3
  subst hn
  clear hL H
  go_enter Try.func24, Try.ntmps24
  go_wp2_with fail
  refine (HG.out).mono ?_
  rintro e w2 ⟨rfl, b2⟩
  have b3 := below_more b2 (.cells #[.int .u8 3, .int .i64 qv, .int .i64 qp, .int .i64 qs] 53)
  have l3 := l4_new w2 (.int .u8 3) (.int .i64 qv) (.int .i64 qp) (.int .i64 qs) 53
  have b4 := below_more b2 (.cells #[.int .u8 3, .int .i64 qv, .int .i64 qp, .int .i64 (qs - 1)] 53)
  have l4 := l4_new w2 (.int .u8 3) (.int .i64 qv) (.int .i64 qp) (.int .i64 (qs - 1)) 53
  have c := HC.out _ b4
  have hr := HR.out _ b4
  have d0 := hr.c0 f hf
  have d1 := hr.c1 f hf
  have d2 := hr.c2 f hf
  have d3 := hr.c3 f hf
  have df := hr.fz
  obtain ⟨e0, e1, e2, e3, el, ef⟩ := l3
  obtain ⟨g0, g1, g2, g3, gl, gf⟩ := l4
  have HB4 := Lib.hid b4
  clear b2 b3 b4 hr
  go_wp2
  go_region
  go_wp2
  go_ret
  exact ⟨rfl, (HT.out _ HB4.out).drew⟩
set_option maxHeartbeats 1000000 in
theorem unshare_used {w : World} {B g cap k : Nat} {L : Nat → R4} (H : Bk w B g cap k L) (f : Nat) (hf : f < k) (n : Int) (n0 : 0 ≤ n) (n6 : n < 6) (h3 : (L f).k = 3) (hn : (L f).vm = n) (hs : (L f).sh = 0) :
    Calls Try.prog 24 #[.pointer (some ⟨B, 0, none⟩), .int .i64 f, .int .i64 n] w fun e w' => e = .returned (.int .i64 8) ∧ Below w.heap.size w w' := by
  have HG := Lib.hid (page_ok H f hf n n0 n6 h3 hn)
  unfold R4.agg at *
  obtain ⟨⟨qk, qv, qp, qs⟩, hL⟩ : ∃ q, L f = q := ⟨_, rfl⟩
  rw [hL] at h3 hn HG hs
  simp only at h3 hn HG hs
  have t0 : (qs == 0) = true := by simpa using hs
  clear hs
  obtain rfl : qk = 3 := h3
  subst hn
  clear hL H
  go_enter Try.func24, Try.ntmps24
  go_wp2_with fail
  refine (HG.out).mono ?_
  rintro e w2 ⟨rfl, b2⟩
  have b3 := below_more b2 (.cells #[.int .u8 3, .int .i64 qv, .int .i64 qp, .int .i64 qs] 53)
  have l3 := l4_new w2 (.int .u8 3) (.int .i64 qv) (.int .i64 qp) (.int .i64 qs) 53
  obtain ⟨e0, e1, e2, e3, el, ef⟩ := l3
  have HB3 := Lib.hid b3
  clear b2 b3
  go_wp2
  go_ret
  exact ⟨rfl, HB3.out⟩
set_option maxHeartbeats 1000000 in
theorem reclaim_ok {w : World} {B g cap k : Nat} {L : Nat → R4} (H : Bk w B g cap k L) (f : Nat) (hf : f < k) (n : Int) (n0 : 0 ≤ n) (n6 : n < 6) (h3 : (L f).k = 3) (hn : (L f).vm = n) (hs : (L f).sh ≤ 0) :
    Calls Try.prog 25 #[.pointer (some ⟨B, 0, none⟩), .int .i64 f, .int .i64 n] w fun e w' => e = .returned (.int .i64 0) ∧ Tn w w' B g cap k (upd4 L f R4.zero) := by
  have HG := Lib.hid (page_ok H f hf n n0 n6 h3 hn)
  have HT := Lib.hid (fun U hb => Tn.of H (U := U) hb f hf R4.zero)
  have HC := Lib.hid (fun U (hb : Below w.heap.size w U) => (H.below hb).c)
  have HR := Lib.hid (fun U (hb : Below w.heap.size w U) => (H.below hb).row)
  have f1 : ¬ (k : Int) ≤ (f : Int) := by omega
  unfold R4.agg at *
  obtain ⟨⟨qk, qv, qp, qs⟩, hL⟩ : ∃ q, L f = q := ⟨_, rfl⟩
  rw [hL] at h3 hn HG hs
  simp only at h3 hn HG hs
  have t0 : ¬ 0 < qs := by omega
  obtain rfl : qk = 3 := h3
  subst hn
  clear hL H
  go_enter Try.func25, Try.ntmps25
  go_wp2_with fail
  refine (HG.out).mono ?_
  rintro e w2 ⟨rfl, b2⟩
  have b3 := below_more b2 (.cells #[.int .u8 3, .int .i64 qv, .int .i64 qp, .int .i64 qs] 53)
  have l3 := l4_new w2 (.int .u8 3) (.int .i64 qv) (.int .i64 qp) (.int .i64 qs) 53
  obtain ⟨e0, e1, e2, e3, el, ef⟩ := l3
  have c := HC.out _ b3
  have hr := HR.out _ b3
  have d0 := hr.c0 f hf
  have d1 := hr.c1 f hf
  have d2 := hr.c2 f hf
  have d3 := hr.c3 f hf
  have df := hr.fz
  have HB3 := Lib.hid b3
  clear b2 b3 hr
  go_wp2
  go_ret
  exact ⟨rfl, HT.out _ HB3.out⟩
set_option maxHeartbeats 1000000 in
theorem reclaim_used {w : World} {B g cap k : Nat} {L : Nat → R4} (H : Bk w B g cap k L) (f : Nat) (hf : f < k) (n : Int) (n0 : 0 ≤ n) (n6 : n < 6) (h3 : (L f).k = 3) (hn : (L f).vm = n) (hs : 0 < (L f).sh) :
    Calls Try.prog 25 #[.pointer (some ⟨B, 0, none⟩), .int .i64 f, .int .i64 n] w fun e w' => e = .returned (.int .i64 8) ∧ Below w.heap.size w w' := by
  have HG := Lib.hid (page_ok H f hf n n0 n6 h3 hn)
  unfold R4.agg at *
  obtain ⟨⟨qk, qv, qp, qs⟩, hL⟩ : ∃ q, L f = q := ⟨_, rfl⟩
  rw [hL] at h3 hn HG hs
  simp only at h3 hn HG hs
  obtain rfl : qk = 3 := h3
  subst hn
  clear hL H
  go_enter Try.func25, Try.ntmps25
  go_wp2_with fail
  refine (HG.out).mono ?_
  rintro e w2 ⟨rfl, b2⟩
  have b3 := below_more b2 (.cells #[.int .u8 3, .int .i64 qv, .int .i64 qp, .int .i64 qs] 53)
  have l3 := l4_new w2 (.int .u8 3) (.int .i64 qv) (.int .i64 qp) (.int .i64 qs) 53
  obtain ⟨e0, e1, e2, e3, el, ef⟩ := l3
  have HB3 := Lib.hid b3
  clear b2 b3
  go_wp2
  go_ret
  exact ⟨rfl, HB3.out⟩
end Go.Proofs.Ytjidhmdphlmldaa
