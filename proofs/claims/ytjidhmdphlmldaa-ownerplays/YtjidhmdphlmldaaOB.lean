/-
  Contracts of package owner: hand, pageOf, and the calls that are made of them: Donate, Keep, Share, Unshare, Reclaim, Release.
-/
import Derived.Test.YtjidhmdphlmldaaOA
namespace Go.Proofs.Ytjidhmdphlmldaa
open Go.ChangeShapes Go.WideShapes Go.ChangeAt Go.RowKit
set_option maxRecDepth 100000

/-- What a call that turns a row leaves. -/
structure Tn (w w' : World) (B g cap k : Nat) (L : Nat → R4) : Prop where
  bk : Bk w' B g cap k L
  gr : w.grownBy w' (some g)
theorem Tn.of {w U : World} {B g cap k : Nat} {L : Nat → R4} (H : Bk w B g cap k L) (hb : Below w.heap.size w U) (f : Nat) (hf : f < k) (r : R4) : Tn w (put4 U g f r) B g cap k (upd4 L f r) :=
  ⟨(H.below hb).put f hf r, grown_trans (grown_below hb _) (put4_grown U g f r)⟩
theorem Tn.drew {w U : World} {B g cap k : Nat} {L : Nat → R4} (h : Tn w U B g cap k L) : Tn w U.drew B g cap k L := ⟨h.bk.below (below_draws (Below.refl _ _) 1), grown_drew h.gr⟩
theorem Tn.same {w U : World} {B g cap k : Nat} {L : Nat → R4} (H : Bk w B g cap k L) (hb : Below w.heap.size w U) : Tn w U B g cap k L := ⟨H.below hb, grown_below hb _⟩
theorem Tn.after {w U V : World} {B g cap k : Nat} {L : Nat → R4} (h : Tn U V B g cap k L) (hb : Below w.heap.size w U) : Tn w V B g cap k L := ⟨h.bk, grown_trans (grown_below hb _) h.gr⟩

/-! ### where there is no such frame, or no book -/
def GF (w : World) (v : Value) (f : Int) : Prop := ∀ U, Below w.heap.size w U → Calls Try.prog 28 #[v, .int .i64 f] U fun e w' => e = .returned (.tuple #[R4.zero.agg, .int .i64 1]) ∧ Below U.heap.size U w'
theorem gf_nil (w : World) (f : Int) : GF w (.pointer none) f := fun U _ => get_nil U f
theorem gf_out {w : World} {B g cap k : Nat} {L : Nat → R4} (H : Bk w B g cap k L) (f : Int) (hf : ¬ (0 ≤ f ∧ f < k)) : GF w (.pointer (some ⟨B, 0, none⟩)) f := fun _ hb => get_no (H.below hb) f hf
theorem GF.below {w U : World} {v : Value} {f : Int} (h : GF w v f) (hb : Below w.heap.size w U) : GF U v f := fun _ hb' => h _ (below_up hb hb')

/-! ### hand -/
set_option maxHeartbeats 1000000 in
theorem hand_ok {w : World} {B g cap k : Nat} {L : Nat → R4} (H : Bk w B g cap k L) (f : Nat) (hf : f < k) (h0 : (L f).k = 0) (r : R4) :
    Calls Try.prog 37 #[.pointer (some ⟨B, 0, none⟩), .int .i64 f, r.agg] w fun e w' => e = .returned (.int .i64 0) ∧ Tn w w' B g cap k (upd4 L f r) := by
  have HT := Lib.hid (fun U hb => Tn.of H (U := U) hb f hf r)
  have HG := Lib.hid (get_yes (H.below (below_new w (.cells #[.int .u8 (r.k : Nat), .int .i64 r.vm, .int .i64 r.pg, .int .i64 r.sh] 53))) f hf)
  have HC := Lib.hid (fun U (hb : Below w.heap.size w U) => (H.below hb).c)
  have HR := Lib.hid (fun U (hb : Below w.heap.size w U) => (H.below hb).row)
  have f1 : ¬ (k : Int) ≤ (f : Int) := by omega
  obtain ⟨rk, rv, rp, rs⟩ := r
  have l1 := l4_new w (.int .u8 (rk : Nat)) (.int .i64 rv) (.int .i64 rp) (.int .i64 rs) 53
  have b1 := below_new w (.cells #[.int .u8 (rk : Nat), .int .i64 rv, .int .i64 rp, .int .i64 rs] 53)
  unfold R4.agg at *
  simp only at HG
  obtain ⟨⟨qk, qv, qp, qs⟩, hL⟩ : ∃ q, L f = q := ⟨_, rfl⟩
  rw [hL] at h0 HG
  obtain rfl : qk = 0 := h0
  clear hL H
  go_enter Try.func37, Try.ntmps37
  go_wp2_with fail
  refine (HG.out).mono ?_
  rintro e w2 ⟨rfl, b2⟩
  have b3 := below_up b1 (below_up b2 (below_new w2 (.cells #[.int .u8 0, .int .i64 qv, .int .i64 qp, .int .i64 qs] 53)))
  have l3 := l1.later (below_up b2 (below_new w2 (.cells #[.int .u8 0, .int .i64 qv, .int .i64 qp, .int .i64 qs] 53)))
  have l4 := l4_new w2 (.int .u8 0) (.int .i64 qv) (.int .i64 qp) (.int .i64 qs) 53
  have c := HC.out _ b3
  have hr := HR.out _ b3
  have d0 := hr.c0 f hf
  have d1 := hr.c1 f hf
  have d2 := hr.c2 f hf
  have d3 := hr.c3 f hf
  have df := hr.fz
  obtain ⟨e0, e1, e2, e3, el, ef⟩ := l3
  obtain ⟨g0, g1, g2, g3, gl, gf⟩ := l4
  have HB3 := Lib.hid b3
  clear hr l1 b1 b2 b3
  go_wp2
  go_region
  go_wp2
  go_ret
  exact ⟨rfl, (HT.out _ HB3.out).drew⟩
set_option maxHeartbeats 1000000 in
theorem hand_used {w : World} {B g cap k : Nat} {L : Nat → R4} (H : Bk w B g cap k L) (f : Nat) (hf : f < k) (h0 : (L f).k ≠ 0) (r : R4) :
    Calls Try.prog 37 #[.pointer (some ⟨B, 0, none⟩), .int .i64 f, r.agg] w fun e w' => e = .returned (.int .i64 8) ∧ Below w.heap.size w w' := by
  have HG := Lib.hid (get_yes (H.below (below_new w (.cells #[.int .u8 (r.k : Nat), .int .i64 r.vm, .int .i64 r.pg, .int .i64 r.sh] 53))) f hf)
  obtain ⟨rk, rv, rp, rs⟩ := r
  have b1 := below_new w (.cells #[.int .u8 (rk : Nat), .int .i64 rv, .int .i64 rp, .int .i64 rs] 53)
  unfold R4.agg at *
  simp only at HG
  obtain ⟨⟨qk, qv, qp, qs⟩, hL⟩ : ∃ q, L f = q := ⟨_, rfl⟩
  rw [hL] at h0 HG
  have t0 : ((qk : Int) == 0) = false := by simp only at h0; simpa using h0
  have t1 : ((qk : Int) != 0) = true := by simp only at h0; simpa using h0
  clear hL H h0
  go_enter Try.func37, Try.ntmps37
  go_wp2_with fail
  refine (HG.out).mono ?_
  rintro e w2 ⟨rfl, b2⟩
  have b3 := below_up b1 (below_up b2 (below_new w2 (.cells #[.int .u8 (qk : Nat), .int .i64 qv, .int .i64 qp, .int .i64 qs] 53)))
  obtain ⟨g0, g1, g2, g3, gl, gf⟩ := l4_new w2 (.int .u8 (qk : Nat)) (.int .i64 qv) (.int .i64 qp) (.int .i64 qs) 53
  have HB3 := Lib.hid b3
  clear b1 b2 b3
  go_wp2
  go_ret
  exact ⟨rfl, HB3.out⟩
set_option maxHeartbeats 1000000 in
theorem hand_no {w : World} {v : Value} {f : Int} (H : GF w v f) (r : R4) :
    Calls Try.prog 37 #[v, .int .i64 f, r.agg] w fun e w' => e = .returned (.int .i64 1) ∧ Below w.heap.size w w' := by
  have b1 := below_new w (.cells #[.int .u8 (r.k : Nat), .int .i64 r.vm, .int .i64 r.pg, .int .i64 r.sh] 53)
  have HG := Lib.hid (H _ b1)
  obtain ⟨rk, rv, rp, rs⟩ := r
  unfold R4.agg R4.zero at *
  simp only at HG b1
  clear H
  go_enter Try.func37, Try.ntmps37
  go_wp2_with fail
  refine (HG.out).mono ?_
  rintro e w2 ⟨rfl, b2⟩
  have HB3 := Lib.hid (below_up b1 (below_up b2 (below_new w2 (.cells #[.int .u8 0, .int .i64 0, .int .i64 0, .int .i64 0] 53))))
  clear b1 b2
  go_wp2
  go_ret
  exact ⟨rfl, HB3.out⟩
/-- What hand answers. -/
def handE (k : Nat) (L : Nat → R4) (f : Int) : Int := if 0 ≤ f ∧ f < k then (if (L f.toNat).k = 0 then 0 else 8) else 1
def turned (L : Nat → R4) (e f : Int) (r : R4) : Nat → R4 := if e = 0 then upd4 L f.toNat r else L
theorem turned_ok (L : Nat → R4) (f : Int) (r : R4) : turned L 0 f r = upd4 L f.toNat r := if_pos rfl
theorem turned_err (L : Nat → R4) {e : Int} (h : e ≠ 0) (f : Int) (r : R4) : turned L e f r = L := if_neg h
theorem hand_in {w : World} {B g cap k : Nat} {L : Nat → R4} (H : Bk w B g cap k L) (f : Int) (r : R4) :
    Calls Try.prog 37 #[.pointer (some ⟨B, 0, none⟩), .int .i64 f, r.agg] w fun e w' => e = .returned (.int .i64 (handE k L f)) ∧ Tn w w' B g cap k (turned L (handE k L f) f r) := by
  by_cases h : 0 ≤ f ∧ f < k
  · obtain ⟨n, rfl⟩ := Int.eq_ofNat_of_zero_le h.1
    by_cases h0 : (L n).k = 0
    · have e : handE k L n = 0 := by unfold handE; rw [if_pos h, if_pos (by simpa using h0)]
      rw [e, turned_ok]
      exact hand_ok H n (by omega) h0 r
    · have e : handE k L n = 8 := by unfold handE; rw [if_pos h, if_neg (by simpa using h0)]
      rw [e, turned_err _ (by omega)]
      exact (hand_used H n (by omega) h0 r).mono fun _ _ ⟨a, b⟩ => ⟨a, Tn.same H b⟩
  · have e : handE k L f = 1 := by unfold handE; rw [if_neg h]
    rw [e, turned_err _ (by omega)]
    exact (hand_no (gf_out H f h) r).mono fun _ _ ⟨a, b⟩ => ⟨a, Tn.same H b⟩
end Go.Proofs.Ytjidhmdphlmldaa
