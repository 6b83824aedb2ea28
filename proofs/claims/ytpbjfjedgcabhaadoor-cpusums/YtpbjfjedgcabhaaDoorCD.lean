/-
  Contracts of package code (Right, Encode): each returns what the plain text names; what was there is left alone.
-/
import Derived.Test.YtpbjfjedgcabhaaDoorCC
namespace Go.Proofs.YtpbjfjedgcabhaaDoor
open Go.ChangeShapes Go.WideShapes Go.ChangeAt Go.RowKit
open WM CM
set_option maxRecDepth 100000


/-- The five cells of an instruction that lies in a block, in a grown world. -/
structure Lies (w : World) (B : Nat) (c a b d : Nat) (n : Int) : Prop where
  k0 : w.cell? ⟨B, 0, none⟩ = some (.int .u8 c)
  k1 : w.cell? ⟨B, 1, none⟩ = some (.int .u8 a)
  k2 : w.cell? ⟨B, 2, none⟩ = some (.int .u8 b)
  k3 : w.cell? ⟨B, 3, none⟩ = some (.int .u8 d)
  k4 : w.cell? ⟨B, 4, none⟩ = some (.int .i16 n)
  lt : B < w.heap.size
  fz : ∀ i, w.frozen? ⟨B, i, none⟩ = false
theorem lies_new (w : World) (c a b d : Nat) (n : Int) (t : TypeId) : Lies (w.alloc (.cells #[.int .u8 c, .int .u8 a, .int .u8 b, .int .u8 d, .int .i16 n] t)) w.heap.size c a b d n :=
  ⟨by simp, by simp, by simp, by simp, by simp, by simp, fun i => by simp⟩
theorem lies_zero (w : World) (t : TypeId) : Lies (w.alloc (.cells #[.int .u8 0, .int .u8 0, .int .u8 0, .int .u8 0, .int .i16 0] t)) w.heap.size 0 0 0 0 0 := lies_new w 0 0 0 0 0 t
theorem Lies.later {w w' : World} {B c a b d : Nat} {n : Int} (h : Lies w B c a b d n) (hb : Below w.heap.size w w') : Lies w' B c a b d n :=
  ⟨(hb.cell h.lt).trans h.k0, (hb.cell h.lt).trans h.k1, (hb.cell h.lt).trans h.k2, (hb.cell h.lt).trans h.k3, (hb.cell h.lt).trans h.k4, Nat.lt_of_lt_of_le h.lt hb.size, fun i => (hb.frozen h.lt).trans (h.fz i)⟩

theorem right_in (c a b d : Nat) (n : Int) (w : World) :
    Calls Tryd.prog 60 #[opV c a b d n] w fun e w' => e = .returned (.bool (rightB c a b d n)) ∧ Below w.heap.size w w' := by
  unfold rightB numB
  have hl := lies_new w c a b d n 74
  have hw := below_new w (.cells #[.int .u8 c, .int .u8 a, .int .u8 b, .int .u8 d, .int .i16 n] 74)
  unfold opV
  by_cases hc : c < 23
  · have hc' : (c : Int) < 23 := by omega
    cases hA : regB a (hasA c)
    · simp only [hc, decide_true, Bool.true_and, Bool.false_and]
      go_enter Tryd.func60, Tryd.ntmps60
      go_wp2_with (first | (go_at_call 58; refine (fieldsOf_in _ _).mono ?_; rintro e W1 ⟨rfl, hb1⟩; obtain ⟨k0, k1, k2, k3, k4, kl, kf⟩ := hl.later hb1) | (go_at_call 71; refine (register_in _ _ _).mono ?_; rintro e w' ⟨rfl, rfl⟩))
      go_ret
      exact ⟨rfl, below_more (below_up hw hb1) _⟩
    · cases hB : regB b (hasB c)
      · simp only [hc, decide_true, Bool.true_and, Bool.false_and]
        go_enter Tryd.func60, Tryd.ntmps60
        go_wp2_with (first | (go_at_call 58; refine (fieldsOf_in _ _).mono ?_; rintro e W1 ⟨rfl, hb1⟩; obtain ⟨k0, k1, k2, k3, k4, kl, kf⟩ := hl.later hb1) | (go_at_call 71; refine (register_in _ _ _).mono ?_; rintro e w' ⟨rfl, rfl⟩))
        go_ret
        exact ⟨rfl, below_more (below_up hw hb1) _⟩
      · cases hD : regB d (hasC c)
        · simp only [hc, decide_true, Bool.true_and, Bool.false_and]
          go_enter Tryd.func60, Tryd.ntmps60
          go_wp2_with (first | (go_at_call 58; refine (fieldsOf_in _ _).mono ?_; rintro e W1 ⟨rfl, hb1⟩; obtain ⟨k0, k1, k2, k3, k4, kl, kf⟩ := hl.later hb1) | (go_at_call 71; refine (register_in _ _ _).mono ?_; rintro e w' ⟨rfl, rfl⟩))
          go_ret
          exact ⟨rfl, below_more (below_up hw hb1) _⟩
        · simp only [hc, decide_true, Bool.true_and]
          go_enter Tryd.func60, Tryd.ntmps60
          go_wp2_with (first | (go_at_call 58; refine (fieldsOf_in _ _).mono ?_; rintro e W1 ⟨rfl, hb1⟩; obtain ⟨k0, k1, k2, k3, k4, kl, kf⟩ := hl.later hb1) | (go_at_call 71; refine (register_in _ _ _).mono ?_; rintro e w' ⟨rfl, rfl⟩) | (go_at_call 72; refine (number_in c a b d n _ _).mono ?_; rintro e W2 ⟨rfl, hb2⟩))
          go_ret
          exact ⟨rfl, below_up (below_more (below_up hw hb1) _) hb2⟩
  · have hc' : ¬ (c : Int) < 23 := by omega
    simp only [hc, decide_false, Bool.false_and]
    go_enter Tryd.func60, Tryd.ntmps60
    go_wp2_with (go_at_call 58; refine (fieldsOf_in _ _).mono ?_; rintro e W1 ⟨rfl, hb1⟩; obtain ⟨k0, k1, k2, k3, k4, kl, kf⟩ := hl.later hb1)
    go_ret
    exact ⟨rfl, below_more (below_up hw hb1) _⟩

/-! ### Encode -/
theorem low_val (c a b d : Nat) (n : Int) (hr : rightB c a b d n = true) : bits .or .u64 ((fieldN (n % 18446744073709551616).toNat 0 16 : Nat) : Int) (IntKind.u64.wrap (d : Int)) = ((lowN c d n : Nat) : Int) := by
  have hd := (right_lt hr).2.2.2
  have hlt : (n % 18446744073709551616).toNat < 18446744073709551616 := by omega
  rw [wrapN d (by omega), u64_or_nat _ _ (fieldN_lt _ _ _) (by omega), fieldN_div _ _ _ hlt (by omega)]
  unfold lowN
  rcases right_low hr with ⟨h1, h2⟩ | ⟨h1, h2⟩
  · rw [h1, h2]; simp
  · rw [h1, h2]; simp; omega
theorem word_val (c a b d : Nat) (n : Int) (hr : rightB c a b d n = true) :
    withN (withN (withN (lowN c d n) 18 4 b) 22 4 a) 26 6 c = wordN c a b d n := by
  obtain ⟨hc, ha, hb, hd⟩ := right_lt hr
  have hl := low_lt c d n hd
  rw [withN_add _ 18 4 b (by omega) (by omega) (by omega), withN_add _ 22 4 a (by omega) (by omega) (by omega), withN_add _ 26 6 c (by omega) (by omega) (by omega)]
  unfold wordN; omega
theorem field_n16 (n : Int) (w : World) :
    Calls Tryd.prog 57 #[.int .u64 (IntKind.u64.wrap n), .int .i64 0, .int .i64 16] w fun e w' => e = .returned (.int .u64 ((fieldN (n % 18446744073709551616).toNat 0 16 : Nat) : Int)) ∧ ∃ q, w' = w.drewN q := by
  have h := field_yes (n % 18446744073709551616).toNat 0 16 w (by omega) (by omega) (by omega)
  rw [show (((n % 18446744073709551616).toNat : Nat) : Int) = IntKind.u64.wrap n by rw [IntKind.wrap_u64]; omega] at h
  exact h
theorem with_18 (x v : Nat) (w : World) (hx : x < 18446744073709551616) (hv : v < 18446744073709551616) : Calls Tryd.prog 61 #[.int .u64 x, .int .i64 18, .int .i64 4, .int .u64 (IntKind.u64.wrap v)] w fun e w' => e = .returned (.int .u64 (withN x 18 4 v : Nat)) ∧ w = w' := by
  rw [wrapN v hv]; exact with_yes x 18 4 v w hx (by omega) (by omega)
theorem with_22 (x v : Nat) (w : World) (hx : x < 18446744073709551616) (hv : v < 18446744073709551616) : Calls Tryd.prog 61 #[.int .u64 x, .int .i64 22, .int .i64 4, .int .u64 (IntKind.u64.wrap v)] w fun e w' => e = .returned (.int .u64 (withN x 22 4 v : Nat)) ∧ w = w' := by
  rw [wrapN v hv]; exact with_yes x 22 4 v w hx (by omega) (by omega)
theorem with_26 (x v : Nat) (w : World) (hx : x < 18446744073709551616) (hv : v < 18446744073709551616) : Calls Tryd.prog 61 #[.int .u64 x, .int .i64 26, .int .i64 6, .int .u64 (IntKind.u64.wrap v)] w fun e w' => e = .returned (.int .u64 (withN x 26 6 v : Nat)) ∧ w = w' := by
  rw [wrapN v hv]; exact with_yes x 26 6 v w hx (by omega) (by omega)
theorem encode_no (c a b d : Nat) (n : Int) (w : World) (hr : rightB c a b d n = false) :
    Calls Tryd.prog 35 #[opV c a b d n] w fun e w' => e = .returned (.tuple #[.int .u32 0, .bool false]) ∧ Below w.heap.size w w' := by
  have hR := right_in c a b d n
  rw [hr] at hR
  clear hr
  have HR := Lib.hid hR
  clear hR
  have hw := below_new w (.cells #[.int .u8 c, .int .u8 a, .int .u8 b, .int .u8 d, .int .i16 n] 74)
  have HR' : Hid (∀ w, Calls Tryd.prog 60 #[.agg #[.int .u8 c, .int .u8 a, .int .u8 b, .int .u8 d, .int .i16 n]] w fun e w' => e = .returned (.bool false) ∧ Below w.heap.size w w') := HR
  clear HR
  unfold opV
  go_enter Tryd.func35, Tryd.ntmps35
  go_wp2_with (go_at_call 60; refine (HR'.out _).mono ?_; rintro e W1 ⟨rfl, hb1⟩)
  go_ret2
  exact ⟨rfl, below_up hw hb1⟩
theorem encode_yes (c a b d : Nat) (n : Int) (w : World) (hr : rightB c a b d n = true) :
    Calls Tryd.prog 35 #[opV c a b d n] w fun e w' => e = .returned (.tuple #[.int .u32 (wordN c a b d n : Nat), .bool true]) ∧ Below w.heap.size w w' := by
  have hl := lies_new w c a b d n 74
  have HV := Lib.hid (low_val c a b d n hr)
  have HW := Lib.hid (word_val c a b d n hr)
  have hlt := right_lt hr
  have hww := word_lt (n := n) (show c < 64 by omega) hlt.2.1 hlt.2.2.1 hlt.2.2.2
  have hL := low_lt c d n hlt.2.2.2
  have HLT := Lib.hid hlt
  have hR := right_in c a b d n
  rw [hr] at hR
  clear hr hlt
  have HR' : Hid (∀ w, Calls Tryd.prog 60 #[.agg #[.int .u8 c, .int .u8 a, .int .u8 b, .int .u8 d, .int .i16 n]] w fun e w' => e = .returned (.bool true) ∧ Below w.heap.size w w') := hR
  clear hR
  have hw := below_new w (.cells #[.int .u8 c, .int .u8 a, .int .u8 b, .int .u8 d, .int .i16 n] 74)
  unfold opV
  go_enter Tryd.func35, Tryd.ntmps35
  go_wp2_with (go_at_call 60; refine (HR'.out _).mono ?_; rintro e W1 ⟨rfl, hb1⟩; obtain ⟨k0, k1, k2, k3, k4, kl, kf⟩ := hl.later hb1)
  go_quiet ((go_at_call 57; exact Calls.quiet_of (field_n16 _ _)))
  go_wp2_with fail
  rw [HV.out]
  refine (with_18 _ b _ (by omega) (by have := HLT.out; omega)).mono ?_
  rintro e w' ⟨rfl, rfl⟩
  go_wp2_with fail
  refine (with_22 _ a _ (withN_lt _ _ _ _) (by have := HLT.out; omega)).mono ?_
  rintro e w' ⟨rfl, rfl⟩
  go_wp2_with fail
  refine (with_26 _ c _ (withN_lt _ _ _ _) (by have := HLT.out; omega)).mono ?_
  rintro e w' ⟨rfl, rfl⟩
  rw [HW.out]
  go_wp2
  go_ret2
  exact ⟨rfl, below_draws (below_up hw hb1) _⟩
end Go.Proofs.YtpbjfjedgcabhaaDoor
