/-
  PROVED: for every frame, write, there, word w and number n the law TableEntries returns true: an entry as a word of each form, and back; any word is an entry's, or none's; and the arguments read as they did.
-/
import Derived.Test.YtepcijkmecoofaaRows
import Derived.Test.YtepcijkmecoofaaWM
import Derived.Test.YtepcijkmecoofaaWC
import Derived.Test.YtepcijkmecoofaaLT
import Derived.Test.YtepcijkmecoofaaEM
import Derived.Test.YtepcijkmecoofaaEC
import Derived.Test.YtepcijkmecoofaaEP
import Derived.Test.YtepcijkmecoofaaEU
import Derived.Test.YtepcijkmecoofaaWB
import Derived.Test.YtepcijkmecoofaaSM
import Derived.Test.YtepcijkmecoofaaSC
import Derived.Test.YtepcijkmecoofaaSD
import Derived.Test.YtepcijkmecoofaaED
import Derived.Test.YtepcijkmecoofaaEB
import Derived.Test.YtepcijkmecoofaaEW
import Derived.Test.YtepcijkmecoofaaVA
import Derived.Test.YtepcijkmecoofaaEK
import Derived.Test.YtepcijkmecoofaaEN
import Derived.Test.YtepcijkmecoofaaEO
import Derived.Test.YtepcijkmecoofaaEQ
import Derived.WalkKit
import Derived.ProofKit
import Derived.OpenShut
import Derived.ShutString
import Derived.ChangeOld
import Derived.Below
import Derived.Deep.CutBlock
import Derived.Deep.RegionHeld3
import Derived.Deep.Slices
import Derived.Deep.Fields
namespace Go.Proofs.Ytepcijkmecoofaa.tableEntries
open Go.Proofs.Ytepcijkmecoofaa Go.Proofs.Ytepcijkmecoofaa.WM
open Go.ChangeShapes Go.WideShapes Go.ChangeAt Go.RowKit
open Go.ChangeMaps (open_string shut_string)
set_option linter.unusedVariables false
set_option maxRecDepth 100000

theorem own : ownKnob Try.prog.godebug = none := by kernel_rfl
theorem laidOut : laidOutB Try.prog = true := by kernel_rfl
theorem wf_u16 {a : Int} (h : (Lit.int .u16 a).wf = true) : ∃ n : Nat, a = n ∧ n < 65536 := by
  simp only [Lit.wf, IntKind.min, IntKind.max, IntKind.signed, IntKind.bits, Bool.and_eq_true] at h
  simp at h
  exact ⟨a.toNat, by omega, by omega⟩
theorem wf_u64 {a : Int} (h : (Lit.int .u64 a).wf = true) : ∃ n : Nat, a = n ∧ n < 18446744073709551616 := by
  simp only [Lit.wf, IntKind.min, IntKind.max, IntKind.signed, IntKind.bits, Bool.and_eq_true] at h
  simp at h
  exact ⟨a.toNat, by omega, by omega⟩
theorem wf_u8 {a : Int} (h : (Lit.int .u8 a).wf = true) : ∃ n : Nat, a = n ∧ n < 256 := by
  simp only [Lit.wf, IntKind.min, IntKind.max, IntKind.signed, IntKind.bits, Bool.and_eq_true] at h
  simp at h
  exact ⟨a.toNat, by omega, by omega⟩

/-! ### the walk -/
set_option maxRecDepth 100000
open EM
/-- What a word w is read as, and packed again. -/
structure Tail (form w : Nat) (t : Bool) (f : Nat) (wr is : Bool) (y : Nat) : Prop where
  un : ∀ W, Calls Try.prog 14 #[.int .i64 form, .int .u64 w] W fun e w' => e = .returned (.tuple #[.agg #[.bool t, .int .i64 f, .bool wr], .bool is]) ∧ Below W.heap.size W w'
  pa : ∀ W, Calls Try.prog 15 #[.int .i64 form, .agg #[.bool t, .int .i64 f, .bool wr]] W fun e w' => e = .returned (.int .u64 (y : Nat)) ∧ Below W.heap.size W w'
  cs : (is = true ∧ y = w ∧ t = true ∧ w ≠ 0) ∨ (is = true ∧ y = 0 ∧ w = 0 ∧ t = false) ∨ (is = false ∧ y = 0 ∧ w ≠ 0)
theorem tail_in (form w : Nat) (hform : form = 1 ∨ form = 2) (hw : w < 18446744073709551616) : ∃ t f wr is y, Tail form w t f wr is y := by
  by_cases h0 : w = 0
  · subst h0
    exact ⟨false, 0, false, true, 0, fun W => unpack_zero form W hform, fun W => pack_zero form 0 false W hform, .inr (.inl ⟨rfl, rfl, rfl, rfl⟩)⟩
  · cases hT : isT form w
    · have hE : isE form w = false := by unfold isE; rw [hT]; simpa using h0
      exact ⟨false, 0, false, false, 0, fun W => unpack_no form w W hform hw hE, fun W => pack_zero form 0 false W hform, .inr (.inr ⟨rfl, rfl, h0⟩)⟩
    · have h := isT_eq hT
      refine ⟨true, fr form w, wrB form w, true, w, fun W => unpack_yes form w W hform hw hT, fun W => ?_, .inl ⟨rfl, rfl, rfl, h0⟩⟩
      have := pack_in form (fr form w) (wrB form w) W hform (fr_lt form w)
      rw [h.1] at this; exact this
/-- One way through the law: an entry x = (t, f, wr), whose word is v, in the form form. -/
structure Head (form : Nat) (t : Bool) (f : Nat) (wr : Bool) (v : Nat) : Prop where
  un : ∀ W, Calls Try.prog 14 #[.int .i64 form, .int .u64 v] W fun e w' => e = .returned (.tuple #[.agg #[.bool t, .int .i64 f, .bool wr], .bool true]) ∧ Below W.heap.size W w'
  pa : ∀ W, Calls Try.prog 15 #[.int .i64 form, .agg #[.bool t, .int .i64 f, .bool wr]] W fun e w' => e = .returned (.int .u64 (v : Nat)) ∧ Below W.heap.size W w'
theorem head_yes (form f : Nat) (wr : Bool) (hform : form = 1 ∨ form = 2) (hf : f < 65536) : Head form true f wr (pk form f wr) := by
  refine ⟨fun W => ?_, fun W => pack_in form f wr W hform hf⟩
  have h := unpack_yes form (pk form f wr) W hform (pk_lt _ _ _ hf) (isT_pk _ _ _ hf)
  rw [fr_pk _ _ _ hf, wr_pk _ _ _ hf] at h
  exact h
theorem head_no (form : Nat) (hform : form = 1 ∨ form = 2) : Head form false 0 false 0 := ⟨fun W => unpack_zero form W hform, fun W => pack_zero form 0 false W hform⟩
theorem e10 (f : Nat) (hf : f < 65536) : (1 + (f : Int) * 256) = ((pk 1 f false : Nat) : Int) := by unfold pk; simp; omega
theorem e11 (f : Nat) (hf : f < 65536) : (1 + (f : Int) * 256 + 2) = ((pk 1 f true : Nat) : Int) := by unfold pk; simp; omega
theorem e20 (f : Nat) (hf : f < 65536) : (9223372036854775808 + (65535 - (f : Int))) = ((pk 2 f false : Nat) : Int) := by unfold pk; simp; omega
theorem e21 (f : Nat) (hf : f < 65536) : (9223372036854775808 + (65535 - (f : Int)) + 4611686018427387904) = ((pk 2 f true : Nat) : Int) := by unfold pk; simp; omega
set_option maxHeartbeats 4000000 in
theorem entries (frame : Nat) (hframe : frame < 65536) (write there : Bool) (w : Nat) (n : Nat) (hn : n < 256) (form : Nat) (hf : formN n = form) (W : World) (f : Nat) (wr : Bool) (v : Nat) (HH : Head form there f wr v) (t2 : Bool) (f2 : Nat) (wr2 is2 : Bool) (y2 : Nat) (HT : Tail form w t2 f2 wr2 is2 y2)
    (hcase : (there = false ∧ f = 0 ∧ wr = false ∧ v = 0 ∧ (form = 1 ∨ form = 2)) ∨ (there = true ∧ f = frame ∧ wr = write ∧ v = pk form frame write ∧ (form = 1 ∨ form = 2))) :
    Calls Try.prog 4 #[.int .u16 frame, .bool write, .bool there, .int .u64 w, .int .u8 n] W fun e w' => e = .returned (.bool true) ∧ Below W.heap.size W w' := by
  have HF := form_in n hn W
  rw [hf] at HF
  have HF' := Lib.hid HF
  have HU := Lib.hid HH.un
  have HP := Lib.hid HH.pa
  have HU2 := Lib.hid HT.un
  have HP2 := Lib.hid HT.pa
  have hcs := HT.cs
  have E10 := Lib.hid (e10 frame hframe)
  have E11 := Lib.hid (e11 frame hframe)
  have E20 := Lib.hid (e20 frame hframe)
  have E21 := Lib.hid (e21 frame hframe)
  clear HF hf HH HT hn
  have hbb : ∀ (a b c : Value) (V : World), Below W.heap.size W V → Below W.heap.size W (V.alloc (.cells #[a, b, c] 31)) := fun a b c V hb => below_more hb _
  have HBB := Lib.hid hbb
  clear hbb
  rcases hcase with ⟨rfl, rfl, rfl, rfl, hform⟩ | ⟨rfl, rfl, rfl, rfl, hform⟩
  · have b1 := below_new W (.cells #[.bool false, .int .i64 0, .bool false] 31)
    have l1 := l3_new W (.bool false) (.int .i64 0) (.bool false) 31
    rcases hform with rfl | rfl <;> cases write
    all_goals as_aux_lemma =>
      go_enter Try.func4, Try.ntmps4
      go_wp2_with (go_at_call 13; refine (HF'.out).mono ?_; rintro e w' ⟨rfl, rfl⟩)
      refine (HU.out _).mono ?_
      rintro e W1 ⟨rfl, h1⟩
      have x1 := (l1.later h1).later (below_new W1 (.cells #[.bool false, .int .i64 0, .bool false] 31))
      have y1 := l3_new W1 (.bool false) (.int .i64 0) (.bool false) 31
      have b2 := below_more (below_up b1 h1) (.cells #[.bool false, .int .i64 0, .bool false] 31)
      clear h1 l1 b1
      go_wp2_with fail
      refine (HU2.out _).mono ?_
      rintro e W2 ⟨rfl, h2⟩
      have x2 := (x1.later h2).later (below_new W2 (.cells #[.bool t2, .int .i64 f2, .bool wr2] 31))
      have y2 := (y1.later h2).later (below_new W2 (.cells #[.bool t2, .int .i64 f2, .bool wr2] 31))
      have z2 := l3_new W2 (.bool t2) (.int .i64 f2) (.bool wr2) 31
      have b3 := below_more (below_up b2 h2) (.cells #[.bool t2, .int .i64 f2, .bool wr2] 31)
      clear h2 x1 y1 b2
      go_wp2_with fail
      refine (awake6_in _).mono ?_
      rintro e W3 ⟨rfl, h3⟩
      have x3 := x2.later h3
      have y3 := y2.later h3
      have z3 := z2.later h3
      have b4 := below_up b3 h3
      clear h3 x2 y2 z2 b3
      obtain ⟨p0, p1, p2, pl, pf⟩ := id x3
      go_wp2_with fail
      refine (HP.out _).mono ?_
      rintro e W4 ⟨rfl, h4⟩
      clear p0 p1 p2 pl pf
      obtain ⟨p0, p1, p2, pl, pf⟩ := x3.later h4
      obtain ⟨q0, q1, q2, ql, qf⟩ := y3.later h4
      have z4 := z3.later h4
      obtain ⟨r0, r1, r2, rl, rf⟩ := id z4
      have b5 := below_up b4 h4
      clear h4 x3 y3 z3 b4
      go_wp2_with fail
      refine (HP2.out _).mono ?_
      rintro e W5 ⟨rfl, h5⟩
      clear r0 r1 r2 rl rf p0 p1 p2 pl pf q0 q1 q2 ql qf
      obtain ⟨r0, r1, r2, rl, rf⟩ := z4.later h5
      have b6 := below_up b5 h5
      clear h5 z4 b5
      rcases hcs with ⟨rfl, rfl, rfl, hw0⟩ | ⟨rfl, rfl, rfl, rfl⟩ | ⟨rfl, rfl, hw0⟩
      · go_wp2
        go_ret
        exact ⟨rfl, b6⟩
      · go_wp2
        go_ret
        exact ⟨rfl, b6⟩
      · have t0 : (0 : Int) ≠ (w : Int) := by omega
        have t1 : ((0 : Int) == (w : Int)) = false := by simpa using t0
        go_wp2
        go_ret
        exact ⟨rfl, b6⟩
  · have b1 := below_new W (.cells #[.bool true, .int .i64 f, .bool wr] 31)
    have l1 := l3_new W (.bool true) (.int .i64 f) (.bool wr) 31
    rcases hform with rfl | rfl <;> cases wr
    · have E := E10
      clear E10 E11 E20 E21
      obtain ⟨v, hv⟩ : ∃ v, pk 1 f false = v := ⟨_, rfl⟩
      rw [hv] at E HU HP
      clear hv
      go_enter Try.func4, Try.ntmps4
      go_wp2_with (go_at_call 13; refine (HF'.out).mono ?_; rintro e w' ⟨rfl, rfl⟩)
      rw [E.out]
      refine (HU.out _).mono ?_
      rintro e W1 ⟨rfl, h1⟩
      have x1 := (l1.later h1).later (below_new W1 (.cells #[.bool true, .int .i64 f, .bool false] 31))
      have y1 := l3_new W1 (.bool true) (.int .i64 f) (.bool false) 31
      have b2 := below_more (below_up b1 h1) (.cells #[.bool true, .int .i64 f, .bool false] 31)
      clear h1 l1 b1
      go_wp2_with fail
      refine (HU2.out _).mono ?_
      rintro e W2 ⟨rfl, h2⟩
      have x2 := (x1.later h2).later (below_new W2 (.cells #[.bool t2, .int .i64 f2, .bool wr2] 31))
      have y2 := (y1.later h2).later (below_new W2 (.cells #[.bool t2, .int .i64 f2, .bool wr2] 31))
      have z2 := l3_new W2 (.bool t2) (.int .i64 f2) (.bool wr2) 31
      have b3 := below_more (below_up b2 h2) (.cells #[.bool t2, .int .i64 f2, .bool wr2] 31)
      clear h2 x1 y1 b2
      go_wp2_with fail
      refine (awake6_in _).mono ?_
      rintro e W3 ⟨rfl, h3⟩
      have x3 := x2.later h3
      have y3 := y2.later h3
      have z3 := z2.later h3
      have b4 := below_up b3 h3
      clear h3 x2 y2 z2 b3
      obtain ⟨p0, p1, p2, pl, pf⟩ := id x3
      go_wp2_with fail
      refine (HP.out _).mono ?_
      rintro e W4 ⟨rfl, h4⟩
      clear p0 p1 p2 pl pf
      obtain ⟨p0, p1, p2, pl, pf⟩ := x3.later h4
      obtain ⟨q0, q1, q2, ql, qf⟩ := y3.later h4
      have z4 := z3.later h4
      obtain ⟨r0, r1, r2, rl, rf⟩ := id z4
      have b5 := below_up b4 h4
      clear h4 x3 y3 z3 b4
      go_wp2_with fail
      refine (HP2.out _).mono ?_
      rintro e W5 ⟨rfl, h5⟩
      clear r0 r1 r2 rl rf p0 p1 p2 pl pf q0 q1 q2 ql qf
      obtain ⟨r0, r1, r2, rl, rf⟩ := z4.later h5
      have b6 := below_up b5 h5
      clear h5 z4 b5
      rcases hcs with ⟨rfl, rfl, rfl, hw0⟩ | ⟨rfl, rfl, rfl, rfl⟩ | ⟨rfl, rfl, hw0⟩
      · go_wp2
        go_ret
        exact ⟨rfl, b6⟩
      · go_wp2
        go_ret
        exact ⟨rfl, b6⟩
      · have t0 : (0 : Int) ≠ (w : Int) := by omega
        have t1 : ((0 : Int) == (w : Int)) = false := by simpa using t0
        go_wp2
        go_ret
        exact ⟨rfl, b6⟩
    · have E := E11
      clear E10 E11 E20 E21
      obtain ⟨v, hv⟩ : ∃ v, pk 1 f true = v := ⟨_, rfl⟩
      rw [hv] at E HU HP
      clear hv
      go_enter Try.func4, Try.ntmps4
      go_wp2_with (go_at_call 13; refine (HF'.out).mono ?_; rintro e w' ⟨rfl, rfl⟩)
      rw [E.out]
      refine (HU.out _).mono ?_
      rintro e W1 ⟨rfl, h1⟩
      have x1 := (l1.later h1).later (below_new W1 (.cells #[.bool true, .int .i64 f, .bool true] 31))
      have y1 := l3_new W1 (.bool true) (.int .i64 f) (.bool true) 31
      have b2 := below_more (below_up b1 h1) (.cells #[.bool true, .int .i64 f, .bool true] 31)
      clear h1 l1 b1
      go_wp2_with fail
      refine (HU2.out _).mono ?_
      rintro e W2 ⟨rfl, h2⟩
      have x2 := (x1.later h2).later (below_new W2 (.cells #[.bool t2, .int .i64 f2, .bool wr2] 31))
      have y2 := (y1.later h2).later (below_new W2 (.cells #[.bool t2, .int .i64 f2, .bool wr2] 31))
      have z2 := l3_new W2 (.bool t2) (.int .i64 f2) (.bool wr2) 31
      have b3 := below_more (below_up b2 h2) (.cells #[.bool t2, .int .i64 f2, .bool wr2] 31)
      clear h2 x1 y1 b2
      go_wp2_with fail
      refine (awake6_in _).mono ?_
      rintro e W3 ⟨rfl, h3⟩
      have x3 := x2.later h3
      have y3 := y2.later h3
      have z3 := z2.later h3
      have b4 := below_up b3 h3
      clear h3 x2 y2 z2 b3
      obtain ⟨p0, p1, p2, pl, pf⟩ := id x3
      go_wp2_with fail
      refine (HP.out _).mono ?_
      rintro e W4 ⟨rfl, h4⟩
      clear p0 p1 p2 pl pf
      obtain ⟨p0, p1, p2, pl, pf⟩ := x3.later h4
      obtain ⟨q0, q1, q2, ql, qf⟩ := y3.later h4
      have z4 := z3.later h4
      obtain ⟨r0, r1, r2, rl, rf⟩ := id z4
      have b5 := below_up b4 h4
      clear h4 x3 y3 z3 b4
      go_wp2_with fail
      refine (HP2.out _).mono ?_
      rintro e W5 ⟨rfl, h5⟩
      clear r0 r1 r2 rl rf p0 p1 p2 pl pf q0 q1 q2 ql qf
      obtain ⟨r0, r1, r2, rl, rf⟩ := z4.later h5
      have b6 := below_up b5 h5
      clear h5 z4 b5
      rcases hcs with ⟨rfl, rfl, rfl, hw0⟩ | ⟨rfl, rfl, rfl, rfl⟩ | ⟨rfl, rfl, hw0⟩
      · go_wp2
        go_ret
        exact ⟨rfl, b6⟩
      · go_wp2
        go_ret
        exact ⟨rfl, b6⟩
      · have t0 : (0 : Int) ≠ (w : Int) := by omega
        have t1 : ((0 : Int) == (w : Int)) = false := by simpa using t0
        go_wp2
        go_ret
        exact ⟨rfl, b6⟩
    · have E := E20
      clear E10 E11 E20 E21
      obtain ⟨v, hv⟩ : ∃ v, pk 2 f false = v := ⟨_, rfl⟩
      rw [hv] at E HU HP
      clear hv
      go_enter Try.func4, Try.ntmps4
      go_wp2_with (go_at_call 13; refine (HF'.out).mono ?_; rintro e w' ⟨rfl, rfl⟩)
      rw [E.out]
      refine (HU.out _).mono ?_
      rintro e W1 ⟨rfl, h1⟩
      have x1 := (l1.later h1).later (below_new W1 (.cells #[.bool true, .int .i64 f, .bool false] 31))
      have y1 := l3_new W1 (.bool true) (.int .i64 f) (.bool false) 31
      have b2 := below_more (below_up b1 h1) (.cells #[.bool true, .int .i64 f, .bool false] 31)
      clear h1 l1 b1
      go_wp2_with fail
      refine (HU2.out _).mono ?_
      rintro e W2 ⟨rfl, h2⟩
      have x2 := (x1.later h2).later (below_new W2 (.cells #[.bool t2, .int .i64 f2, .bool wr2] 31))
      have y2 := (y1.later h2).later (below_new W2 (.cells #[.bool t2, .int .i64 f2, .bool wr2] 31))
      have z2 := l3_new W2 (.bool t2) (.int .i64 f2) (.bool wr2) 31
      have b3 := below_more (below_up b2 h2) (.cells #[.bool t2, .int .i64 f2, .bool wr2] 31)
      clear h2 x1 y1 b2
      go_wp2_with fail
      refine (awake6_in _).mono ?_
      rintro e W3 ⟨rfl, h3⟩
      have x3 := x2.later h3
      have y3 := y2.later h3
      have z3 := z2.later h3
      have b4 := below_up b3 h3
      clear h3 x2 y2 z2 b3
      obtain ⟨p0, p1, p2, pl, pf⟩ := id x3
      go_wp2_with fail
      refine (HP.out _).mono ?_
      rintro e W4 ⟨rfl, h4⟩
      clear p0 p1 p2 pl pf
      obtain ⟨p0, p1, p2, pl, pf⟩ := x3.later h4
      obtain ⟨q0, q1, q2, ql, qf⟩ := y3.later h4
      have z4 := z3.later h4
      obtain ⟨r0, r1, r2, rl, rf⟩ := id z4
      have b5 := below_up b4 h4
      clear h4 x3 y3 z3 b4
      go_wp2_with fail
      refine (HP2.out _).mono ?_
      rintro e W5 ⟨rfl, h5⟩
      clear r0 r1 r2 rl rf p0 p1 p2 pl pf q0 q1 q2 ql qf
      obtain ⟨r0, r1, r2, rl, rf⟩ := z4.later h5
      have b6 := below_up b5 h5
      clear h5 z4 b5
      rcases hcs with ⟨rfl, rfl, rfl, hw0⟩ | ⟨rfl, rfl, rfl, rfl⟩ | ⟨rfl, rfl, hw0⟩
      · go_wp2
        go_ret
        exact ⟨rfl, b6⟩
      · go_wp2
        go_ret
        exact ⟨rfl, b6⟩
      · have t0 : (0 : Int) ≠ (w : Int) := by omega
        have t1 : ((0 : Int) == (w : Int)) = false := by simpa using t0
        go_wp2
        go_ret
        exact ⟨rfl, b6⟩
    · have E := E21
      clear E10 E11 E20 E21
      obtain ⟨v, hv⟩ : ∃ v, pk 2 f true = v := ⟨_, rfl⟩
      rw [hv] at E HU HP
      clear hv
      go_enter Try.func4, Try.ntmps4
      go_wp2_with (go_at_call 13; refine (HF'.out).mono ?_; rintro e w' ⟨rfl, rfl⟩)
      rw [E.out]
      refine (HU.out _).mono ?_
      rintro e W1 ⟨rfl, h1⟩
      have x1 := (l1.later h1).later (below_new W1 (.cells #[.bool true, .int .i64 f, .bool true] 31))
      have y1 := l3_new W1 (.bool true) (.int .i64 f) (.bool true) 31
      have b2 := below_more (below_up b1 h1) (.cells #[.bool true, .int .i64 f, .bool true] 31)
      clear h1 l1 b1
      go_wp2_with fail
      refine (HU2.out _).mono ?_
      rintro e W2 ⟨rfl, h2⟩
      have x2 := (x1.later h2).later (below_new W2 (.cells #[.bool t2, .int .i64 f2, .bool wr2] 31))
      have y2 := (y1.later h2).later (below_new W2 (.cells #[.bool t2, .int .i64 f2, .bool wr2] 31))
      have z2 := l3_new W2 (.bool t2) (.int .i64 f2) (.bool wr2) 31
      have b3 := below_more (below_up b2 h2) (.cells #[.bool t2, .int .i64 f2, .bool wr2] 31)
      clear h2 x1 y1 b2
      go_wp2_with fail
      refine (awake6_in _).mono ?_
      rintro e W3 ⟨rfl, h3⟩
      have x3 := x2.later h3
      have y3 := y2.later h3
      have z3 := z2.later h3
      have b4 := below_up b3 h3
      clear h3 x2 y2 z2 b3
      obtain ⟨p0, p1, p2, pl, pf⟩ := id x3
      go_wp2_with fail
      refine (HP.out _).mono ?_
      rintro e W4 ⟨rfl, h4⟩
      clear p0 p1 p2 pl pf
      obtain ⟨p0, p1, p2, pl, pf⟩ := x3.later h4
      obtain ⟨q0, q1, q2, ql, qf⟩ := y3.later h4
      have z4 := z3.later h4
      obtain ⟨r0, r1, r2, rl, rf⟩ := id z4
      have b5 := below_up b4 h4
      clear h4 x3 y3 z3 b4
      go_wp2_with fail
      refine (HP2.out _).mono ?_
      rintro e W5 ⟨rfl, h5⟩
      clear r0 r1 r2 rl rf p0 p1 p2 pl pf q0 q1 q2 ql qf
      obtain ⟨r0, r1, r2, rl, rf⟩ := z4.later h5
      have b6 := below_up b5 h5
      clear h5 z4 b5
      rcases hcs with ⟨rfl, rfl, rfl, hw0⟩ | ⟨rfl, rfl, rfl, rfl⟩ | ⟨rfl, rfl, hw0⟩
      · go_wp2
        go_ret
        exact ⟨rfl, b6⟩
      · go_wp2
        go_ret
        exact ⟨rfl, b6⟩
      · have t0 : (0 : Int) ≠ (w : Int) := by omega
        have t1 : ((0 : Int) == (w : Int)) = false := by simpa using t0
        go_wp2
        go_ret
        exact ⟨rfl, b6⟩
theorem walk (p_frame : Nat) (hp_frame : p_frame < 65536) (p_write : Bool) (p_there : Bool) (p_w : Nat) (hp_w : p_w < 18446744073709551616) (p_n : Nat) (hp_n : p_n < 256) (w : World)  :
    Calls Try.prog 4 #[.int .u16 p_frame, .bool p_write, .bool p_there, .int .u64 p_w, .int .u8 p_n] w fun e w' => e = .returned (.bool true) ∧ Below w.heap.size w w' := by
  have hform := formN_in p_n
  obtain ⟨t, f, wr, is, y, HT⟩ := tail_in (formN p_n) p_w hform hp_w
  cases p_there
  · exact entries p_frame hp_frame p_write false p_w p_n hp_n _ rfl w 0 false 0 (head_no _ hform) t f wr is y HT (.inl ⟨rfl, rfl, rfl, rfl, hform⟩)
  · exact entries p_frame hp_frame p_write true p_w p_n hp_n _ rfl w p_frame p_write _ (head_yes _ _ _ hform hp_frame) t f wr is y HT (.inr ⟨rfl, rfl, rfl, rfl, hform⟩)

/-! ### the row's step -/
set_option maxRecDepth 100000 in
theorem lifted (os : Os) (started : os.Started) (H : Type) (enc : TypeId × Value → H) :
    ReturnsInHanded {} Try.checked os 4 .any (Rows.tableEntriesSpec.pre6 enc Try.prog Try.f4 Rows.tableEntriesRow.domain false) (Rows.tableEntriesSpec.post enc Try.prog Try.f4 false true false false) := by
  refine returnsInHanded_of_change (C := Try.checked) own started (by kernel_rfl) Try.func4
    (ChangeSpec.witness6 (enc := enc) (C := Try.checked) false ⟨#[], #[.int .u16 0, .bool false, .bool false, .int .u64 0, .int .u8 0], []⟩ 8 (by kernel_rfl) (by kernel_rfl) (by kernel_rfl) (by kernel_rfl)) ?_
  intro W base args ds gs before hval0 hW hcnd _
  have hval : ∀ (j : Nat) t v, Try.f4.params[j]? = some t → args[j]? = some v → Value.okWide Try.prog W .any base t v := hval0
  have hW' := hW
  obtain ⟨p, q, hA0, hV, rfl, hfz, hnd⟩ := hW
  have hA : DataW.TrodAll enc Try.prog W 0 (fun _ => true) true Try.f4.params.toList args.toList ds p := hA0
  rw [Try.params4] at hA hval
  obtain ⟨v0, vs0, d0, ds0, p0, q0, hargs, rfl, rfl, h0, r0⟩ := trodAll_cons hA
  obtain ⟨v1, vs1, d1, ds1, p1, q1, rfl, rfl, rfl, h1, r1⟩ := trodAll_cons r0
  obtain ⟨v2, vs2, d2, ds2, p2, q2, rfl, rfl, rfl, h2, r2⟩ := trodAll_cons r1
  obtain ⟨v3, vs3, d3, ds3, p3, q3, rfl, rfl, rfl, h3, r3⟩ := trodAll_cons r2
  obtain ⟨v4, vs4, d4, ds4, p4, q4, rfl, rfl, rfl, h4, r4⟩ := trodAll_cons r3
  obtain ⟨rfl, rfl, rfl⟩ := trodAll_nil r4
  obtain rfl : args = #[v0, v1, v2, v3, v4] := by cases args; simp_all
  obtain ⟨rfl, rfl⟩ := trodVars_none hV
  obtain ⟨a0, rfl, rfl, rfl, w0⟩ := open_int Try.underlying44 (hval 0 44 v0 rfl rfl) h0
  obtain ⟨n0, rfl, b0⟩ := wf_u16 w0
  obtain ⟨a1, rfl, rfl, rfl⟩ := open_bool Try.underlying4 (hval 1 4 v1 rfl rfl) h1
  obtain ⟨a2, rfl, rfl, rfl⟩ := open_bool Try.underlying4 (hval 2 4 v2 rfl rfl) h2
  obtain ⟨a3, rfl, rfl, rfl, w3⟩ := open_int Try.underlying45 (hval 3 45 v3 rfl rfl) h3
  obtain ⟨n3, rfl, b3⟩ := wf_u64 w3
  obtain ⟨a4, rfl, rfl, rfl, w4⟩ := open_int Try.underlying5 (hval 4 5 v4 rfl rfl) h4
  obtain ⟨n4, rfl, b4⟩ := wf_u8 w4
  clear hA0 hval0
  refine (walk n0 b0 a1 a2 n3 b3 n4 b4 W ).mono fun e W' ⟨he, bel⟩ => ?_
  subst he
  exact ⟨_, rfl, _, _, _, [], _, [], hW', trodAll_mk1 (shut_bool Try.underlying4 _), (trodAll_cons_mk (shut_int Try.underlying44 w0) (trodAll_cons_mk (shut_bool Try.underlying4 _) (trodAll_cons_mk (shut_bool Try.underlying4 _) (trodAll_cons_mk (shut_int Try.underlying45 w3) (trodAll_cons_mk (shut_int Try.underlying5 w4) trodAll_mk0))))), rfl, bel.frame _, fun h => by cases h⟩

theorem over : Rows.tableEntriesRow.holds Try.pinned (OpenSpec.ofChange Rows.tableEntriesSpec) :=
  OpenClaim.holds_of_wide 4 Try.f4 rfl rfl rfl rfl rfl rfl rfl ⟨rfl, rfl, rfl, rfl, rfl⟩ rfl rfl rfl rfl rfl (by kernel_rfl) Try.func4 (by kernel_rfl)
    (of_decide_eq_true (by kernel_rfl)) (by unfold Func.isWrapper; first | (rw [if_pos (by decide +kernel)]; kernel_rfl) | (rw [if_neg (by decide +kernel)]; exact ⟨rfl, rfl⟩))
    (fun os started H enc _ => lifted os started H enc)

/-- THE STATEMENT -/
theorem proved : Rows.TableEntriesSaid := over
#print axioms proved
end Go.Proofs.Ytepcijkmecoofaa.tableEntries
