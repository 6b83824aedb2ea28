/-
  The walk of SeatWords.
-/
import Derived.Test.YtjhiapailgbmkaaYJ
namespace Go.Proofs.Ytjhiapailgbmkaa
open Go.ChangeShapes Go.WideShapes Go.ChangeAt Go.RowKit
set_option maxRecDepth 100000
set_option linter.unusedVariables false

theorem W64.w26 {w : World} {base n : Nat} {f : Nat → Nat} {v : Value} (h : W64 w base v f n) : ∃ a cap, v = .slice a n cap ∧ W26 w a n f := by
  obtain ⟨g, cap, rfl, h1, h2, h3, h4, h5, h6⟩ := h
  exact ⟨_, cap, rfl, g, 0, rfl, h2, fun j hj => by rw [Nat.zero_add]; exact h3 j hj⟩
theorem read_words (s : SV) : (readV (wordF s)).cells = s.cells := by
  have e : decide (oneN s.op = 1) = s.op := by cases s.op <;> rfl
  show #[.int .u64 (s.r 0 : Nat), .int .u64 (s.r 1 : Nat), .int .u64 (s.r 2 : Nat), .int .u64 (s.r 3 : Nat), .int .u64 (s.r 4 : Nat), .int .u64 (s.r 5 : Nat), .int .u64 (s.r 6 : Nat), .int .u64 (s.r 7 : Nat), .int .u64 (s.r 8 : Nat), .int .u64 (s.r 9 : Nat), .int .u64 (s.r 10 : Nat), .int .u64 (s.r 11 : Nat), .int .u64 (s.r 12 : Nat), .int .u64 (s.r 13 : Nat), .int .u64 (s.r 14 : Nat), .int .u64 (s.r 15 : Nat),
    .int .u64 (s.pc : Nat), .int .u64 (s.ba : Nat), .int .u64 (s.ve : Nat), .int .u64 (s.ep : Nat), .int .u64 (s.ca : Nat), .int .u64 (s.ad : Nat), Value.bool (decide (oneN s.op = 1)), .int .u8 (s.st : Nat), .int .u32 (s.pd : Nat), .int .u32 (s.ma : Nat)] = _
  rw [e]
  rfl
theorem mayB_words (s : SV) (hs : s.ok) : mayB (wordF s) = true := by
  have h0 : wordF s 22 = oneN s.op := rfl
  have h1 : wordF s 23 = s.st := rfl
  have h2 : wordF s 24 = s.pd := rfl
  have h3 : wordF s 25 = s.ma := rfl
  unfold mayB
  rw [h0, h1, h2, h3]
  have := hs.st
  have := hs.pd
  have := hs.ma
  have h4 : oneN s.op ≤ 1 := by unfold oneN; split <;> omega
  simp [h4]
  omega
theorem unpack_back {w : World} {a : Option Addr} (s : SV) (hs : s.ok) (cap : Nat) (h : W26 w a 26 (wordF s)) :
    Calls Try.prog 12 #[.slice a 26 cap] w fun e w' => e = .returned (.tuple #[s.agg, .bool true]) ∧ Below w.heap.size w w' := by
  have h1 := unpack_yes cap h (mayB_words s hs)
  have e : (readV (wordF s)).agg = s.agg := by unfold SV.agg; rw [read_words]
  rwa [e] at h1
/-- What stands in SeatWords' loop. -/
structure SW (w wr : World) (T : SV) (g h : Nat) : Prop where
  u : W26 wr (some ⟨g, 0, none⟩) 26 (wordF T)
  a : ∀ j, j < 26 → wr.cell? ⟨g, j, none⟩ = some (.int .u64 (wordF T j : Nat))
  b : ∀ j, j < 26 → wr.cell? ⟨h, j, none⟩ = some (.int .u64 (wordF T j : Nat))
  o : Ow w wr w.heap.size T
theorem SW.drawn {w wr : World} {T : SV} {g h : Nat} (k : SW w wr T g h) (n : Nat) : SW w (wr.drewN n) T g h := ⟨k.u, k.a, k.b, k.o.drawn n⟩
theorem run_eqSop {w : World} {s : SV} {a : Act} {o : Oper} (x y : Operand) (ho : o.op = .binOp .eql 26 x y 26) (hx : a.eval x = s.agg) (hy : a.eval y = s.agg) : (execOp a.eval o).run Try.prog w = .ok (.value (.bool true)) w := by
  simp [execOp, ho, hx, hy, run_eqS, guardS]
set_option maxHeartbeats 2000000 in
theorem seatWords_core (S : SV) (hok : (nearV S).ok) (w : World) : Calls Try.prog 3 #[S.agg] w fun e w' => e = .returned (.bool true) ∧ Below w.heap.size w w' := by
  have HZ := zeroS_run
  have HN := Lib.hid (near_in S)
  have HL := Lib.hid (ls_new w S)
  have HO := Lib.hid (ow_box w S)
  have HA := Lib.hid awake11_in
  generalize nearV S = T at *
  have HP := Lib.hid (pack_words T hok)
  have HW := Lib.hid (words_in T hok)
  have HU := Lib.hid (fun U a cap (h : W26 U a 26 (wordF T)) => unpack_back T hok cap h)
  have HS := Lib.hid (sum_in T hok)
  have HR := Lib.hid (refsum_in T hok)
  clear hok
  generalize sumS T = sm at *
  unfold SV.agg at *
  go_enter Try.func3, Try.ntmps3
  go_wp2_with (refine wpList_ldS rfl (.tmp 1) rfl w.heap.size rfl S HL.out ?_; unfold SV.agg)
  refine (HN.out _).mono ?_
  rintro e w1 ⟨rfl, b1⟩
  have O1 := Lib.hid ((HO.out).below b1)
  have O2 := Lib.hid ((O1.out).put T)
  have L1 := Lib.hid (O1.out).ls
  clear b1 HN HL HO O1
  go_wp2_with (first
    | (refine wpList_stS rfl (.tmp 1) (.tmp 9) rfl w.heap.size rfl S T rfl L1.out ?_)
    | (refine wpList_ldS rfl (.tmp 1) rfl w.heap.size rfl T (O2.out).ls ?_; unfold SV.agg))
  refine (HP.out _).mono ?_
  rintro e w2 ⟨v, rfl, k2, b2⟩
  have K2 := Lib.hid k2
  obtain ⟨g, cap, rfl, _⟩ := k2
  have O3 := Lib.hid ((O2.out).below b2)
  clear b2 O2 L1 HP
  go_wp2_with (first
    | (refine wpList_ldS rfl (.tmp 1) rfl w.heap.size rfl T (O3.out).ls ?_; unfold SV.agg))
  refine (HW.out _).mono ?_
  rintro e w3 ⟨v, rfl, k3, b3⟩
  obtain ⟨g3, cap3, rfl, _, _, hc3, _⟩ := k3
  have k2' := (K2.out).below b3
  have O4 := Lib.hid ((O3.out).below b3)
  obtain ⟨g2, cap2, he, h21, h22, hc2, h24⟩ := k2'
  injection he with he1 _ he2
  injection he1 with he1
  injection he1 with he1
  subst he1 he2
  have SWX : Hid (SW w w3 T g g3) := Lib.hid ⟨⟨g, 0, rfl, h22, fun j hj => by rw [Nat.zero_add]; exact hc2 j hj⟩, hc2, hc3, O4.out⟩
  clear h21 h22 hc2 h24 hc3 b3 K2 O3 HW O4
  go_wp2_with fail
  go_loopw [2, 5] (fun _ i wr => ∃ k : Nat, k ≤ 26 ∧ i = .int .i64 k ∧ SW w wr T g g3) (fun _ i _ => 26 - (intOf i).toNat)
  case atStart => exact ⟨0, by omega, rfl, SWX.out⟩
  case round =>
    obtain ⟨k, hk, rfl, hR⟩ := hrel
    have HQ := Lib.hid hR
    clear hR SWX
    by_cases hlt : k < 26
    · have kk : (k : Int) < 26 := by omega
      have c1 := (HQ.out).a k hlt
      have c2 := (HQ.out).b k hlt
      go_wp2_with fail
      go_quiet (fail)
      have HQ2 := Lib.hid ((HQ.out).drawn nq)
      clear HQ c1 c2
      go_wp2
      go_roundw
      case rel => exact ⟨k + 1, by omega, by go_num, HQ2.out⟩
      case measure => simp [intOf]; omega
    · have kk : ¬ (k : Int) < 26 := by omega
      clear hlt
      go_wp2_with fail
      refine (HU.out _ _ _ (HQ.out).u).mono ?_
      rintro e w4 ⟨rfl, b4⟩
      have O5 := Lib.hid ((HQ.out).o.below b4)
      have O6 : Hid (Ow2 w ((w4.alloc (.cells SV.zero.cells 26)).setRow w4.heap.size T.cells) w.heap.size w4.heap.size T T) := Lib.hid ((O5.out).twin T)
      clear b4 HU HQ
      go_wp2_with (refine wpList_stS rfl (.tmp 6) (.tmp 37) rfl w4.heap.size rfl SV.zero T rfl (ls_new w4 _) ?_)
      generalize w4.heap.size = C at *
      generalize (w4.alloc (.cells SV.zero.cells 26)).setRow C T.cells = V at *
      refine wp_region_later (by kernel_rfl) (by kernel_rfl) ?_
      have LA : Hid (∀ w', (∃ s, w' = later V s) → LS w' w.heap.size T) := Lib.hid (by rintro _ ⟨s, rfl⟩; exact (O6.out).a.ls.below (below_later V s))
      have LB : Hid (∀ w', (∃ s, w' = later V s) → LS w' C T) := Lib.hid (by rintro _ ⟨s, rfl⟩; exact (O6.out).b.ls.below (below_later V s))
      refine wpQuiet_ask rfl 13 #[] (fun w => by simp [go_sem]) (.bool true) (by rintro _ ⟨s, rfl⟩; exact later_left ((HA.out _).mono (fun e w' h => h))) ?_
      go_simp
      iterate 4 (refine wpQuiet_step (fun K hK => ?_); go_simp; refine hK _ ?_; clear hK K)
      refine wpQuiet_val rfl T.agg (fun w' h' => run_ldS (LB.out w' h') (.tmp 6) rfl rfl) ?_
      go_simp
      refine wpQuiet_val rfl T.agg (fun w' h' => run_ldS (LA.out w' h') (.tmp 1) rfl rfl) ?_
      go_simp
      refine wpQuiet_val rfl (.bool true) (fun w' _ => run_eqSop (s := T) (.tmp 44) (.tmp 45) rfl rfl rfl) ?_
      go_simp
      iterate 2 (refine wpQuiet_step (fun K hK => ?_); go_simp; refine hK _ ?_; clear hK K)
      refine wpQuiet_val rfl T.agg (fun w' h' => run_ldS (LA.out w' h') (.tmp 1) rfl rfl) ?_
      go_simp
      refine wpQuiet_ask rfl 14 #[T.agg] (fun w => by simp [go_sem]) (.int .u64 sm) (by rintro _ ⟨s, rfl⟩; exact later_left ((HS.out _).mono (fun e w' h => h))) ?_
      go_simp
      refine wpQuiet_val rfl T.agg (fun w' h' => run_ldS (LA.out w' h') (.tmp 1) rfl rfl) ?_
      go_simp
      refine wpQuiet_ask rfl 15 #[T.agg] (fun w => by simp [go_sem]) (.int .u64 sm) (by rintro _ ⟨s, rfl⟩; exact later_left ((HR.out _).mono (fun e w' h => h))) ?_
      go_simp
      iterate 3 (refine wpQuiet_step (fun K hK => ?_); go_simp; refine hK _ ?_; clear hK K)
      refine wpQuiet_nil ?_
      intro s3
      have O7 := Lib.hid ((O6.out).below (below_later V s3))
      go_wp2
      go_ret
      exact ⟨rfl, (O7.out).a.bel⟩
end Go.Proofs.Ytjhiapailgbmkaa
