/-
  The walks of SeatRegisters: one for each register, and one for the numbers that are none.
-/
import Derived.Test.YtjhiapailgbmkaaYK
namespace Go.Proofs.Ytjhiapailgbmkaa
open Go.ChangeShapes Go.WideShapes Go.ChangeAt Go.RowKit
set_option maxRecDepth 100000
set_option linter.unusedVariables false

def setK (s : SV) (k v : Nat) : SV := match k with
  | 5 => { s with ma := v % 256 }
  | 6 => { s with op := decide (v % 2 = 1) }
  | 7 => s
  | 8 => s
  | k => putW s k v
theorem set_yes {w : World} {B : Nat} {s : SV} (h : LS w B s) (k : Nat) (hk : k < 9) (v : Nat) (hv : v < 18446744073709551616) : Calls Try.prog 20 #[.pointer (some ⟨B, 0, none⟩), .int .i64 k, .int .u64 v] w fun e w' => e = .returned (.bool (decide (k < 7))) ∧ Sn w w' B (setK s k v) := by
  by_cases h5 : k < 5
  · have e : setK s k v = putW s k v := by
      rcases five k h5 with rfl | rfl | rfl | rfl | rfl <;> rfl
    rw [e, decide_eq_true (by omega : k < 7)]
    exact set_whole h k h5 v
  · have h : k = 5 ∨ k = 6 ∨ k = 7 ∨ k = 8 := by omega
    rcases h with rfl | rfl | rfl | rfl
    · exact set_mask h v hv
    · exact set_open h v hv
    · exact (set_none h 7 (by omega) v).mono fun e w' ⟨h1, h2⟩ => ⟨h1, by subst h2; exact Sn.self h⟩
    · exact (set_none h 8 (by omega) v).mono fun e w' ⟨h1, h2⟩ => ⟨h1, by subst h2; exact Sn.self h⟩
def outN (time : Nat) (me : Int) (k v : Nat) : Int := match k with
  | 5 => ((v % 256 : Nat) : Int)
  | 6 => ((v % 2 : Nat) : Int)
  | 7 => (time : Nat)
  | 8 => IntKind.u64.wrap me
  | _ => (v : Nat)
theorem get_set (s : SV) (k : Nat) (hk : k < 9) (v time : Nat) (me : Int) : getN (setK s k v) time me k = outN time me k v := by
  by_cases h5 : k < 5
  · rcases five k h5 with rfl | rfl | rfl | rfl | rfl <;> rfl
  · have h : k = 5 ∨ k = 6 ∨ k = 7 ∨ k = 8 := by omega
    rcases h with rfl | rfl | rfl | rfl
    · rfl
    · show ((oneN (decide (v % 2 = 1)) : Nat) : Int) = ((v % 2 : Nat) : Int)
      unfold oneN
      by_cases h : v % 2 = 1
      · rw [decide_eq_true h, h]; rfl
      · have : v % 2 = 0 := by omega
        rw [decide_eq_false h, this]; rfl
    · rfl
    · rfl
theorem set_ok (s : SV) (hs : s.ok) (k v : Nat) (hv : v < 18446744073709551616) : (setK s k v).ok := by
  obtain ⟨b0, b1, b2, b3, b4, b5, b6, b7, b8, b9⟩ := hs
  unfold setK
  split
  · exact ⟨b0, b1, b2, b3, b4, b5, b6, b7, b8, Nat.mod_lt _ (by omega)⟩
  · exact ⟨b0, b1, b2, b3, b4, b5, b6, b7, b8, b9⟩
  · exact ⟨b0, b1, b2, b3, b4, b5, b6, b7, b8, b9⟩
  · exact ⟨b0, b1, b2, b3, b4, b5, b6, b7, b8, b9⟩
  · unfold putW
    split
    · exact ⟨b0, b1, hv, b3, b4, b5, b6, b7, b8, b9⟩
    · exact ⟨b0, b1, b2, hv, b4, b5, b6, b7, b8, b9⟩
    · exact ⟨b0, b1, b2, b3, hv, b5, b6, b7, b8, b9⟩
    · exact ⟨b0, b1, b2, b3, b4, hv, b6, b7, b8, b9⟩
    · exact ⟨b0, b1, b2, b3, b4, b5, hv, b7, b8, b9⟩
set_option maxHeartbeats 2000000 in
theorem reg_none (S : SV) (n : Int) (hn : ¬ (0 ≤ n ∧ n < 9)) (time : Nat) (me : Int) (v : Nat) (w : World) : Calls Try.prog 6 #[S.agg, .int .i64 n, .int .u64 time, .int .i64 me, .int .u64 v] w fun e w' => e = .returned (.bool true) ∧ Below w.heap.size w w' := by
  have HZ := zeroS_run
  have HN := Lib.hid (near_in S)
  have HL := Lib.hid (ls_new w S)
  have HO := Lib.hid (ow_box w S)
  have HA := Lib.hid awake11_in
  generalize nearV S = T at *
  have HG := Lib.hid (get_none T n hn time me)
  have HS := Lib.hid (fun U B (h : LS U B T) => set_none h n (by omega) v)
  unfold SV.agg at *
  go_enter Try.func6, Try.ntmps6
  go_wp2_with (refine wpList_ldS rfl (.tmp 5) rfl w.heap.size rfl S HL.out ?_; unfold SV.agg)
  refine (HN.out _).mono ?_
  rintro e w1 ⟨rfl, b1⟩
  have O1 := Lib.hid ((HO.out).below b1)
  have O2 := Lib.hid ((O1.out).put T)
  have L1 := Lib.hid (O1.out).ls
  clear b1 HN HL HO O1
  have hsz : (w1.setRow w.heap.size T.cells).heap.size = w1.heap.size := by simp
  have HSZ := Lib.hid hsz
  have o4 := (O2.out).twin T
  rw [hsz] at o4
  have O4 := Lib.hid o4
  clear hsz o4
  go_wp2_with (first
    | (refine wpList_stS rfl (.tmp 5) (.tmp 20) rfl w.heap.size rfl S T rfl L1.out ?_)
    | (refine wpList_ldS rfl (.tmp 5) rfl w.heap.size rfl T (O2.out).ls ?_; unfold SV.agg)
    | (refine wpList_stS rfl (.tmp 11) (.tmp 21) rfl w1.heap.size rfl SV.zero T rfl (ls_zeroAt _ _ HSZ.out) ?_)
    | (refine wpList_ldS rfl (.tmp 5) rfl w.heap.size rfl T (O4.out).a.ls ?_; unfold SV.agg))
  refine (HG.out _).mono ?_
  rintro e w2 ⟨rfl, b2⟩
  have O5 := Lib.hid ((O4.out).below b2)
  clear b2 O4 O2 L1 HG
  generalize w1.heap.size = C at *
  have TAILK : Hid (n < 0 ∨ (¬ n < 0 ∧ n > 8)) := Lib.hid (by omega)
  clear hn
  rcases TAILK.out with h0 | ⟨h0, h8⟩
  all_goals
    go_wp2_with fail
    refine (HA.out _).mono ?_
    rintro e w3 ⟨rfl, b3⟩
    have O6 := Lib.hid ((O5.out).below b3)
    clear b3 O5
    go_wp2_with fail
    refine (HS.out _ _ (O6.out).a.ls).mono ?_
    rintro e w4 ⟨rfl, rfl⟩
    go_wp2_with (first
      | (refine wpList_ldS rfl (.tmp 5) rfl w.heap.size rfl T (O6.out).a.ls ?_)
      | (refine wpList_ldS rfl (.tmp 11) rfl C rfl T (O6.out).b.ls ?_)
      | (refine wpList_eqS rfl (.tmp 52) (.tmp 53) rfl T rfl rfl ?_))
    go_ret
    exact ⟨rfl, (O6.out).a.bel⟩
set_option maxHeartbeats 2000000 in
theorem reg_0 (S : SV) (hok : (nearV S).ok) (time : Nat) (me : Int) (v : Nat) (hv : v < 18446744073709551616) (w : World) : Calls Try.prog 6 #[S.agg, .int .i64 0, .int .u64 time, .int .i64 me, .int .u64 v] w fun e w' => e = .returned (.bool true) ∧ Below w.heap.size w w' := by
  have HZ := zeroS_run
  have HN := Lib.hid (near_in S)
  have HL := Lib.hid (ls_new w S)
  have HO := Lib.hid (ow_box w S)
  have HA := Lib.hid awake11_in
  generalize nearV S = T at *
  have HG : Hid (∀ W, Calls Try.prog 19 #[T.agg, .int .i64 0, .int .u64 time, .int .i64 me] W fun e w' => e = .returned (.tuple #[.int .u64 (((T.ba : Nat) : Int)), .bool true]) ∧ Below W.heap.size W w') := Lib.hid (get_yes T hok 0 (by omega) time me)
  have HS : Hid (∀ U B, LS U B T → Calls Try.prog 20 #[.pointer (some ⟨B, 0, none⟩), .int .i64 0, .int .u64 v] U fun e w' => e = .returned (.bool true) ∧ Sn U w' B (setK T 0 v)) := Lib.hid (fun U B h => set_yes h 0 (by omega) v hv)
  have HG2 : Hid (∀ W, Calls Try.prog 19 #[(setK T 0 v).agg, .int .i64 0, .int .u64 time, .int .i64 me] W fun e w' => e = .returned (.tuple #[.int .u64 (((v : Nat) : Int)), .bool true]) ∧ Below W.heap.size W w') := Lib.hid (get_yes (setK T 0 v) (set_ok T hok 0 v hv) 0 (by omega) time me |> fun h W => by have h := h W; rw [get_set T 0 (by omega)] at h; exact h)
  generalize setK T 0 v = X at *
  have u : IntKind.u64.wrap (T.ma : Int) = T.ma := by have := hok.ma; rw [IntKind.wrap_u64]; omega
  clear hok
  unfold SV.agg at *
  go_enter Try.func6, Try.ntmps6
  go_wp2_with (refine wpList_ldS rfl (.tmp 5) rfl w.heap.size rfl S HL.out ?_; unfold SV.agg)
  refine (HN.out _).mono ?_
  rintro e w1 ⟨rfl, b1⟩
  have O1 := Lib.hid ((HO.out).below b1)
  have O2 := Lib.hid ((O1.out).put T)
  have L1 := Lib.hid (O1.out).ls
  clear b1 HN HL HO O1
  have hsz : (w1.setRow w.heap.size T.cells).heap.size = w1.heap.size := by simp
  have HSZ := Lib.hid hsz
  have o4 := (O2.out).twin T
  rw [hsz] at o4
  have O4 := Lib.hid o4
  clear hsz o4
  go_wp2_with (first
    | (refine wpList_stS rfl (.tmp 5) (.tmp 20) rfl w.heap.size rfl S T rfl L1.out ?_)
    | (refine wpList_ldS rfl (.tmp 5) rfl w.heap.size rfl T (O2.out).ls ?_; unfold SV.agg)
    | (refine wpList_stS rfl (.tmp 11) (.tmp 21) rfl w1.heap.size rfl SV.zero T rfl (ls_zeroAt _ _ HSZ.out) ?_)
    | (refine wpList_ldS rfl (.tmp 5) rfl w.heap.size rfl T (O4.out).a.ls ?_; unfold SV.agg))
  refine (HG.out _).mono ?_
  rintro e w2 ⟨rfl, b2⟩
  have O5 := Lib.hid ((O4.out).below b2)
  clear b2 O4 O2 L1 HG
  generalize w1.heap.size = C at *
  have a1 := (O5.out).a.ls.ba'
  have a2 := (O5.out).a.ls.ve'
  have a3 := (O5.out).a.ls.ep'
  have a4 := (O5.out).a.ls.ca'
  have a5 := (O5.out).a.ls.ad'
  have a6 := (O5.out).a.ls.ma'
  have a7 := (O5.out).a.ls.op'
  have f5 := fun (o : Obj) => (O5.out).below (below_new w2 o)
  have F5 := Lib.hid f5
  clear f5
  cases ho : T.op
  all_goals
    rw [ho] at a7
    clear ho
    go_wp2_with fail
    refine (HS.out _ _ ((F5.out _).a.ls)).mono ?_
    rintro e w3 ⟨rfl, h3⟩
    have O6 := Lib.hid ((F5.out _).turnA h3)
    clear h3 O5 F5 HS a1 a2 a3 a4 a5 a6 a7
    go_wp2_with (first
      | (refine wpList_ldS rfl (.tmp 5) rfl w.heap.size rfl X (O6.out).a.ls ?_; unfold SV.agg)
      | (refine wpList_ldS rfl (.tmp 11) rfl C rfl T (O6.out).b.ls ?_)
      | (refine wpList_neS rfl (.tmp 99) (.tmp 100) rfl T rfl rfl ?_))
    refine ((HG2).out _).mono ?_
    rintro e w4 ⟨rfl, b4⟩
    have O7 := Lib.hid ((O6.out).below b4)
    clear b4 O6
    go_wp2_with fail
    refine (HA.out _).mono ?_
    rintro e w5 ⟨rfl, b5⟩
    have O8 := Lib.hid ((O7.out).below b5)
    clear b5 O7
    go_wp2
    go_ret
    exact ⟨rfl, (O8.out).a.bel⟩
set_option maxHeartbeats 2000000 in
theorem reg_1 (S : SV) (hok : (nearV S).ok) (time : Nat) (me : Int) (v : Nat) (hv : v < 18446744073709551616) (w : World) : Calls Try.prog 6 #[S.agg, .int .i64 1, .int .u64 time, .int .i64 me, .int .u64 v] w fun e w' => e = .returned (.bool true) ∧ Below w.heap.size w w' := by
  have HZ := zeroS_run
  have HN := Lib.hid (near_in S)
  have HL := Lib.hid (ls_new w S)
  have HO := Lib.hid (ow_box w S)
  have HA := Lib.hid awake11_in
  generalize nearV S = T at *
  have HG : Hid (∀ W, Calls Try.prog 19 #[T.agg, .int .i64 1, .int .u64 time, .int .i64 me] W fun e w' => e = .returned (.tuple #[.int .u64 (((T.ve : Nat) : Int)), .bool true]) ∧ Below W.heap.size W w') := Lib.hid (get_yes T hok 1 (by omega) time me)
  have HS : Hid (∀ U B, LS U B T → Calls Try.prog 20 #[.pointer (some ⟨B, 0, none⟩), .int .i64 1, .int .u64 v] U fun e w' => e = .returned (.bool true) ∧ Sn U w' B (setK T 1 v)) := Lib.hid (fun U B h => set_yes h 1 (by omega) v hv)
  have HG2 : Hid (∀ W, Calls Try.prog 19 #[(setK T 1 v).agg, .int .i64 1, .int .u64 time, .int .i64 me] W fun e w' => e = .returned (.tuple #[.int .u64 (((v : Nat) : Int)), .bool true]) ∧ Below W.heap.size W w') := Lib.hid (get_yes (setK T 1 v) (set_ok T hok 1 v hv) 1 (by omega) time me |> fun h W => by have h := h W; rw [get_set T 1 (by omega)] at h; exact h)
  generalize setK T 1 v = X at *
  have u : IntKind.u64.wrap (T.ma : Int) = T.ma := by have := hok.ma; rw [IntKind.wrap_u64]; omega
  clear hok
  unfold SV.agg at *
  go_enter Try.func6, Try.ntmps6
  go_wp2_with (refine wpList_ldS rfl (.tmp 5) rfl w.heap.size rfl S HL.out ?_; unfold SV.agg)
  refine (HN.out _).mono ?_
  rintro e w1 ⟨rfl, b1⟩
  have O1 := Lib.hid ((HO.out).below b1)
  have O2 := Lib.hid ((O1.out).put T)
  have L1 := Lib.hid (O1.out).ls
  clear b1 HN HL HO O1
  have hsz : (w1.setRow w.heap.size T.cells).heap.size = w1.heap.size := by simp
  have HSZ := Lib.hid hsz
  have o4 := (O2.out).twin T
  rw [hsz] at o4
  have O4 := Lib.hid o4
  clear hsz o4
  go_wp2_with (first
    | (refine wpList_stS rfl (.tmp 5) (.tmp 20) rfl w.heap.size rfl S T rfl L1.out ?_)
    | (refine wpList_ldS rfl (.tmp 5) rfl w.heap.size rfl T (O2.out).ls ?_; unfold SV.agg)
    | (refine wpList_stS rfl (.tmp 11) (.tmp 21) rfl w1.heap.size rfl SV.zero T rfl (ls_zeroAt _ _ HSZ.out) ?_)
    | (refine wpList_ldS rfl (.tmp 5) rfl w.heap.size rfl T (O4.out).a.ls ?_; unfold SV.agg))
  refine (HG.out _).mono ?_
  rintro e w2 ⟨rfl, b2⟩
  have O5 := Lib.hid ((O4.out).below b2)
  clear b2 O4 O2 L1 HG
  generalize w1.heap.size = C at *
  have a1 := (O5.out).a.ls.ba'
  have a2 := (O5.out).a.ls.ve'
  have a3 := (O5.out).a.ls.ep'
  have a4 := (O5.out).a.ls.ca'
  have a5 := (O5.out).a.ls.ad'
  have a6 := (O5.out).a.ls.ma'
  have a7 := (O5.out).a.ls.op'
  have f5 := fun (o : Obj) => (O5.out).below (below_new w2 o)
  have F5 := Lib.hid f5
  clear f5
  cases ho : T.op
  all_goals
    rw [ho] at a7
    clear ho
    go_wp2_with fail
    refine (HS.out _ _ ((F5.out _).a.ls)).mono ?_
    rintro e w3 ⟨rfl, h3⟩
    have O6 := Lib.hid ((F5.out _).turnA h3)
    clear h3 O5 F5 HS a1 a2 a3 a4 a5 a6 a7
    go_wp2_with (first
      | (refine wpList_ldS rfl (.tmp 5) rfl w.heap.size rfl X (O6.out).a.ls ?_; unfold SV.agg)
      | (refine wpList_ldS rfl (.tmp 11) rfl C rfl T (O6.out).b.ls ?_)
      | (refine wpList_neS rfl (.tmp 99) (.tmp 100) rfl T rfl rfl ?_))
    refine ((HG2).out _).mono ?_
    rintro e w4 ⟨rfl, b4⟩
    have O7 := Lib.hid ((O6.out).below b4)
    clear b4 O6
    go_wp2_with fail
    refine (HA.out _).mono ?_
    rintro e w5 ⟨rfl, b5⟩
    have O8 := Lib.hid ((O7.out).below b5)
    clear b5 O7
    go_wp2
    go_ret
    exact ⟨rfl, (O8.out).a.bel⟩
set_option maxHeartbeats 2000000 in
theorem reg_2 (S : SV) (hok : (nearV S).ok) (time : Nat) (me : Int) (v : Nat) (hv : v < 18446744073709551616) (w : World) : Calls Try.prog 6 #[S.agg, .int .i64 2, .int .u64 time, .int .i64 me, .int .u64 v] w fun e w' => e = .returned (.bool true) ∧ Below w.heap.size w w' := by
  have HZ := zeroS_run
  have HN := Lib.hid (near_in S)
  have HL := Lib.hid (ls_new w S)
  have HO := Lib.hid (ow_box w S)
  have HA := Lib.hid awake11_in
  generalize nearV S = T at *
  have HG : Hid (∀ W, Calls Try.prog 19 #[T.agg, .int .i64 2, .int .u64 time, .int .i64 me] W fun e w' => e = .returned (.tuple #[.int .u64 (((T.ep : Nat) : Int)), .bool true]) ∧ Below W.heap.size W w') := Lib.hid (get_yes T hok 2 (by omega) time me)
  have HS : Hid (∀ U B, LS U B T → Calls Try.prog 20 #[.pointer (some ⟨B, 0, none⟩), .int .i64 2, .int .u64 v] U fun e w' => e = .returned (.bool true) ∧ Sn U w' B (setK T 2 v)) := Lib.hid (fun U B h => set_yes h 2 (by omega) v hv)
  have HG2 : Hid (∀ W, Calls Try.prog 19 #[(setK T 2 v).agg, .int .i64 2, .int .u64 time, .int .i64 me] W fun e w' => e = .returned (.tuple #[.int .u64 (((v : Nat) : Int)), .bool true]) ∧ Below W.heap.size W w') := Lib.hid (get_yes (setK T 2 v) (set_ok T hok 2 v hv) 2 (by omega) time me |> fun h W => by have h := h W; rw [get_set T 2 (by omega)] at h; exact h)
  generalize setK T 2 v = X at *
  have u : IntKind.u64.wrap (T.ma : Int) = T.ma := by have := hok.ma; rw [IntKind.wrap_u64]; omega
  clear hok
  unfold SV.agg at *
  go_enter Try.func6, Try.ntmps6
  go_wp2_with (refine wpList_ldS rfl (.tmp 5) rfl w.heap.size rfl S HL.out ?_; unfold SV.agg)
  refine (HN.out _).mono ?_
  rintro e w1 ⟨rfl, b1⟩
  have O1 := Lib.hid ((HO.out).below b1)
  have O2 := Lib.hid ((O1.out).put T)
  have L1 := Lib.hid (O1.out).ls
  clear b1 HN HL HO O1
  have hsz : (w1.setRow w.heap.size T.cells).heap.size = w1.heap.size := by simp
  have HSZ := Lib.hid hsz
  have o4 := (O2.out).twin T
  rw [hsz] at o4
  have O4 := Lib.hid o4
  clear hsz o4
  go_wp2_with (first
    | (refine wpList_stS rfl (.tmp 5) (.tmp 20) rfl w.heap.size rfl S T rfl L1.out ?_)
    | (refine wpList_ldS rfl (.tmp 5) rfl w.heap.size rfl T (O2.out).ls ?_; unfold SV.agg)
    | (refine wpList_stS rfl (.tmp 11) (.tmp 21) rfl w1.heap.size rfl SV.zero T rfl (ls_zeroAt _ _ HSZ.out) ?_)
    | (refine wpList_ldS rfl (.tmp 5) rfl w.heap.size rfl T (O4.out).a.ls ?_; unfold SV.agg))
  refine (HG.out _).mono ?_
  rintro e w2 ⟨rfl, b2⟩
  have O5 := Lib.hid ((O4.out).below b2)
  clear b2 O4 O2 L1 HG
  generalize w1.heap.size = C at *
  have a1 := (O5.out).a.ls.ba'
  have a2 := (O5.out).a.ls.ve'
  have a3 := (O5.out).a.ls.ep'
  have a4 := (O5.out).a.ls.ca'
  have a5 := (O5.out).a.ls.ad'
  have a6 := (O5.out).a.ls.ma'
  have a7 := (O5.out).a.ls.op'
  have f5 := fun (o : Obj) => (O5.out).below (below_new w2 o)
  have F5 := Lib.hid f5
  clear f5
  cases ho : T.op
  all_goals
    rw [ho] at a7
    clear ho
    go_wp2_with fail
    refine (HS.out _ _ ((F5.out _).a.ls)).mono ?_
    rintro e w3 ⟨rfl, h3⟩
    have O6 := Lib.hid ((F5.out _).turnA h3)
    clear h3 O5 F5 HS a1 a2 a3 a4 a5 a6 a7
    go_wp2_with (first
      | (refine wpList_ldS rfl (.tmp 5) rfl w.heap.size rfl X (O6.out).a.ls ?_; unfold SV.agg)
      | (refine wpList_ldS rfl (.tmp 11) rfl C rfl T (O6.out).b.ls ?_)
      | (refine wpList_neS rfl (.tmp 99) (.tmp 100) rfl T rfl rfl ?_))
    refine ((HG2).out _).mono ?_
    rintro e w4 ⟨rfl, b4⟩
    have O7 := Lib.hid ((O6.out).below b4)
    clear b4 O6
    go_wp2_with fail
    refine (HA.out _).mono ?_
    rintro e w5 ⟨rfl, b5⟩
    have O8 := Lib.hid ((O7.out).below b5)
    clear b5 O7
    go_wp2
    go_ret
    exact ⟨rfl, (O8.out).a.bel⟩
set_option maxHeartbeats 2000000 in
theorem reg_3 (S : SV) (hok : (nearV S).ok) (time : Nat) (me : Int) (v : Nat) (hv : v < 18446744073709551616) (w : World) : Calls Try.prog 6 #[S.agg, .int .i64 3, .int .u64 time, .int .i64 me, .int .u64 v] w fun e w' => e = .returned (.bool true) ∧ Below w.heap.size w w' := by
  have HZ := zeroS_run
  have HN := Lib.hid (near_in S)
  have HL := Lib.hid (ls_new w S)
  have HO := Lib.hid (ow_box w S)
  have HA := Lib.hid awake11_in
  generalize nearV S = T at *
  have HG : Hid (∀ W, Calls Try.prog 19 #[T.agg, .int .i64 3, .int .u64 time, .int .i64 me] W fun e w' => e = .returned (.tuple #[.int .u64 (((T.ca : Nat) : Int)), .bool true]) ∧ Below W.heap.size W w') := Lib.hid (get_yes T hok 3 (by omega) time me)
  have HS : Hid (∀ U B, LS U B T → Calls Try.prog 20 #[.pointer (some ⟨B, 0, none⟩), .int .i64 3, .int .u64 v] U fun e w' => e = .returned (.bool true) ∧ Sn U w' B (setK T 3 v)) := Lib.hid (fun U B h => set_yes h 3 (by omega) v hv)
  have HG2 : Hid (∀ W, Calls Try.prog 19 #[(setK T 3 v).agg, .int .i64 3, .int .u64 time, .int .i64 me] W fun e w' => e = .returned (.tuple #[.int .u64 (((v : Nat) : Int)), .bool true]) ∧ Below W.heap.size W w') := Lib.hid (get_yes (setK T 3 v) (set_ok T hok 3 v hv) 3 (by omega) time me |> fun h W => by have h := h W; rw [get_set T 3 (by omega)] at h; exact h)
  generalize setK T 3 v = X at *
  have u : IntKind.u64.wrap (T.ma : Int) = T.ma := by have := hok.ma; rw [IntKind.wrap_u64]; omega
  clear hok
  unfold SV.agg at *
  go_enter Try.func6, Try.ntmps6
  go_wp2_with (refine wpList_ldS rfl (.tmp 5) rfl w.heap.size rfl S HL.out ?_; unfold SV.agg)
  refine (HN.out _).mono ?_
  rintro e w1 ⟨rfl, b1⟩
  have O1 := Lib.hid ((HO.out).below b1)
  have O2 := Lib.hid ((O1.out).put T)
  have L1 := Lib.hid (O1.out).ls
  clear b1 HN HL HO O1
  have hsz : (w1.setRow w.heap.size T.cells).heap.size = w1.heap.size := by simp
  have HSZ := Lib.hid hsz
  have o4 := (O2.out).twin T
  rw [hsz] at o4
  have O4 := Lib.hid o4
  clear hsz o4
  go_wp2_with (first
    | (refine wpList_stS rfl (.tmp 5) (.tmp 20) rfl w.heap.size rfl S T rfl L1.out ?_)
    | (refine wpList_ldS rfl (.tmp 5) rfl w.heap.size rfl T (O2.out).ls ?_; unfold SV.agg)
    | (refine wpList_stS rfl (.tmp 11) (.tmp 21) rfl w1.heap.size rfl SV.zero T rfl (ls_zeroAt _ _ HSZ.out) ?_)
    | (refine wpList_ldS rfl (.tmp 5) rfl w.heap.size rfl T (O4.out).a.ls ?_; unfold SV.agg))
  refine (HG.out _).mono ?_
  rintro e w2 ⟨rfl, b2⟩
  have O5 := Lib.hid ((O4.out).below b2)
  clear b2 O4 O2 L1 HG
  generalize w1.heap.size = C at *
  have a1 := (O5.out).a.ls.ba'
  have a2 := (O5.out).a.ls.ve'
  have a3 := (O5.out).a.ls.ep'
  have a4 := (O5.out).a.ls.ca'
  have a5 := (O5.out).a.ls.ad'
  have a6 := (O5.out).a.ls.ma'
  have a7 := (O5.out).a.ls.op'
  have f5 := fun (o : Obj) => (O5.out).below (below_new w2 o)
  have F5 := Lib.hid f5
  clear f5
  cases ho : T.op
  all_goals
    rw [ho] at a7
    clear ho
    go_wp2_with fail
    refine (HS.out _ _ ((F5.out _).a.ls)).mono ?_
    rintro e w3 ⟨rfl, h3⟩
    have O6 := Lib.hid ((F5.out _).turnA h3)
    clear h3 O5 F5 HS a1 a2 a3 a4 a5 a6 a7
    go_wp2_with (first
      | (refine wpList_ldS rfl (.tmp 5) rfl w.heap.size rfl X (O6.out).a.ls ?_; unfold SV.agg)
      | (refine wpList_ldS rfl (.tmp 11) rfl C rfl T (O6.out).b.ls ?_)
      | (refine wpList_neS rfl (.tmp 99) (.tmp 100) rfl T rfl rfl ?_))
    refine ((HG2).out _).mono ?_
    rintro e w4 ⟨rfl, b4⟩
    have O7 := Lib.hid ((O6.out).below b4)
    clear b4 O6
    go_wp2_with fail
    refine (HA.out _).mono ?_
    rintro e w5 ⟨rfl, b5⟩
    have O8 := Lib.hid ((O7.out).below b5)
    clear b5 O7
    go_wp2
    go_ret
    exact ⟨rfl, (O8.out).a.bel⟩
set_option maxHeartbeats 2000000 in
theorem reg_4 (S : SV) (hok : (nearV S).ok) (time : Nat) (me : Int) (v : Nat) (hv : v < 18446744073709551616) (w : World) : Calls Try.prog 6 #[S.agg, .int .i64 4, .int .u64 time, .int .i64 me, .int .u64 v] w fun e w' => e = .returned (.bool true) ∧ Below w.heap.size w w' := by
  have HZ := zeroS_run
  have HN := Lib.hid (near_in S)
  have HL := Lib.hid (ls_new w S)
  have HO := Lib.hid (ow_box w S)
  have HA := Lib.hid awake11_in
  generalize nearV S = T at *
  have HG : Hid (∀ W, Calls Try.prog 19 #[T.agg, .int .i64 4, .int .u64 time, .int .i64 me] W fun e w' => e = .returned (.tuple #[.int .u64 (((T.ad : Nat) : Int)), .bool true]) ∧ Below W.heap.size W w') := Lib.hid (get_yes T hok 4 (by omega) time me)
  have HS : Hid (∀ U B, LS U B T → Calls Try.prog 20 #[.pointer (some ⟨B, 0, none⟩), .int .i64 4, .int .u64 v] U fun e w' => e = .returned (.bool true) ∧ Sn U w' B (setK T 4 v)) := Lib.hid (fun U B h => set_yes h 4 (by omega) v hv)
  have HG2 : Hid (∀ W, Calls Try.prog 19 #[(setK T 4 v).agg, .int .i64 4, .int .u64 time, .int .i64 me] W fun e w' => e = .returned (.tuple #[.int .u64 (((v : Nat) : Int)), .bool true]) ∧ Below W.heap.size W w') := Lib.hid (get_yes (setK T 4 v) (set_ok T hok 4 v hv) 4 (by omega) time me |> fun h W => by have h := h W; rw [get_set T 4 (by omega)] at h; exact h)
  generalize setK T 4 v = X at *
  have u : IntKind.u64.wrap (T.ma : Int) = T.ma := by have := hok.ma; rw [IntKind.wrap_u64]; omega
  clear hok
  unfold SV.agg at *
  go_enter Try.func6, Try.ntmps6
  go_wp2_with (refine wpList_ldS rfl (.tmp 5) rfl w.heap.size rfl S HL.out ?_; unfold SV.agg)
  refine (HN.out _).mono ?_
  rintro e w1 ⟨rfl, b1⟩
  have O1 := Lib.hid ((HO.out).below b1)
  have O2 := Lib.hid ((O1.out).put T)
  have L1 := Lib.hid (O1.out).ls
  clear b1 HN HL HO O1
  have hsz : (w1.setRow w.heap.size T.cells).heap.size = w1.heap.size := by simp
  have HSZ := Lib.hid hsz
  have o4 := (O2.out).twin T
  rw [hsz] at o4
  have O4 := Lib.hid o4
  clear hsz o4
  go_wp2_with (first
    | (refine wpList_stS rfl (.tmp 5) (.tmp 20) rfl w.heap.size rfl S T rfl L1.out ?_)
    | (refine wpList_ldS rfl (.tmp 5) rfl w.heap.size rfl T (O2.out).ls ?_; unfold SV.agg)
    | (refine wpList_stS rfl (.tmp 11) (.tmp 21) rfl w1.heap.size rfl SV.zero T rfl (ls_zeroAt _ _ HSZ.out) ?_)
    | (refine wpList_ldS rfl (.tmp 5) rfl w.heap.size rfl T (O4.out).a.ls ?_; unfold SV.agg))
  refine (HG.out _).mono ?_
  rintro e w2 ⟨rfl, b2⟩
  have O5 := Lib.hid ((O4.out).below b2)
  clear b2 O4 O2 L1 HG
  generalize w1.heap.size = C at *
  have a1 := (O5.out).a.ls.ba'
  have a2 := (O5.out).a.ls.ve'
  have a3 := (O5.out).a.ls.ep'
  have a4 := (O5.out).a.ls.ca'
  have a5 := (O5.out).a.ls.ad'
  have a6 := (O5.out).a.ls.ma'
  have a7 := (O5.out).a.ls.op'
  have f5 := fun (o : Obj) => (O5.out).below (below_new w2 o)
  have F5 := Lib.hid f5
  clear f5
  cases ho : T.op
  all_goals
    rw [ho] at a7
    clear ho
    go_wp2_with fail
    refine (HS.out _ _ ((F5.out _).a.ls)).mono ?_
    rintro e w3 ⟨rfl, h3⟩
    have O6 := Lib.hid ((F5.out _).turnA h3)
    clear h3 O5 F5 HS a1 a2 a3 a4 a5 a6 a7
    go_wp2_with (first
      | (refine wpList_ldS rfl (.tmp 5) rfl w.heap.size rfl X (O6.out).a.ls ?_; unfold SV.agg)
      | (refine wpList_ldS rfl (.tmp 11) rfl C rfl T (O6.out).b.ls ?_)
      | (refine wpList_neS rfl (.tmp 99) (.tmp 100) rfl T rfl rfl ?_))
    refine ((HG2).out _).mono ?_
    rintro e w4 ⟨rfl, b4⟩
    have O7 := Lib.hid ((O6.out).below b4)
    clear b4 O6
    go_wp2_with fail
    refine (HA.out _).mono ?_
    rintro e w5 ⟨rfl, b5⟩
    have O8 := Lib.hid ((O7.out).below b5)
    clear b5 O7
    go_wp2
    go_ret
    exact ⟨rfl, (O8.out).a.bel⟩
set_option maxHeartbeats 2000000 in
theorem reg_5 (S : SV) (hok : (nearV S).ok) (time : Nat) (me : Int) (v : Nat) (hv : v < 18446744073709551616) (w : World) : Calls Try.prog 6 #[S.agg, .int .i64 5, .int .u64 time, .int .i64 me, .int .u64 v] w fun e w' => e = .returned (.bool true) ∧ Below w.heap.size w w' := by
  have HZ := zeroS_run
  have HN := Lib.hid (near_in S)
  have HL := Lib.hid (ls_new w S)
  have HO := Lib.hid (ow_box w S)
  have HA := Lib.hid awake11_in
  generalize nearV S = T at *
  have HG : Hid (∀ W, Calls Try.prog 19 #[T.agg, .int .i64 5, .int .u64 time, .int .i64 me] W fun e w' => e = .returned (.tuple #[.int .u64 (((T.ma : Nat) : Int)), .bool true]) ∧ Below W.heap.size W w') := Lib.hid (get_yes T hok 5 (by omega) time me)
  have HS : Hid (∀ U B, LS U B T → Calls Try.prog 20 #[.pointer (some ⟨B, 0, none⟩), .int .i64 5, .int .u64 v] U fun e w' => e = .returned (.bool true) ∧ Sn U w' B (setK T 5 v)) := Lib.hid (fun U B h => set_yes h 5 (by omega) v hv)
  have HG2 : Hid (∀ W, Calls Try.prog 19 #[(setK T 5 v).agg, .int .i64 5, .int .u64 time, .int .i64 me] W fun e w' => e = .returned (.tuple #[.int .u64 (((v % 256 : Nat) : Int)), .bool true]) ∧ Below W.heap.size W w') := Lib.hid (get_yes (setK T 5 v) (set_ok T hok 5 v hv) 5 (by omega) time me |> fun h W => by have h := h W; rw [get_set T 5 (by omega)] at h; exact h)
  generalize setK T 5 v = X at *
  have u : IntKind.u64.wrap (T.ma : Int) = T.ma := by have := hok.ma; rw [IntKind.wrap_u64]; omega
  obtain ⟨q, hq⟩ : ∃ q, v % 256 = q := ⟨_, rfl⟩
  have q5 : (v : Int) % 256 = (q : Int) := by omega
  rw [hq] at HG2
  clear hq
  clear hok
  unfold SV.agg at *
  go_enter Try.func6, Try.ntmps6
  go_wp2_with (refine wpList_ldS rfl (.tmp 5) rfl w.heap.size rfl S HL.out ?_; unfold SV.agg)
  refine (HN.out _).mono ?_
  rintro e w1 ⟨rfl, b1⟩
  have O1 := Lib.hid ((HO.out).below b1)
  have O2 := Lib.hid ((O1.out).put T)
  have L1 := Lib.hid (O1.out).ls
  clear b1 HN HL HO O1
  have hsz : (w1.setRow w.heap.size T.cells).heap.size = w1.heap.size := by simp
  have HSZ := Lib.hid hsz
  have o4 := (O2.out).twin T
  rw [hsz] at o4
  have O4 := Lib.hid o4
  clear hsz o4
  go_wp2_with (first
    | (refine wpList_stS rfl (.tmp 5) (.tmp 20) rfl w.heap.size rfl S T rfl L1.out ?_)
    | (refine wpList_ldS rfl (.tmp 5) rfl w.heap.size rfl T (O2.out).ls ?_; unfold SV.agg)
    | (refine wpList_stS rfl (.tmp 11) (.tmp 21) rfl w1.heap.size rfl SV.zero T rfl (ls_zeroAt _ _ HSZ.out) ?_)
    | (refine wpList_ldS rfl (.tmp 5) rfl w.heap.size rfl T (O4.out).a.ls ?_; unfold SV.agg))
  refine (HG.out _).mono ?_
  rintro e w2 ⟨rfl, b2⟩
  have O5 := Lib.hid ((O4.out).below b2)
  clear b2 O4 O2 L1 HG
  generalize w1.heap.size = C at *
  have a1 := (O5.out).a.ls.ba'
  have a2 := (O5.out).a.ls.ve'
  have a3 := (O5.out).a.ls.ep'
  have a4 := (O5.out).a.ls.ca'
  have a5 := (O5.out).a.ls.ad'
  have a6 := (O5.out).a.ls.ma'
  have a7 := (O5.out).a.ls.op'
  have f5 := fun (o : Obj) => (O5.out).below (below_new w2 o)
  have F5 := Lib.hid f5
  clear f5
  cases ho : T.op
  all_goals
    rw [ho] at a7
    clear ho
    go_wp2_with fail
    refine (HS.out _ _ ((F5.out _).a.ls)).mono ?_
    rintro e w3 ⟨rfl, h3⟩
    have O6 := Lib.hid ((F5.out _).turnA h3)
    clear h3 O5 F5 HS a1 a2 a3 a4 a5 a6 a7
    go_wp2_with (first
      | (refine wpList_ldS rfl (.tmp 5) rfl w.heap.size rfl X (O6.out).a.ls ?_; unfold SV.agg)
      | (refine wpList_ldS rfl (.tmp 11) rfl C rfl T (O6.out).b.ls ?_)
      | (refine wpList_neS rfl (.tmp 99) (.tmp 100) rfl T rfl rfl ?_))
    refine ((HG2).out _).mono ?_
    rintro e w4 ⟨rfl, b4⟩
    have O7 := Lib.hid ((O6.out).below b4)
    clear b4 O6
    go_wp2_with fail
    refine (HA.out _).mono ?_
    rintro e w5 ⟨rfl, b5⟩
    have O8 := Lib.hid ((O7.out).below b5)
    clear b5 O7
    go_wp2
    go_ret
    exact ⟨rfl, (O8.out).a.bel⟩
set_option maxHeartbeats 2000000 in
theorem reg_6 (S : SV) (hok : (nearV S).ok) (time : Nat) (me : Int) (v : Nat) (hv : v < 18446744073709551616) (w : World) : Calls Try.prog 6 #[S.agg, .int .i64 6, .int .u64 time, .int .i64 me, .int .u64 v] w fun e w' => e = .returned (.bool true) ∧ Below w.heap.size w w' := by
  have HZ := zeroS_run
  have HN := Lib.hid (near_in S)
  have HL := Lib.hid (ls_new w S)
  have HO := Lib.hid (ow_box w S)
  have HA := Lib.hid awake11_in
  generalize nearV S = T at *
  have HG : Hid (∀ W, Calls Try.prog 19 #[T.agg, .int .i64 6, .int .u64 time, .int .i64 me] W fun e w' => e = .returned (.tuple #[.int .u64 ((((oneN T.op : Nat) : Nat) : Int)), .bool true]) ∧ Below W.heap.size W w') := Lib.hid (get_yes T hok 6 (by omega) time me)
  have HS : Hid (∀ U B, LS U B T → Calls Try.prog 20 #[.pointer (some ⟨B, 0, none⟩), .int .i64 6, .int .u64 v] U fun e w' => e = .returned (.bool true) ∧ Sn U w' B (setK T 6 v)) := Lib.hid (fun U B h => set_yes h 6 (by omega) v hv)
  have HG2 : Hid (∀ W, Calls Try.prog 19 #[(setK T 6 v).agg, .int .i64 6, .int .u64 time, .int .i64 me] W fun e w' => e = .returned (.tuple #[.int .u64 (((v % 2 : Nat) : Int)), .bool true]) ∧ Below W.heap.size W w') := Lib.hid (get_yes (setK T 6 v) (set_ok T hok 6 v hv) 6 (by omega) time me |> fun h W => by have h := h W; rw [get_set T 6 (by omega)] at h; exact h)
  generalize setK T 6 v = X at *
  have u : IntKind.u64.wrap (T.ma : Int) = T.ma := by have := hok.ma; rw [IntKind.wrap_u64]; omega
  obtain ⟨q, hq⟩ : ∃ q, v % 2 = q := ⟨_, rfl⟩
  have q5 : (v : Int) % 2 = (q : Int) := by omega
  rw [hq] at HG2
  clear hq
  clear hok
  unfold SV.agg at *
  go_enter Try.func6, Try.ntmps6
  go_wp2_with (refine wpList_ldS rfl (.tmp 5) rfl w.heap.size rfl S HL.out ?_; unfold SV.agg)
  refine (HN.out _).mono ?_
  rintro e w1 ⟨rfl, b1⟩
  have O1 := Lib.hid ((HO.out).below b1)
  have O2 := Lib.hid ((O1.out).put T)
  have L1 := Lib.hid (O1.out).ls
  clear b1 HN HL HO O1
  have hsz : (w1.setRow w.heap.size T.cells).heap.size = w1.heap.size := by simp
  have HSZ := Lib.hid hsz
  have o4 := (O2.out).twin T
  rw [hsz] at o4
  have O4 := Lib.hid o4
  clear hsz o4
  go_wp2_with (first
    | (refine wpList_stS rfl (.tmp 5) (.tmp 20) rfl w.heap.size rfl S T rfl L1.out ?_)
    | (refine wpList_ldS rfl (.tmp 5) rfl w.heap.size rfl T (O2.out).ls ?_; unfold SV.agg)
    | (refine wpList_stS rfl (.tmp 11) (.tmp 21) rfl w1.heap.size rfl SV.zero T rfl (ls_zeroAt _ _ HSZ.out) ?_)
    | (refine wpList_ldS rfl (.tmp 5) rfl w.heap.size rfl T (O4.out).a.ls ?_; unfold SV.agg))
  refine (HG.out _).mono ?_
  rintro e w2 ⟨rfl, b2⟩
  have O5 := Lib.hid ((O4.out).below b2)
  clear b2 O4 O2 L1 HG
  generalize w1.heap.size = C at *
  have a1 := (O5.out).a.ls.ba'
  have a2 := (O5.out).a.ls.ve'
  have a3 := (O5.out).a.ls.ep'
  have a4 := (O5.out).a.ls.ca'
  have a5 := (O5.out).a.ls.ad'
  have a6 := (O5.out).a.ls.ma'
  have a7 := (O5.out).a.ls.op'
  have f5 := fun (o : Obj) => (O5.out).below (below_new w2 o)
  have F5 := Lib.hid f5
  clear f5
  cases ho : T.op
  all_goals
    rw [ho] at a7
    simp only [oneN]
    clear ho
    go_wp2_with fail
    refine (HS.out _ _ ((F5.out _).a.ls)).mono ?_
    rintro e w3 ⟨rfl, h3⟩
    have O6 := Lib.hid ((F5.out _).turnA h3)
    clear h3 O5 F5 HS a1 a2 a3 a4 a5 a6 a7
    go_wp2_with (first
      | (refine wpList_ldS rfl (.tmp 5) rfl w.heap.size rfl X (O6.out).a.ls ?_; unfold SV.agg)
      | (refine wpList_ldS rfl (.tmp 11) rfl C rfl T (O6.out).b.ls ?_)
      | (refine wpList_neS rfl (.tmp 99) (.tmp 100) rfl T rfl rfl ?_))
    refine ((HG2).out _).mono ?_
    rintro e w4 ⟨rfl, b4⟩
    have O7 := Lib.hid ((O6.out).below b4)
    clear b4 O6
    go_wp2_with fail
    refine (HA.out _).mono ?_
    rintro e w5 ⟨rfl, b5⟩
    have O8 := Lib.hid ((O7.out).below b5)
    clear b5 O7
    go_wp2
    go_ret
    exact ⟨rfl, (O8.out).a.bel⟩
set_option maxHeartbeats 2000000 in
theorem reg_7 (S : SV) (hok : (nearV S).ok) (time : Nat) (me : Int) (v : Nat) (hv : v < 18446744073709551616) (w : World) : Calls Try.prog 6 #[S.agg, .int .i64 7, .int .u64 time, .int .i64 me, .int .u64 v] w fun e w' => e = .returned (.bool true) ∧ Below w.heap.size w w' := by
  have HZ := zeroS_run
  have HN := Lib.hid (near_in S)
  have HL := Lib.hid (ls_new w S)
  have HO := Lib.hid (ow_box w S)
  have HA := Lib.hid awake11_in
  generalize nearV S = T at *
  have HG : Hid (∀ W, Calls Try.prog 19 #[T.agg, .int .i64 7, .int .u64 time, .int .i64 me] W fun e w' => e = .returned (.tuple #[.int .u64 (((time : Nat) : Int)), .bool true]) ∧ Below W.heap.size W w') := Lib.hid (get_yes T hok 7 (by omega) time me)
  have HS : Hid (∀ U B, LS U B T → Calls Try.prog 20 #[.pointer (some ⟨B, 0, none⟩), .int .i64 7, .int .u64 v] U fun e w' => e = .returned (.bool false) ∧ Sn U w' B T) := Lib.hid (fun U B h => set_yes h 7 (by omega) v hv)
  have u : IntKind.u64.wrap (T.ma : Int) = T.ma := by have := hok.ma; rw [IntKind.wrap_u64]; omega
  clear hok
  unfold SV.agg at *
  go_enter Try.func6, Try.ntmps6
  go_wp2_with (refine wpList_ldS rfl (.tmp 5) rfl w.heap.size rfl S HL.out ?_; unfold SV.agg)
  refine (HN.out _).mono ?_
  rintro e w1 ⟨rfl, b1⟩
  have O1 := Lib.hid ((HO.out).below b1)
  have O2 := Lib.hid ((O1.out).put T)
  have L1 := Lib.hid (O1.out).ls
  clear b1 HN HL HO O1
  have hsz : (w1.setRow w.heap.size T.cells).heap.size = w1.heap.size := by simp
  have HSZ := Lib.hid hsz
  have o4 := (O2.out).twin T
  rw [hsz] at o4
  have O4 := Lib.hid o4
  clear hsz o4
  go_wp2_with (first
    | (refine wpList_stS rfl (.tmp 5) (.tmp 20) rfl w.heap.size rfl S T rfl L1.out ?_)
    | (refine wpList_ldS rfl (.tmp 5) rfl w.heap.size rfl T (O2.out).ls ?_; unfold SV.agg)
    | (refine wpList_stS rfl (.tmp 11) (.tmp 21) rfl w1.heap.size rfl SV.zero T rfl (ls_zeroAt _ _ HSZ.out) ?_)
    | (refine wpList_ldS rfl (.tmp 5) rfl w.heap.size rfl T (O4.out).a.ls ?_; unfold SV.agg))
  refine (HG.out _).mono ?_
  rintro e w2 ⟨rfl, b2⟩
  have O5 := Lib.hid ((O4.out).below b2)
  clear b2 O4 O2 L1 
  generalize w1.heap.size = C at *
  have a1 := (O5.out).a.ls.ba'
  have a2 := (O5.out).a.ls.ve'
  have a3 := (O5.out).a.ls.ep'
  have a4 := (O5.out).a.ls.ca'
  have a5 := (O5.out).a.ls.ad'
  have a6 := (O5.out).a.ls.ma'
  have a7 := (O5.out).a.ls.op'
  have f5 := fun (o : Obj) => (O5.out).below (below_new w2 o)
  have F5 := Lib.hid f5
  clear f5
  cases ho : T.op
  all_goals
    rw [ho] at a7
    clear ho
    go_wp2_with fail
    refine (HS.out _ _ ((F5.out _).a.ls)).mono ?_
    rintro e w3 ⟨rfl, h3⟩
    have O6 := Lib.hid ((F5.out _).turnA h3)
    clear h3 O5 F5 HS a1 a2 a3 a4 a5 a6 a7
    go_wp2_with (first
      | (refine wpList_ldS rfl (.tmp 5) rfl w.heap.size rfl T (O6.out).a.ls ?_; skip)
      | (refine wpList_ldS rfl (.tmp 11) rfl C rfl T (O6.out).b.ls ?_)
      | (refine wpList_neS rfl (.tmp 99) (.tmp 100) rfl T rfl rfl ?_))
    refine ((HG).out _).mono ?_
    rintro e w4 ⟨rfl, b4⟩
    have O7 := Lib.hid ((O6.out).below b4)
    clear b4 O6
    go_wp2_with fail
    refine (HA.out _).mono ?_
    rintro e w5 ⟨rfl, b5⟩
    have O8 := Lib.hid ((O7.out).below b5)
    clear b5 O7
    go_wp2
    go_ret
    exact ⟨rfl, (O8.out).a.bel⟩
set_option maxHeartbeats 2000000 in
theorem reg_8 (S : SV) (hok : (nearV S).ok) (time : Nat) (me : Int) (v : Nat) (hv : v < 18446744073709551616) (w : World) : Calls Try.prog 6 #[S.agg, .int .i64 8, .int .u64 time, .int .i64 me, .int .u64 v] w fun e w' => e = .returned (.bool true) ∧ Below w.heap.size w w' := by
  have HZ := zeroS_run
  have HN := Lib.hid (near_in S)
  have HL := Lib.hid (ls_new w S)
  have HO := Lib.hid (ow_box w S)
  have HA := Lib.hid awake11_in
  generalize nearV S = T at *
  have HG : Hid (∀ W, Calls Try.prog 19 #[T.agg, .int .i64 8, .int .u64 time, .int .i64 me] W fun e w' => e = .returned (.tuple #[.int .u64 (IntKind.u64.wrap me), .bool true]) ∧ Below W.heap.size W w') := Lib.hid (get_yes T hok 8 (by omega) time me)
  have HS : Hid (∀ U B, LS U B T → Calls Try.prog 20 #[.pointer (some ⟨B, 0, none⟩), .int .i64 8, .int .u64 v] U fun e w' => e = .returned (.bool false) ∧ Sn U w' B T) := Lib.hid (fun U B h => set_yes h 8 (by omega) v hv)
  have u : IntKind.u64.wrap (T.ma : Int) = T.ma := by have := hok.ma; rw [IntKind.wrap_u64]; omega
  clear hok
  unfold SV.agg at *
  go_enter Try.func6, Try.ntmps6
  go_wp2_with (refine wpList_ldS rfl (.tmp 5) rfl w.heap.size rfl S HL.out ?_; unfold SV.agg)
  refine (HN.out _).mono ?_
  rintro e w1 ⟨rfl, b1⟩
  have O1 := Lib.hid ((HO.out).below b1)
  have O2 := Lib.hid ((O1.out).put T)
  have L1 := Lib.hid (O1.out).ls
  clear b1 HN HL HO O1
  have hsz : (w1.setRow w.heap.size T.cells).heap.size = w1.heap.size := by simp
  have HSZ := Lib.hid hsz
  have o4 := (O2.out).twin T
  rw [hsz] at o4
  have O4 := Lib.hid o4
  clear hsz o4
  go_wp2_with (first
    | (refine wpList_stS rfl (.tmp 5) (.tmp 20) rfl w.heap.size rfl S T rfl L1.out ?_)
    | (refine wpList_ldS rfl (.tmp 5) rfl w.heap.size rfl T (O2.out).ls ?_; unfold SV.agg)
    | (refine wpList_stS rfl (.tmp 11) (.tmp 21) rfl w1.heap.size rfl SV.zero T rfl (ls_zeroAt _ _ HSZ.out) ?_)
    | (refine wpList_ldS rfl (.tmp 5) rfl w.heap.size rfl T (O4.out).a.ls ?_; unfold SV.agg))
  refine (HG.out _).mono ?_
  rintro e w2 ⟨rfl, b2⟩
  have O5 := Lib.hid ((O4.out).below b2)
  clear b2 O4 O2 L1 
  generalize w1.heap.size = C at *
  have a1 := (O5.out).a.ls.ba'
  have a2 := (O5.out).a.ls.ve'
  have a3 := (O5.out).a.ls.ep'
  have a4 := (O5.out).a.ls.ca'
  have a5 := (O5.out).a.ls.ad'
  have a6 := (O5.out).a.ls.ma'
  have a7 := (O5.out).a.ls.op'
  have f5 := fun (o : Obj) => (O5.out).below (below_new w2 o)
  have F5 := Lib.hid f5
  clear f5
  cases ho : T.op
  all_goals
    rw [ho] at a7
    clear ho
    go_wp2_with fail
    refine (HS.out _ _ ((F5.out _).a.ls)).mono ?_
    rintro e w3 ⟨rfl, h3⟩
    have O6 := Lib.hid ((F5.out _).turnA h3)
    clear h3 O5 F5 HS a1 a2 a3 a4 a5 a6 a7
    go_wp2_with (first
      | (refine wpList_ldS rfl (.tmp 5) rfl w.heap.size rfl T (O6.out).a.ls ?_; skip)
      | (refine wpList_ldS rfl (.tmp 11) rfl C rfl T (O6.out).b.ls ?_)
      | (refine wpList_neS rfl (.tmp 99) (.tmp 100) rfl T rfl rfl ?_))
    refine ((HG).out _).mono ?_
    rintro e w4 ⟨rfl, b4⟩
    have O7 := Lib.hid ((O6.out).below b4)
    clear b4 O6
    go_wp2_with fail
    refine (HA.out _).mono ?_
    rintro e w5 ⟨rfl, b5⟩
    have O8 := Lib.hid ((O7.out).below b5)
    clear b5 O7
    go_wp2
    go_ret
    exact ⟨rfl, (O8.out).a.bel⟩
theorem seatRegisters_core (S : SV) (hok : (nearV S).ok) (n : Int) (time : Nat) (me : Int) (v : Nat) (hv : v < 18446744073709551616) (w : World) : Calls Try.prog 6 #[S.agg, .int .i64 n, .int .u64 time, .int .i64 me, .int .u64 v] w fun e w' => e = .returned (.bool true) ∧ Below w.heap.size w w' := by
  by_cases hn : 0 ≤ n ∧ n < 9
  · have h : n = 0 ∨ n = 1 ∨ n = 2 ∨ n = 3 ∨ n = 4 ∨ n = 5 ∨ n = 6 ∨ n = 7 ∨ n = 8 := by omega
    rcases h with rfl | rfl | rfl | rfl | rfl | rfl | rfl | rfl | rfl
    · exact reg_0 S hok time me v hv w
    · exact reg_1 S hok time me v hv w
    · exact reg_2 S hok time me v hv w
    · exact reg_3 S hok time me v hv w
    · exact reg_4 S hok time me v hv w
    · exact reg_5 S hok time me v hv w
    · exact reg_6 S hok time me v hv w
    · exact reg_7 S hok time me v hv w
    · exact reg_8 S hok time me v hv w
  · exact reg_none S n hn time me v w
end Go.Proofs.Ytjhiapailgbmkaa
