/-
  The document's texts: Name, Num, Text.
-/
import Derived.Test.YtclieoeaknlfbaaDoorTS
import Derived.Laws.BytesArg
namespace Go.Proofs.YtclieoeaknlfbaaDoor
open Go.ChangeShapes Go.WideShapes Go.ChangeAt Go.RowKit
open WM CM
set_option maxRecDepth 100000
set_option linter.unusedVariables false
set_option linter.unusedSimpArgs false

def nameCells : Array Value := #[.string ⟨#[110, 111, 112]⟩, .string ⟨#[108, 105]⟩, .string ⟨#[108, 117]⟩, .string ⟨#[97, 100, 100]⟩, .string ⟨#[115, 117, 98]⟩, .string ⟨#[109, 117, 108]⟩, .string ⟨#[97, 110, 100]⟩, .string ⟨#[111, 114]⟩, .string ⟨#[120, 111, 114]⟩, .string ⟨#[115, 104, 108]⟩, .string ⟨#[115, 104, 114]⟩, .string ⟨#[97, 100, 100, 105]⟩, .string ⟨#[108, 100]⟩, .string ⟨#[115, 116]⟩, .string ⟨#[98, 101, 113]⟩, .string ⟨#[98, 110, 101]⟩, .string ⟨#[98, 108, 116]⟩, .string ⟨#[106, 97, 108]⟩, .string ⟨#[114, 100]⟩, .string ⟨#[119, 114]⟩, .string ⟨#[104, 118, 99]⟩, .string ⟨#[119, 102, 105]⟩, .string ⟨#[114, 101, 116]⟩]
theorem nameCells_at (c : Nat) (h : c < 23) : nameCells[c]? = some (.string (str (nameL c))) := by
  have hs : c = 0 ∨ c = 1 ∨ c = 2 ∨ c = 3 ∨ c = 4 ∨ c = 5 ∨ c = 6 ∨ c = 7 ∨ c = 8 ∨ c = 9 ∨ c = 10 ∨ c = 11 ∨ c = 12 ∨ c = 13 ∨ c = 14 ∨ c = 15 ∨ c = 16 ∨ c = 17 ∨ c = 18 ∨ c = 19 ∨ c = 20 ∨ c = 21 ∨ c = 22 := by omega
  rcases hs with rfl | rfl | rfl | rfl | rfl | rfl | rfl | rfl | rfl | rfl | rfl | rfl | rfl | rfl | rfl | rfl | rfl | rfl | rfl | rfl | rfl | rfl | rfl
  all_goals rfl
theorem refname_in (c : Nat) (w : World) (h : c < 23) :
    Calls Tryd.prog 12 #[.int .u8 c] w fun e w' => e = .returned (.string (str (nameL c))) ∧ Below w.heap.size w w' := by
  have ht := nameCells_at c h
  have h' : (c : Int) < 23 := by omega
  clear h
  go_enter Tryd.func12, Tryd.ntmps12
  go_wp2_with (refine wpList_buildSlice rfl 36 9 23 _ rfl nameCells _ _ Tryd.underlying36 rfl rfl (by decide) (by decide) (by kernel_rfl) ?_)
  go_ret
  exact ⟨rfl, below_new _ _⟩

theorem reg_app (r : Nat) : str [32, 114] ++ str (Lib.itoa r) = str (regL r) := str_app _ _
theorem num_app (n : Int) : str [32] ++ str (Lib.itoa n) = str (32 :: Lib.itoa n) := str_app _ _
theorem below_dr (w : World) : Below w.heap.size w w.drew := ⟨rfl, rfl, rfl, Nat.le_refl _, fun _ _ => rfl⟩
theorem below_ad (w : World) (o : Obj) : Below w.heap.size w (w.alloc o).drew := ⟨(below_new w o).os, (below_new w o).tape, (below_new w o).output, (below_new w o).size, (below_new w o).block⟩

/-! ### Num -/
/-- 'string([]byte{x})', wherever that byte lies. -/
theorem conv_one (W : World) (g x : Nat) (hx : x < 256) (hc : W.cell? ⟨g, 0, none⟩ = some (.int .u8 (x : Nat))) :
    (convert 23 9 (.slice (some ⟨g, 0, none⟩) 1 1)).run Tryd.prog W = .ok (.string (str [UInt8.ofNat x])) W := by
  have hs : Tryd.prog.underlying 23 = some (.slice 5) := by kernel_rfl
  have he : Tryd.prog.underlying 5 = some (.int .u8) := by kernel_rfl
  have hd : Tryd.prog.underlying 9 = some .string := by kernel_rfl
  exact run_convert_bytes_arg W _ _ hs he g 0 1 1 [(x : Int)] rfl (fun i hi => by
    obtain rfl : i = 0 := by omega
    simpa using hc) _ hd
theorem conv_new (W : World) (x : Nat) (hx : x < 256) :
    (convert 23 9 (.slice (some ⟨W.heap.size, 0, none⟩) 1 1)).run Tryd.prog (W.alloc (.cells #[.int .u8 (x : Nat)] 5)) = .ok (.string (str [UInt8.ofNat x])) (W.alloc (.cells #[.int .u8 (x : Nat)] 5)) :=
  conv_one _ _ x hx (by simp)
theorem num_small (n : Nat) (w : World) (h : n < 10) :
    Calls Tryd.prog 13 #[.int .i64 n] w fun e w' => e = .returned (.string (str (Lib.decDigits n))) ∧ Below w.heap.size w w' := by
  rw [Lib.decDigits_one h]
  have hcv := conv_new w (48 + n) (by omega)
  rw [show ((48 + n : Nat) : Int) = 48 + (n : Int) by omega] at hcv
  obtain ⟨Y, hY⟩ : ∃ Y, str [UInt8.ofNat (48 + n)] = Y := ⟨_, rfl⟩
  rw [hY] at hcv ⊢
  clear hY
  go_enter Tryd.func13, Tryd.ntmps13
  go_wp2
  go_ret
  exact ⟨rfl, below_new _ _⟩
theorem conv_kept {V W : World} {x : Nat} (hx : x < 256) (hb : Below (V.alloc (.cells #[.int .u8 (x : Nat)] 5)).heap.size (V.alloc (.cells #[.int .u8 (x : Nat)] 5)) W) :
    (convert 23 9 (.slice (some ⟨V.heap.size, 0, none⟩) 1 1)).run Tryd.prog W = .ok (.string (str [UInt8.ofNat x])) W :=
  conv_one _ _ x hx ((hb.cell (p := ⟨V.heap.size, 0, none⟩) (by simp)).trans (by simp))
theorem conv_newd (W : World) (x : Nat) (hx : x < 256) :
    (convert 23 9 (.slice (some ⟨W.heap.size, 0, none⟩) 1 1)).run Tryd.prog (W.alloc (.cells #[.int .u8 (x : Nat)] 5)).drew = .ok (.string (str [UInt8.ofNat x])) (W.alloc (.cells #[.int .u8 (x : Nat)] 5)).drew :=
  conv_one _ _ x hx (show (W.alloc (.cells #[.int .u8 (x : Nat)] 5)).cell? ⟨W.heap.size, 0, none⟩ = _ by simp)
theorem conv_keptd {V W : World} {x : Nat} (hx : x < 256) (hb : Below (V.alloc (.cells #[.int .u8 (x : Nat)] 5)).drew.heap.size (V.alloc (.cells #[.int .u8 (x : Nat)] 5)).drew W) :
    (convert 23 9 (.slice (some ⟨V.heap.size, 0, none⟩) 1 1)).run Tryd.prog W = .ok (.string (str [UInt8.ofNat x])) W :=
  conv_kept hx (V := V) ⟨hb.os, hb.tape, hb.output, hb.size, hb.block⟩
set_option maxHeartbeats 1000000 in
theorem num_step (n : Nat) (w : World) (h : ¬ n < 10) (hn : n < 100000)
    (ih : ∀ W : World, Calls Tryd.prog 13 #[.int .i64 (n / 10 : Nat)] W fun e w' => e = .returned (.string (str (Lib.decDigits (n / 10)))) ∧ Below W.heap.size W w') :
    Calls Tryd.prog 13 #[.int .i64 n] w fun e w' => e = .returned (.string (str (Lib.decDigits n))) ∧ Below w.heap.size w w' := by
  rw [Lib.decDigits, dif_neg h, ← str_app]
  have h' : ¬ (n : Int) < 10 := by omega
  obtain ⟨m, hm⟩ : ∃ m, n / 10 = m := ⟨_, rfl⟩
  obtain ⟨x, hx⟩ : ∃ x, 48 + n % 10 = x := ⟨_, rfl⟩
  have hx256 : x < 256 := by omega
  have hm5 : m < 100000 := by omega
  have k1 : IntKind.i64.wrap ((n : Int) / 10) = (m : Int) := by rw [IntWalk.i64_in _ (by omega)]; omega
  have k2 : IntKind.u8.wrap (IntKind.i64.wrap (48 + (n : Int).tmod 10)) = (x : Int) := by
    rw [show (n : Int).tmod 10 = ((n % 10 : Nat) : Int) by rw [Int.tmod_eq_emod_of_nonneg (by omega)]; omega, IntWalk.i64_in _ (by omega), IntWalk.u8_in _ (by omega)]; omega
  rw [hm] at ih ⊢
  rw [hx]
  clear hm hx h
  have hz : (str (Lib.decDigits m)).size ≤ 5 := by rw [str_size, Lib.decDigits_length]; exact nd5 _ hm5
  have hz1 : (str [UInt8.ofNat x]).size = 1 := by rw [str_size]; rfl
  obtain ⟨X, hX⟩ : ∃ X, str (Lib.decDigits m) = X := ⟨_, rfl⟩
  obtain ⟨Y, hY⟩ : ∃ Y, str [UInt8.ofNat x] = Y := ⟨_, rfl⟩
  have hcv := fun V : World => conv_new V x hx256
  have hcd := fun V : World => conv_newd V x hx256
  have hck := fun (V W : World) hb => conv_kept (V := V) (W := W) (x := x) hx256 hb
  have hce := fun (V W : World) hb => conv_keptd (V := V) (W := W) (x := x) hx256 hb
  rw [hX] at ih hz ⊢
  simp only [hY] at hcv hcd hck hce hz1 ⊢
  have HI := Lib.hid ih
  have HCK := Lib.hid hck
  have HCE := Lib.hid hce
  clear ih hck hce hX hY
  go_enter Tryd.func13, Tryd.ntmps13
  go_wp2_with fail
  go_region_with (go_at_call 13; refine (HI.out _).mono ?_; rintro e w5 ⟨rfl, b5⟩; (first | (have hk := HCK.out _ _ b5) | (have hk := HCE.out _ _ b5) | skip); have B5 := Lib.hid b5; clear b5)
  all_goals go_wp2
  all_goals go_ret
  · exact ⟨rfl, below_more (below_up (below_dr w) B5.out) _⟩
  · exact ⟨rfl, below_up (below_ad w _) B5.out⟩
  · exact ⟨rfl, below_up (below_ad w _) B5.out⟩
theorem num_nat (n : Nat) (hn : n < 100000) : ∀ w : World,
    Calls Tryd.prog 13 #[.int .i64 n] w fun e w' => e = .returned (.string (str (Lib.decDigits n))) ∧ Below w.heap.size w w' := by
  induction n using Nat.strongRecOn with
  | ind n ih =>
    intro w
    by_cases h : n < 10
    · exact num_small n w h
    · exact num_step n w h hn (fun W => ih (n / 10) (by omega) (by omega) W)
theorem num_in (n : Int) (w : World) (h0 : -100000 < n) (h1 : n < 100000) :
    Calls Tryd.prog 13 #[.int .i64 n] w fun e w' => e = .returned (.string (str (Lib.itoa n))) ∧ Below w.heap.size w w' := by
  by_cases h : n < 0
  · obtain ⟨m, hm⟩ : ∃ m : Nat, -n = m := ⟨n.natAbs, by omega⟩
    have e : Lib.itoa n = [45] ++ Lib.decDigits m := by
      unfold Lib.itoa; rw [if_pos h, show n.natAbs = m by omega]; rfl
    rw [e, ← str_app]
    have hz : (str (Lib.decDigits m)).size ≤ 5 := by rw [str_size, Lib.decDigits_length]; exact nd5 _ (by omega)
    have HN := Lib.hid (num_nat m (by omega))
    obtain ⟨X, hX⟩ : ∃ X, str (Lib.decDigits m) = X := ⟨_, rfl⟩
    rw [hX] at HN hz ⊢
    clear e hX
    go_enter Tryd.func13, Tryd.ntmps13
    go_wp2_with fail
    refine (HN.out _).mono ?_
    rintro e w1 ⟨rfl, b1⟩
    go_wp2
    go_ret
    exact ⟨rfl, b1⟩
  · obtain ⟨m, rfl⟩ := Int.eq_ofNat_of_zero_le (show 0 ≤ n by omega)
    have e : Lib.itoa (m : Int) = Lib.decDigits m := by unfold Lib.itoa; rw [if_neg (by omega)]; rfl
    rw [e]
    exact num_nat m (by omega) w

/-! ### Text -/
set_option maxHeartbeats 1000000 in
theorem reftext_0 (c a b d : Nat) (n : Int) (w : World) (hc : c < 23) (ha : a < 16) (hb : b < 16) (hd : d < 16) (hn : -32768 ≤ n ∧ n ≤ 32767) (hf : fldN c = 0) (hA : hasA c = false) (hB : hasB c = false) (hC : hasC c = false) (hN : hasN c = false) :
    Calls Tryd.prog 6 #[.int .u8 c, .int .u8 a, .int .u8 b, .int .u8 d, .int .i16 n] w fun e w' => e = .returned (.string (str (showL c a b d n))) ∧ Below w.heap.size w w' := by
  have hF := fun W => reffields_in c W hc
  rw [hf] at hF
  have HF := Lib.hid hF
  have HM := Lib.hid (fun W => refname_in c W hc)
  have e : showL c a b d n = nameL c := by unfold showL; rw [hA, hB, hC, hN]; simp
  have HE := Lib.hid e
  have z1 := name_size c hc
  have ya := itoa_size a (by omega) (by omega)
  have yb := itoa_size b (by omega) (by omega)
  have yd := itoa_size d (by omega) (by omega)
  have yn := itoa_size n (by omega) (by omega)
  clear hF hf hA hB hC hN e
  go_enter Tryd.func6, Tryd.ntmps6
  go_wp2_with fail
  refine (HM.out _).mono ?_
  rintro e w1 ⟨rfl, b1⟩
  go_wp2_with fail
  refine (HF.out _).mono ?_
  rintro e w2 ⟨rfl, b2⟩
  have b5 := below_up b1 b2
  clear b1 b2
  go_wp2
  go_ret
  refine ⟨?_, b5⟩
  rw [HE.out]
  simp only [← str_app, ← reg_app, ← num_app]
  rfl
set_option maxHeartbeats 1000000 in
theorem reftext_9 (c a b d : Nat) (n : Int) (w : World) (hc : c < 23) (ha : a < 16) (hb : b < 16) (hd : d < 16) (hn : -32768 ≤ n ∧ n ≤ 32767) (hf : fldN c = 9) (hA : hasA c = true) (hB : hasB c = false) (hC : hasC c = false) (hN : hasN c = true) :
    Calls Tryd.prog 6 #[.int .u8 c, .int .u8 a, .int .u8 b, .int .u8 d, .int .i16 n] w fun e w' => e = .returned (.string (str (showL c a b d n))) ∧ Below w.heap.size w w' := by
  have hF := fun W => reffields_in c W hc
  rw [hf] at hF
  have HF := Lib.hid hF
  have HM := Lib.hid (fun W => refname_in c W hc)
  have e : showL c a b d n = nameL c ++ regL a ++ (32 :: Lib.itoa n) := by unfold showL; rw [hA, hB, hC, hN]; simp
  have HE := Lib.hid e
  have z1 := name_size c hc
  have ya := itoa_size a (by omega) (by omega)
  have yb := itoa_size b (by omega) (by omega)
  have yd := itoa_size d (by omega) (by omega)
  have yn := itoa_size n (by omega) (by omega)
  clear hF hf hA hB hC hN e
  go_enter Tryd.func6, Tryd.ntmps6
  go_wp2_with fail
  refine (HM.out _).mono ?_
  rintro e w1 ⟨rfl, b1⟩
  go_wp2_with fail
  refine (HF.out _).mono ?_
  rintro e w2 ⟨rfl, b2⟩
  have b5 := below_up b1 b2
  clear b1 b2
  go_wp2_with fail
  refine (num_in a _ (by omega) (by omega)).mono ?_
  rintro e v0 ⟨rfl, c0⟩
  have B5 := below_up b5 c0
  clear b5 c0
  have b5 := B5
  clear B5
  go_wp2_with fail
  refine (num_in n _ (by omega) (by omega)).mono ?_
  rintro e v1 ⟨rfl, c1⟩
  have B5 := below_up b5 c1
  clear b5 c1
  have b5 := B5
  clear B5
  go_wp2
  go_ret
  refine ⟨?_, b5⟩
  rw [HE.out]
  simp only [← str_app, ← reg_app, ← num_app]
  rfl
set_option maxHeartbeats 1000000 in
theorem reftext_8 (c a b d : Nat) (n : Int) (w : World) (hc : c < 23) (ha : a < 16) (hb : b < 16) (hd : d < 16) (hn : -32768 ≤ n ∧ n ≤ 32767) (hf : fldN c = 8) (hA : hasA c = false) (hB : hasB c = false) (hC : hasC c = false) (hN : hasN c = true) :
    Calls Tryd.prog 6 #[.int .u8 c, .int .u8 a, .int .u8 b, .int .u8 d, .int .i16 n] w fun e w' => e = .returned (.string (str (showL c a b d n))) ∧ Below w.heap.size w w' := by
  have hF := fun W => reffields_in c W hc
  rw [hf] at hF
  have HF := Lib.hid hF
  have HM := Lib.hid (fun W => refname_in c W hc)
  have e : showL c a b d n = nameL c ++ (32 :: Lib.itoa n) := by unfold showL; rw [hA, hB, hC, hN]; simp
  have HE := Lib.hid e
  have z1 := name_size c hc
  have ya := itoa_size a (by omega) (by omega)
  have yb := itoa_size b (by omega) (by omega)
  have yd := itoa_size d (by omega) (by omega)
  have yn := itoa_size n (by omega) (by omega)
  clear hF hf hA hB hC hN e
  go_enter Tryd.func6, Tryd.ntmps6
  go_wp2_with fail
  refine (HM.out _).mono ?_
  rintro e w1 ⟨rfl, b1⟩
  go_wp2_with fail
  refine (HF.out _).mono ?_
  rintro e w2 ⟨rfl, b2⟩
  have b5 := below_up b1 b2
  clear b1 b2
  go_wp2_with fail
  refine (num_in n _ (by omega) (by omega)).mono ?_
  rintro e v0 ⟨rfl, c0⟩
  have B5 := below_up b5 c0
  clear b5 c0
  have b5 := B5
  clear B5
  go_wp2
  go_ret
  refine ⟨?_, b5⟩
  rw [HE.out]
  simp only [← str_app, ← reg_app, ← num_app]
  rfl
set_option maxHeartbeats 1000000 in
theorem reftext_11 (c a b d : Nat) (n : Int) (w : World) (hc : c < 23) (ha : a < 16) (hb : b < 16) (hd : d < 16) (hn : -32768 ≤ n ∧ n ≤ 32767) (hf : fldN c = 11) (hA : hasA c = true) (hB : hasB c = true) (hC : hasC c = false) (hN : hasN c = true) :
    Calls Tryd.prog 6 #[.int .u8 c, .int .u8 a, .int .u8 b, .int .u8 d, .int .i16 n] w fun e w' => e = .returned (.string (str (showL c a b d n))) ∧ Below w.heap.size w w' := by
  have hF := fun W => reffields_in c W hc
  rw [hf] at hF
  have HF := Lib.hid hF
  have HM := Lib.hid (fun W => refname_in c W hc)
  have e : showL c a b d n = nameL c ++ regL a ++ regL b ++ (32 :: Lib.itoa n) := by unfold showL; rw [hA, hB, hC, hN]; simp
  have HE := Lib.hid e
  have z1 := name_size c hc
  have ya := itoa_size a (by omega) (by omega)
  have yb := itoa_size b (by omega) (by omega)
  have yd := itoa_size d (by omega) (by omega)
  have yn := itoa_size n (by omega) (by omega)
  clear hF hf hA hB hC hN e
  go_enter Tryd.func6, Tryd.ntmps6
  go_wp2_with fail
  refine (HM.out _).mono ?_
  rintro e w1 ⟨rfl, b1⟩
  go_wp2_with fail
  refine (HF.out _).mono ?_
  rintro e w2 ⟨rfl, b2⟩
  have b5 := below_up b1 b2
  clear b1 b2
  go_wp2_with fail
  refine (num_in a _ (by omega) (by omega)).mono ?_
  rintro e v0 ⟨rfl, c0⟩
  have B5 := below_up b5 c0
  clear b5 c0
  have b5 := B5
  clear B5
  go_wp2_with fail
  refine (num_in b _ (by omega) (by omega)).mono ?_
  rintro e v1 ⟨rfl, c1⟩
  have B5 := below_up b5 c1
  clear b5 c1
  have b5 := B5
  clear B5
  go_wp2_with fail
  refine (num_in n _ (by omega) (by omega)).mono ?_
  rintro e v2 ⟨rfl, c2⟩
  have B5 := below_up b5 c2
  clear b5 c2
  have b5 := B5
  clear B5
  go_wp2
  go_ret
  refine ⟨?_, b5⟩
  rw [HE.out]
  simp only [← str_app, ← reg_app, ← num_app]
  rfl
set_option maxHeartbeats 1000000 in
theorem reftext_7 (c a b d : Nat) (n : Int) (w : World) (hc : c < 23) (ha : a < 16) (hb : b < 16) (hd : d < 16) (hn : -32768 ≤ n ∧ n ≤ 32767) (hf : fldN c = 7) (hA : hasA c = true) (hB : hasB c = true) (hC : hasC c = true) (hN : hasN c = false) :
    Calls Tryd.prog 6 #[.int .u8 c, .int .u8 a, .int .u8 b, .int .u8 d, .int .i16 n] w fun e w' => e = .returned (.string (str (showL c a b d n))) ∧ Below w.heap.size w w' := by
  have hF := fun W => reffields_in c W hc
  rw [hf] at hF
  have HF := Lib.hid hF
  have HM := Lib.hid (fun W => refname_in c W hc)
  have e : showL c a b d n = nameL c ++ regL a ++ regL b ++ regL d := by unfold showL; rw [hA, hB, hC, hN]; simp
  have HE := Lib.hid e
  have z1 := name_size c hc
  have ya := itoa_size a (by omega) (by omega)
  have yb := itoa_size b (by omega) (by omega)
  have yd := itoa_size d (by omega) (by omega)
  have yn := itoa_size n (by omega) (by omega)
  clear hF hf hA hB hC hN e
  go_enter Tryd.func6, Tryd.ntmps6
  go_wp2_with fail
  refine (HM.out _).mono ?_
  rintro e w1 ⟨rfl, b1⟩
  go_wp2_with fail
  refine (HF.out _).mono ?_
  rintro e w2 ⟨rfl, b2⟩
  have b5 := below_up b1 b2
  clear b1 b2
  go_wp2_with fail
  refine (num_in a _ (by omega) (by omega)).mono ?_
  rintro e v0 ⟨rfl, c0⟩
  have B5 := below_up b5 c0
  clear b5 c0
  have b5 := B5
  clear B5
  go_wp2_with fail
  refine (num_in b _ (by omega) (by omega)).mono ?_
  rintro e v1 ⟨rfl, c1⟩
  have B5 := below_up b5 c1
  clear b5 c1
  have b5 := B5
  clear B5
  go_wp2_with fail
  refine (num_in d _ (by omega) (by omega)).mono ?_
  rintro e v2 ⟨rfl, c2⟩
  have B5 := below_up b5 c2
  clear b5 c2
  have b5 := B5
  clear B5
  go_wp2
  go_ret
  refine ⟨?_, b5⟩
  rw [HE.out]
  simp only [← str_app, ← reg_app, ← num_app]
  rfl
theorem reftext_in (c a b d : Nat) (n : Int) (w : World) (hn : -32768 ≤ n ∧ n ≤ 32767) (hr : rightB c a b d n = true) :
    Calls Tryd.prog 6 #[.int .u8 c, .int .u8 a, .int .u8 b, .int .u8 d, .int .i16 n] w fun e w' => e = .returned (.string (str (showL c a b d n))) ∧ Below w.heap.size w w' := by
  obtain ⟨hc, ha, hb, hd⟩ := right_lt hr
  rcases kinds c hc with ⟨k0, k1, k2, k3, k4, _⟩ | ⟨k0, k1, k2, k3, k4⟩ | ⟨k0, k1, k2, k3, k4, _⟩ | ⟨k0, k1, k2, k3, k4, _⟩ | ⟨k0, k1, k2, k3, k4, _⟩
  · exact reftext_0 c a b d n w hc ha hb hd hn k0 k1 k2 k3 k4
  · exact reftext_9 c a b d n w hc ha hb hd hn k0 k1 k2 k3 k4
  · exact reftext_8 c a b d n w hc ha hb hd hn k0 k1 k2 k3 k4
  · exact reftext_11 c a b d n w hc ha hb hd hn k0 k1 k2 k3 k4
  · exact reftext_7 c a b d n w hc ha hb hd hn k0 k1 k2 k3 k4
end Go.Proofs.YtclieoeaknlfbaaDoor
