/-
  Contracts of package text's Read, of the statements' own example, and of the way there and back.
-/
import Derived.Test.YtclieoeaknlfbaaDoorTG
namespace Go.Proofs.YtclieoeaknlfbaaDoor
open Go.ChangeShapes Go.WideShapes Go.ChangeAt Go.RowKit
open WM CM
set_option maxRecDepth 100000
set_option linter.unusedVariables false
set_option linter.unusedSimpArgs false

theorem wrap16_in (z : Int) : -32768 ≤ IntKind.i16.wrap z ∧ IntKind.i16.wrap z ≤ 32767 := by
  have h : IntKind.i16.wrap z = if z % 65536 ≥ 32768 then z % 65536 - 65536 else z % 65536 := by
    unfold IntKind.wrap
    simp [IntKind.signed, IntKind.bits]
  rw [h]; split <;> omega
theorem gN_in (l : List UInt8) : -32768 ≤ gN l ∧ gN l ≤ 32767 := by
  unfold gN; split
  · exact wrap16_in _
  · omega
/-- Is a line an instruction's? -/
def readB (l : List UInt8) : Bool := rightB (gC l) (gA l) (gB l) (gD l) (gN l) && (showL (gC l) (gA l) (gB l) (gD l) (gN l) == l)
theorem read_yes (l : List UInt8) (w : World) (hl : l.length ≤ 1000000) (hT : TW w) (h : readB l = true) :
    Calls Tryd.prog 10 #[.string (str l)] w fun e w' => e = .returned (.tuple #[opV (gC l) (gA l) (gB l) (gD l) (gN l), .int .i64 0]) ∧ Below w.heap.size w w' := by
  unfold readB at h
  simp only [Bool.and_eq_true, beq_iff_eq] at h
  obtain ⟨hr, he⟩ := h
  have HG := Lib.hid (fun W hW => guess_in l W hl hW)
  have hR := fun W => right_in (gC l) (gA l) (gB l) (gD l) (gN l) W
  rw [hr] at hR
  have HR := Lib.hid hR
  have hS := fun W hW => show_in (gC l) (gA l) (gB l) (gD l) (gN l) W (gN_in l) hr hW
  rw [he] at hS
  have HS := Lib.hid hS
  have HT := Lib.hid hT
  clear hr he hR hS hT hl
  unfold opV at HG HR HS ⊢
  generalize gC l = c at *
  generalize gA l = a at *
  generalize gB l = b at *
  generalize gD l = d at *
  generalize gN l = n at *
  generalize str l = y at *
  have LZ := lies_zero w 27
  have b0 := below_new w (.cells #[.int .u8 0, .int .u8 0, .int .u8 0, .int .u8 0, .int .i16 0] 27)
  go_enter Tryd.func10, Tryd.ntmps10
  go_wp2_with fail
  refine (HG.out _ ((HT.out).later b0)).mono ?_
  rintro e w1 ⟨rfl, b1⟩
  have LO := lies_new w1 c a b d n 27
  have b2 := below_new w1 (.cells #[.int .u8 c, .int .u8 a, .int .u8 b, .int .u8 d, .int .i16 n] 27)
  have LZ2 := (LZ.later b1).later b2
  have B2 := below_up (below_up b0 b1) b2
  go_wp2_with fail
  refine (HR.out _).mono ?_
  rintro e w3 ⟨rfl, b3⟩
  have LO3 := LO.later b3
  have LZ3 := LZ2.later b3
  have B3 := below_up B2 b3
  have LO' := Lib.hid LO3
  obtain ⟨k0, k1, k2, k3, k4, kl, kf⟩ := LO3
  clear LO LZ LZ2 b0 b1 b2 B2 b3
  go_wp2_with fail
  refine (HS.out _ ((HT.out).later B3)).mono ?_
  rintro e w4 ⟨rfl, b4⟩
  clear k0 k1 k2 k3 k4 kl kf
  obtain ⟨k0, k1, k2, k3, k4, kl, kf⟩ := (LO'.out).later b4
  obtain ⟨z0, z1, z2, z3, z4, zl, zf⟩ := LZ3.later b4
  have B4 := below_up B3 b4
  have ht : (y.toList != y.toList) = false := by simp
  clear b4 B3 LZ3 LO'
  go_wp2
  refine ret52 (hr := rfl) (hp := rfl) (by simp [z0]) (by simp [z1]) (by simp [z2]) (by simp [z3]) (by simp [z4]) ⟨rfl, ?_⟩
  repeat (first | with_reducible exact B4 | with_reducible refine Below.setCell ?_ (by simp) _)
theorem read_no (l : List UInt8) (w : World) (hl : l.length ≤ 1000000) (hT : TW w) (h : readB l = false) :
    Calls Tryd.prog 10 #[.string (str l)] w fun e w' => e = .returned (.tuple #[opV 0 0 0 0 0, .int .i64 4]) ∧ Below w.heap.size w w' := by
  have HG := Lib.hid (fun W hW => guess_in l W hl hW)
  have HT := Lib.hid hT
  have hgn := gN_in l
  have LZ := lies_zero w 27
  have b0 := below_new w (.cells #[.int .u8 0, .int .u8 0, .int .u8 0, .int .u8 0, .int .i16 0] 27)
  have hR := fun W => right_in (gC l) (gA l) (gB l) (gD l) (gN l) W
  cases hr : rightB (gC l) (gA l) (gB l) (gD l) (gN l)
  · rw [hr] at hR
    have HR := Lib.hid hR
    clear hr hR hT hl h hgn
    unfold opV at HG HR ⊢
    generalize gC l = c at *
    generalize gA l = a at *
    generalize gB l = b at *
    generalize gD l = d at *
    generalize gN l = n at *
    go_enter Tryd.func10, Tryd.ntmps10
    go_wp2_with fail
    refine (HG.out _ ((HT.out).later b0)).mono ?_
    rintro e w1 ⟨rfl, b1⟩
    have b2 := below_new w1 (.cells #[.int .u8 c, .int .u8 a, .int .u8 b, .int .u8 d, .int .i16 n] 27)
    have LZ2 := (LZ.later b1).later b2
    have B2 := below_up (below_up b0 b1) b2
    go_wp2_with fail
    refine (HR.out _).mono ?_
    rintro e w3 ⟨rfl, b3⟩
    obtain ⟨z0, z1, z2, z3, z4, zl, zf⟩ := LZ2.later b3
    have B4 := below_up B2 b3
    clear LZ LZ2 b0 b1 b2 B2 b3
    go_wp2
    refine ret52 (hr := rfl) (hp := rfl) (by simp [z0]) (by simp [z1]) (by simp [z2]) (by simp [z3]) (by simp [z4]) ⟨rfl, ?_⟩
    repeat (first | with_reducible exact B4 | with_reducible refine Below.setCell ?_ (by simp) _)
  · have hS := fun W hW => show_in (gC l) (gA l) (gB l) (gD l) (gN l) W hgn hr hW
    have hne : ((str (showL (gC l) (gA l) (gB l) (gD l) (gN l))).toList != (str l).toList) = true := by
      unfold readB at h
      rw [hr, Bool.true_and] at h
      rw [str_list, str_list]
      simpa [bne] using h
    have hn1 : ¬ (str (showL (gC l) (gA l) (gB l) (gD l) (gN l))).toList = (str l).toList := by simpa using hne
    have hn2 : ((str (showL (gC l) (gA l) (gB l) (gD l) (gN l))).toList == (str l).toList) = false := by simpa using hn1
    rw [hr] at hR
    have HR := Lib.hid hR
    have HS := Lib.hid hS
    clear hr hR hT hl h hgn hS
    generalize showL (gC l) (gA l) (gB l) (gD l) (gN l) = sl at *
    unfold opV at HG HR HS ⊢
    generalize gC l = c at *
    generalize gA l = a at *
    generalize gB l = b at *
    generalize gD l = d at *
    generalize gN l = n at *
    generalize str l = y at *
    generalize str sl = x at *
    go_enter Tryd.func10, Tryd.ntmps10
    go_wp2_with fail
    refine (HG.out _ ((HT.out).later b0)).mono ?_
    rintro e w1 ⟨rfl, b1⟩
    have LO := lies_new w1 c a b d n 27
    have b2 := below_new w1 (.cells #[.int .u8 c, .int .u8 a, .int .u8 b, .int .u8 d, .int .i16 n] 27)
    have LZ2 := (LZ.later b1).later b2
    have B2 := below_up (below_up b0 b1) b2
    go_wp2_with fail
    refine (HR.out _).mono ?_
    rintro e w3 ⟨rfl, b3⟩
    have LO3 := LO.later b3
    have LZ3 := LZ2.later b3
    have B3 := below_up B2 b3
    obtain ⟨k0, k1, k2, k3, k4, kl, kf⟩ := LO3
    clear LO LZ LZ2 b0 b1 b2 B2 b3
    go_wp2_with fail
    refine (HS.out _ ((HT.out).later B3)).mono ?_
    rintro e w4 ⟨rfl, b4⟩
    clear k0 k1 k2 k3 k4 kl kf
    obtain ⟨z0, z1, z2, z3, z4, zl, zf⟩ := LZ3.later b4
    have B4 := below_up B3 b4
    clear b4 B3 LZ3
    go_wp2
    refine ret52 (hr := rfl) (hp := rfl) (by simp [z0]) (by simp [z1]) (by simp [z2]) (by simp [z3]) (by simp [z4]) ⟨rfl, ?_⟩
    repeat (first | with_reducible exact B4 | with_reducible refine Below.setCell ?_ (by simp) _)
/-- The statements' own example: 'addi r2 r2 -1'. -/
def exL : List UInt8 := [97, 100, 100, 105, 32, 114, 50, 32, 114, 50, 32, 45, 49]
theorem ex_c : gC exL = 11 := by decide
theorem ex_a : gA exL = 2 := by decide
theorem ex_b : gB exL = 2 := by decide
theorem ex_d : gD exL = 0 := by decide
theorem ex_n : gN exL = -1 := by decide
theorem itoa_2 : Lib.itoa 2 = [50] := by
  have : Lib.itoa 2 = Lib.decDigits 2 := rfl
  rw [this, Lib.decDigits_one (by decide)]; decide
theorem itoa_m1 : Lib.itoa (-1) = [45, 49] := by
  have : Lib.itoa (-1) = 45 :: Lib.decDigits 1 := rfl
  rw [this, Lib.decDigits_one (by decide)]; decide
theorem ex_read : readB exL = true := by
  unfold readB
  rw [ex_c, ex_a, ex_b, ex_d, ex_n]
  have h1 : rightB 11 2 2 0 (-1) = true := by decide
  have h2 : showL 11 2 2 0 (-1) = exL := by
    have e1 : hasA 11 = true := by decide
    have e2 : hasB 11 = true := by decide
    have e3 : hasC 11 = false := by decide
    have e4 : hasN 11 = true := by decide
    have e5 : Lib.itoa ((2 : Nat) : Int) = [50] := itoa_2
    unfold showL regL
    rw [e1, e2, e3, e4, e5, itoa_m1]
    decide
  rw [h1, h2]; decide
theorem awake3_in (w : World) (hT : TW w) : Calls Tryd.prog 4 #[] w fun e w' => e = .returned (.bool true) ∧ Below w.heap.size w w' := by
  have h := read_yes exL w (by decide) hT ex_read
  rw [ex_c, ex_a, ex_b, ex_d, ex_n] at h
  have e : str exL = ⟨#[97, 100, 100, 105, 32, 114, 50, 32, 114, 50, 32, 45, 49]⟩ := rfl
  rw [e] at h
  unfold opV at h
  have HR := Lib.hid h
  clear h e hT
  go_enter Tryd.func4, Tryd.ntmps4
  go_wp2_with fail
  refine (HR.out).mono ?_
  rintro e w1 ⟨rfl, b1⟩
  have LO := lies_new w1 11 2 2 0 (-1) 27
  obtain ⟨k0, k1, k2, k3, k4, kl, kf⟩ := LO
  have b2 := below_more b1 (.cells #[.int .u8 11, .int .u8 2, .int .u8 2, .int .u8 0, .int .i16 (-1)] 27)
  go_wp2
  go_ret
  exact ⟨rfl, b2⟩
end Go.Proofs.YtclieoeaknlfbaaDoor
