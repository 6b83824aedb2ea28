/-
  A seat as words: seat.Pack, and the document's Words; rows of words of a call's own.
-/
import Derived.Test.YtjhiapailgbmkaaYA
import Derived.Test.YtjhiapailgbmkaaRQ
import Derived.Laws.CopyOwn
import Derived.Deep.RegionLaw
import Derived.Laws.Build
namespace Go.Proofs.Ytjhiapailgbmkaa
open Go.ChangeShapes Go.WideShapes Go.ChangeAt Go.RowKit
set_option maxRecDepth 100000
set_option linter.unusedVariables false

/-- A seat that may be, of words of 64 bits. -/
structure SV.ok (s : SV) : Prop where
  r : ∀ i, i < 16 → s.r i < 18446744073709551616
  pc : s.pc < 18446744073709551616
  ba : s.ba < 18446744073709551616
  ve : s.ve < 18446744073709551616
  ep : s.ep < 18446744073709551616
  ca : s.ca < 18446744073709551616
  ad : s.ad < 18446744073709551616
  st : s.st < 3
  pd : s.pd < 256
  ma : s.ma < 256
def wordF (s : SV) (i : Nat) : Nat :=
  if i < 16 then s.r i else [s.pc, s.ba, s.ve, s.ep, s.ca, s.ad, oneN s.op, s.st, s.pd, s.ma].getD (i - 16) 0
/-- The words as cells of an array of 26. -/
def wordsA (s : SV) : Array Value := #[.int .u64 (s.r 0), .int .u64 (s.r 1), .int .u64 (s.r 2), .int .u64 (s.r 3), .int .u64 (s.r 4), .int .u64 (s.r 5), .int .u64 (s.r 6), .int .u64 (s.r 7),
  .int .u64 (s.r 8), .int .u64 (s.r 9), .int .u64 (s.r 10), .int .u64 (s.r 11), .int .u64 (s.r 12), .int .u64 (s.r 13), .int .u64 (s.r 14), .int .u64 (s.r 15),
  .int .u64 s.pc, .int .u64 s.ba, .int .u64 s.ve, .int .u64 s.ep, .int .u64 s.ca, .int .u64 s.ad, .int .u64 (oneN s.op : Nat), .int .u64 s.st, .int .u64 s.pd, .int .u64 s.ma]
def headA (s : SV) : Array Value := #[.int .u64 0, .int .u64 0, .int .u64 0, .int .u64 0, .int .u64 0, .int .u64 0, .int .u64 0, .int .u64 0, .int .u64 0, .int .u64 0, .int .u64 0, .int .u64 0, .int .u64 0, .int .u64 0, .int .u64 0, .int .u64 0,
  .int .u64 s.pc, .int .u64 s.ba, .int .u64 s.ve, .int .u64 s.ep, .int .u64 s.ca, .int .u64 s.ad, .int .u64 (oneN s.op : Nat), .int .u64 s.st, .int .u64 s.pd, .int .u64 s.ma]
def zeroA : Array Value := Array.replicate 26 (.int .u64 0)
theorem zeroA_run (W : World) : (zeroValue 48).run Try.prog W = .ok (.agg zeroA) W := by kernel_rfl
theorem size26 : (Try.prog.info? 48).map (·.size) = some 26 := by kernel_rfl
theorem built26 (a b c d e f g h i j : Int) : Try.prog.built 48 [(16, .int .u64 a), (17, .int .u64 b), (18, .int .u64 c), (19, .int .u64 d), (20, .int .u64 e), (21, .int .u64 f), (22, .int .u64 g), (23, .int .u64 h), (24, .int .u64 i), (25, .int .u64 j)] =
    some #[.int .u64 0, .int .u64 0, .int .u64 0, .int .u64 0, .int .u64 0, .int .u64 0, .int .u64 0, .int .u64 0, .int .u64 0, .int .u64 0, .int .u64 0, .int .u64 0, .int .u64 0, .int .u64 0, .int .u64 0, .int .u64 0,
      .int .u64 a, .int .u64 b, .int .u64 c, .int .u64 d, .int .u64 e, .int .u64 f, .int .u64 g, .int .u64 h, .int .u64 i, .int .u64 j] := by kernel_rfl
theorem sizes26 (s : SV) : zeroA.size = (headA s).size := by simp [zeroA, headA]
theorem wordsA_one (s : SV) : (headA s).all (·.oneCell') = true := by simp [headA, Value.oneCell']
theorem regs_one (s : SV) : ∀ v ∈ (regs s).toList, v.oneCell' = true := by simp [regs, Value.oneCell']
/-- The worlds of Pack: with the seat; with a new array; with the array as it is made. -/
def pkW (s : SV) (w : World) : Nat → World
  | 0 => w.alloc (.cells s.cells 26)
  | 1 => (w.alloc (.cells s.cells 26)).alloc (.cells zeroA 48)
  | _ => ((w.alloc (.cells s.cells 26)).alloc (.cells zeroA 48)).setRow (w.heap.size + 1) (headA s)
theorem pkW_seat (s : SV) (w : World) (j : Nat) : LS (pkW s w j) w.heap.size s := by
  have h0 := ls_new w s
  match j with
  | 0 => exact h0
  | 1 => exact h0.below (below_new _ _)
  | j + 2 => exact (h0.below (below_new _ _)).kept (grown_setRowS _ _ _) (by simp)
theorem pkW_two (s : SV) (w : World) (n : Nat) : ((pkW s w 2).drewN n).heap[w.heap.size + 1]? = some (.cells (headA s) 48) := by
  have h1 : (pkW s w 1).heap[w.heap.size + 1]? = some (.cells zeroA 48) := heap_alloc2_new w _ _
  exact setRow_heap (pkW s w 1) (w.heap.size + 1) zeroA (headA s) 48 (0, 0) h1
theorem pkW_below (s : SV) (w : World) (n : Nat) : Below w.heap.size w ((pkW s w 2).drewN n) :=
  below_draws ((below_more (below_new w _) _).grown (grown_setRowS _ _ _) (by simp; omega) (fun j hj => by injection hj with hj; omega)) n
theorem pkW_regs (s : SV) (w : World) (n : Nat) : ∀ j v, (regs s).toList[j]? = some v → ((pkW s w 2).drewN n).cell? ((⟨w.heap.size, 0, none⟩ : Addr).add j) = some v := by
  intro j v hj
  have h := (pkW_seat s w 2).cell j
  have hl : j < 16 := by
    have := (List.getElem?_eq_some_iff.1 hj).1
    simpa [regs] using this
  have e : s.cells[j]? = (regs s).toList[j]? := by
    have h16 : j = 0 ∨ j = 1 ∨ j = 2 ∨ j = 3 ∨ j = 4 ∨ j = 5 ∨ j = 6 ∨ j = 7 ∨ j = 8 ∨ j = 9 ∨ j = 10 ∨ j = 11 ∨ j = 12 ∨ j = 13 ∨ j = 14 ∨ j = 15 := by omega
    rcases h16 with rfl | rfl | rfl | rfl | rfl | rfl | rfl | rfl | rfl | rfl | rfl | rfl | rfl | rfl | rfl | rfl <;> rfl
  rw [add_at]
  exact h.trans (e.trans hj)
def cpW (s : SV) (V : World) (g : Nat) : Nat → World
  | 0 => V
  | _ => V.setRow g (wordsA s)
set_option maxHeartbeats 400000 in
theorem pack_in (s : SV) (hs : s.ok) (w : World) : Calls Try.prog 10 #[s.agg] w fun e w' => e = .returned (.slice (some ⟨w.heap.size + 1, 0, none⟩) 26 26) ∧ w'.heap[w.heap.size + 1]? = some (.cells (wordsA s) 48) ∧ Below w.heap.size w w' := by
  have h1 := fun j => (pkW_seat s w j).pc'
  have h2 := fun j => (pkW_seat s w j).ba'
  have h3 := fun j => (pkW_seat s w j).ve'
  have h4 := fun j => (pkW_seat s w j).ep'
  have h5 := fun j => (pkW_seat s w j).ca'
  have h6 := fun j => (pkW_seat s w j).ad'
  have h7 := fun j => (pkW_seat s w j).op'
  have h8 := fun j => (pkW_seat s w j).st'
  have h9 := fun j => (pkW_seat s w j).pd'
  have h10 := fun j => (pkW_seat s w j).ma'
  have HB := Lib.hid (built26 s.pc s.ba s.ve s.ep s.ca s.ad (oneN s.op : Nat) s.st s.pd s.ma)
  have HO := Lib.hid (one_in s.op)
  have HU : Hid (IntKind.u64.wrap (s.st : Int) = s.st ∧ IntKind.u64.wrap (s.pd : Int) = s.pd ∧ IntKind.u64.wrap (s.ma : Int) = s.ma) := Lib.hid (by
    obtain ⟨_, _, _, _, _, _, _, b1, b2, b3⟩ := hs
    refine ⟨?_, ?_, ?_⟩ <;> (rw [IntKind.wrap_u64]; omega))
  clear hs
  have HT := Lib.hid (pkW_two s w)
  have HL := Lib.hid (pkW_below s w)
  have HW1 : Hid (pkW s w 1 = (pkW s w 0).alloc (.cells zeroA 48)) := Lib.hid rfl
  have HW2 : Hid (pkW s w 2 = (pkW s w 1).setRow (w.heap.size + 1) (headA s)) := Lib.hid rfl
  have HS0 : Hid ((pkW s w 0).heap.size = w.heap.size + 1) := Lib.hid (by simp [pkW])
  have HG1 : Hid ((pkW s w 1).heap[w.heap.size + 1]? = some (.cells zeroA 48)) := Lib.hid (heap_alloc2_new w _ _)
  have HSS := Lib.hid (pkW_regs s w)
  have H0 : Hid (pkW s w 0 = w.alloc (.cells s.cells 26)) := Lib.hid rfl
  generalize pkW s w = W at *
  unfold SV.agg at *
  go_enter Try.func10, Try.ntmps10
  go_wp2_with fail
  refine RQ.wp_region_turns W (fun i => [25, 26].contains i) (by kernel_rfl) (by kernel_rfl) (by kernel_rfl) (by kernel_rfl) H0.out ?_
  iterate 14 (refine RQ.wpT_reads rfl (fun K hK => ?_); go_simp; refine hK _ ?_; clear hK K)
  refine RQ.wpT_call rfl rfl 21 #[.bool s.op] (fun w => by simp [go_sem]) _ (fun j n => (HO.out _).mono (fun e w'' h => ⟨h.1, n, h.2.symm⟩)) ?_
  go_simp
  iterate 9 (refine RQ.wpT_reads rfl (fun K hK => ?_); go_simp; refine hK _ ?_; clear hK K)
  refine RQ.wpT_build rfl rfl 48 _ rfl _ ?hl _ HB.out ?_
  case hl => simp [go_sem]; exact HU.out
  go_simp
  go_simp
  refine RQ.wpT_turns rfl rfl _ (RQ.turns_alloc 48 rfl zeroA zeroA_run HW1.out) ?_
  rw [HS0.out]
  go_simp
  refine RQ.wpT_turns rfl rfl _ (RQ.turns_store_row 48 (.tmp 3) (.tmp 28) rfl (w.heap.size + 1) (headA s) zeroA 48 rfl rfl HG1.out size26 (sizes26 s) (wordsA_one s) HW2.out) ?_
  refine RQ.wpT_nil ?_
  intro n
  go_simp
  have HV := Lib.hid (HT.out n)
  have HV2 := Lib.hid (HL.out n)
  have HS2 := Lib.hid (HSS.out n)
  clear HT HL HSS h1 h2 h3 h4 h5 h6 h7 h8 h9 h10 HW1 HW2 HS0 HG1 H0 HB HO HU
  generalize (W 2).drewN n = V at *
  generalize s.cells = Z at *
  go_wp2_with fail
  refine RQ.wp_region_turns (cpW s V (w.heap.size + 1)) (fun i => [3].contains i) (by kernel_rfl) (by kernel_rfl) (by kernel_rfl) (by kernel_rfl) rfl ?_
  iterate 3 (refine RQ.wpT_reads rfl (fun K hK => ?_); go_simp; refine hK _ ?_; clear hK K)
  refine RQ.wpT_turns rfl rfl _ (RQ.turns_copy_row (.tmp 29) (.tmp 31) 28 28 rfl 22 (by kernel_rfl) (by kernel_rfl) (w.heap.size + 1) 0 26 26 ⟨w.heap.size, 0, none⟩ 16 16 rfl rfl (headA s) 48 HV.out (regs s).toList rfl ?hsrc (by simp [regs, headA]) (regs_one s) rfl) ?_
  case hsrc => exact HS2.out
  refine RQ.wpT_nil ?_
  intro m
  go_simp
  have HE : Hid (∀ m, ((cpW s V (w.heap.size + 1) 1).drewN m).heap[w.heap.size + 1]? = some (.cells (wordsA s) 48)) := Lib.hid (fun m => setRow_heap V (w.heap.size + 1) (headA s) (wordsA s) 48 (0, 0) HV.out)
  have HE2 : Hid (∀ m, Below w.heap.size w ((cpW s V (w.heap.size + 1) 1).drewN m)) := Lib.hid (fun m => below_draws ((HV2.out).grown (grown_setRowS V (w.heap.size + 1) (wordsA s)) (HV2.out).size (fun j hj => by injection hj with hj; omega)) m)
  generalize cpW s V (w.heap.size + 1) 1 = U at *
  go_wp2
  go_ret
  exact ⟨rfl, HE.out _, HE2.out _⟩
end Go.Proofs.Ytjhiapailgbmkaa
