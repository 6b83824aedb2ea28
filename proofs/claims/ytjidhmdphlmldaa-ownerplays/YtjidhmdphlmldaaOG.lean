/-
  Contracts of package owner: New, Twin; the law's awake.
-/
import Derived.Test.YtjidhmdphlmldaaOF
import Derived.Test.YtjidhmdphlmldaaVA
namespace Go.Proofs.Ytjidhmdphlmldaa
open Go.ChangeShapes Go.WideShapes Go.ChangeAt Go.RowKit
set_option maxRecDepth 100000

/-! ### New -/
def zero4 : Array Value := #[.int .u8 0, .int .i64 0, .int .i64 0, .int .i64 0]
theorem made4 (n j : Nat) (h : j < n) : (madeCells zero4 n)[j]? = some (zero4[j % 4]!) := by
  unfold madeCells
  rw [Array.getElem?_map, Array.getElem?_range, if_pos h]
  rfl
theorem info_of {P : Program} {e : TypeId} {z : Value} {s b : Nat} (h : (P.info? e).map (fun i => (i.zero, i.size, i.bytes)) = some (some z, s, b)) : ∃ i, P.info? e = some i ∧ i.zero = some z ∧ i.size = s ∧ i.bytes = b := by
  obtain ⟨i, hi, he⟩ := Option.map_eq_some_iff.1 h
  simp only [Prod.mk.injEq] at he
  exact ⟨i, hi, he.1, he.2.1, he.2.2⟩
theorem make_rows (k : Nat) (h : k ≤ 512) (w : World) :
    (Instr.makeSlice 49 (.int .i64 k) (.int .i64 k)).run Try.prog w = .ok (.slice (some ⟨w.heap.size, 0, none⟩) k k) (w.alloc (.cells (madeCells zero4 (k * 4)) 53)) := by
  have hi : (Try.prog.info? 53).map (fun i => (i.zero, i.size, i.bytes)) = some (some (.agg zero4), 4, 32) := by kernel_rfl
  have hu : Try.prog.underlying 49 = some (.slice 53) := by kernel_rfl
  obtain ⟨i, hi, hz, h1, h2⟩ := info_of hi
  have h := run_makeSlice (P := Try.prog) w 49 53 i (.agg zero4) hu hi hz .i64 .i64 k k (by omega) (by omega) (by rw [h1]; omega) (by rw [h2]; omega) (by omega)
  rw [h1, Int.toNat_natCast] at h
  exact h
theorem RW.made (w : World) (k : Nat) (T : TypeId) : RW (w.alloc (.cells (madeCells zero4 (k * 4)) T)) w.heap.size k (fun _ => R4.zero) := by
  have hc : ∀ j, (w.alloc (.cells (madeCells zero4 (k * 4)) T)).cell? ⟨w.heap.size, j, none⟩ = (madeCells zero4 (k * 4))[j]? := fun j => by
    have hh : ∀ o : Obj, (w.alloc o).heap[w.heap.size]? = some o := fun o => heap_alloc_new w o
    generalize madeCells zero4 (k * 4) = A
    simp only [World.cell?, hh]
    rfl
  refine ⟨by simp, fun i => by simp, fun p hp => ?_, fun p hp => ?_, fun p hp => ?_, fun p hp => ?_⟩
  · rw [hc, made4 _ _ (by omega), show p * 4 % 4 = 0 by omega]; rfl
  · rw [hc, made4 _ _ (by omega), show (p * 4 + 1) % 4 = 1 by omega]; rfl
  · rw [hc, made4 _ _ (by omega), show (p * 4 + 2) % 4 = 2 by omega]; rfl
  · rw [hc, made4 _ _ (by omega), show (p * 4 + 3) % 4 = 3 by omega]; rfl
theorem Bk.boxed {W : World} {g cap k : Nat} {L : Nat → R4} (hr : RW W g k L) (hk : k ≤ 512) (o : TypeId) : Bk (W.alloc (.cells #[.slice (some ⟨g, 0, none⟩) k cap] o)) W.heap.size g cap k L :=
  ⟨by simp, by have := hr.lt; omega, hr.below (below_new _ _), hk⟩
/-- What New, and Twin, leave: a book of its own. -/
def Nw (w : World) (k : Nat) (L : Nat → R4) (e : Ending) (w' : World) : Prop :=
  ∃ B g cap, e = .returned (.pointer (some ⟨B, 0, none⟩)) ∧ Bk w' B g cap k L ∧ w.heap.size ≤ B ∧ w.heap.size ≤ g ∧ Below w.heap.size w w'
def clampN (k : Int) : Nat := (min (max k 0) 512).toNat
theorem clampN_le (k : Int) : clampN k ≤ 512 := by unfold clampN; omega
theorem clampN_is {k : Nat} (h : k ≤ 512) : clampN k = k := by unfold clampN; omega
theorem new_end (w : World) (k : Nat) (hk : k ≤ 512) : ∀ A, A = madeCells zero4 (k * 4) → Nw w k (fun _ => R4.zero) (.returned (.pointer (some ⟨w.heap.size + 1, 0, none⟩))) ((w.alloc (.cells A 53)).alloc (.cells #[.slice (some ⟨w.heap.size, 0, none⟩) k k] 64)) := by
  rintro _ rfl
  have h := Bk.boxed (RW.made w k 53) hk (cap := k) 64
  rw [World.size_alloc] at h
  exact ⟨_, _, _, rfl, h, by omega, by omega, below_more (below_new _ _) _⟩
theorem new_mid {k : Nat} (hk : k ≤ 512) (w : World) : Calls Try.prog 21 #[.int .i64 (k : Nat)] w (Nw w k (fun _ => R4.zero)) := by
  have hm := make_rows k hk
  have HE := Lib.hid (new_end w k hk _ rfl)
  generalize madeCells zero4 (k * 4) = A at *
  go_enter Try.func21, Try.ntmps21
  go_wp2
  go_ret
  exact HE.out
theorem new_low {n : Int} (hn : n < 0) (w : World) : Calls Try.prog 21 #[.int .i64 n] w (Nw w 0 (fun _ => R4.zero)) := by
  have hm := make_rows 0 (by omega)
  have HE := Lib.hid (new_end w 0 (by omega) _ rfl)
  generalize madeCells zero4 (0 * 4) = A at *
  simp only [Int.natCast_zero] at hm
  go_enter Try.func21, Try.ntmps21
  go_wp2
  go_ret
  exact HE.out
theorem new_high {n : Int} (hn : 512 < n) (w : World) : Calls Try.prog 21 #[.int .i64 n] w (Nw w 512 (fun _ => R4.zero)) := by
  have hm : ∀ w, (Instr.makeSlice 49 (.int .i64 512) (.int .i64 512)).run Try.prog w = _ := make_rows 512 (by omega)
  have HE := Lib.hid (new_end w 512 (by omega) _ rfl)
  generalize madeCells zero4 (512 * 4) = A at *
  go_enter Try.func21, Try.ntmps21
  go_wp2
  go_ret
  exact HE.out
/-- New: so many frames, all free. -/
theorem new_in (n : Int) (w : World) : Calls Try.prog 21 #[.int .i64 n] w (Nw w (clampN n) (fun _ => R4.zero)) := by
  by_cases h0 : n < 0
  · rw [show clampN n = 0 by unfold clampN; omega]; exact new_low h0 w
  · by_cases h1 : 512 < n
    · rw [show clampN n = 512 by unfold clampN; omega]; exact new_high h1 w
    · obtain ⟨n, rfl⟩ := Int.eq_ofNat_of_zero_le (show 0 ≤ n by omega)
      rw [show clampN (n : Nat) = n by unfold clampN; omega]; exact new_mid (by omega) w

/-! ### Twin -/
def rowsV (L : Nat → R4) (k : Nat) : List Value := (List.range k).flatMap fun p => [.int .u8 ((L p).k : Nat), .int .i64 (L p).vm, .int .i64 (L p).pg, .int .i64 (L p).sh]
theorem rowsV_succ (L : Nat → R4) (k : Nat) : rowsV L (k + 1) = rowsV L k ++ [.int .u8 ((L k).k : Nat), .int .i64 (L k).vm, .int .i64 (L k).pg, .int .i64 (L k).sh] := by simp [rowsV, List.range_succ]
theorem rowsV_len (L : Nat → R4) (k : Nat) : (rowsV L k).length = k * 4 := by
  induction k with
  | zero => rfl
  | succ k ih => rw [rowsV_succ, List.length_append, ih]; simp; omega
theorem rowsV_at (L : Nat → R4) (k p i : Nat) (hp : p < k) (hi : i < 4) : (rowsV L k)[p * 4 + i]? = [Value.int .u8 ((L p).k : Nat), .int .i64 (L p).vm, .int .i64 (L p).pg, .int .i64 (L p).sh][i]? := by
  induction k with
  | zero => omega
  | succ k ih =>
    rw [rowsV_succ, List.getElem?_append, rowsV_len]
    by_cases h : p < k
    · rw [if_pos (by omega), ih h]
    · obtain rfl : p = k := by omega
      rw [if_neg (by omega), show p * 4 + i - p * 4 = i by omega]
theorem RW.cells {w : World} {g n : Nat} {L : Nat → R4} (H : RW w g n L) (j : Nat) (u : Value) (h : (rowsV L n)[j]? = some u) : w.cell? ⟨g, j, none⟩ = some u := by
  have hj : j < n * 4 := by have := (List.getElem?_eq_some_iff.1 h).1; rwa [rowsV_len] at this
  obtain ⟨p, i, rfl, hi⟩ : ∃ p i, j = p * 4 + i ∧ i < 4 := ⟨j / 4, j % 4, by omega, by omega⟩
  have hp : p < n := by omega
  rw [rowsV_at L n p i hp hi] at h
  have : i = 0 ∨ i = 1 ∨ i = 2 ∨ i = 3 := by omega
  rcases this with rfl | rfl | rfl | rfl <;> simp at h <;> subst h
  · exact H.c0 p hp
  · exact H.c1 p hp
  · exact H.c2 p hp
  · exact H.c3 p hp
theorem RW.of {w : World} {g n : Nat} {L : Nat → R4} (hlt : g < w.heap.size) (hfz : ∀ i, w.frozen? ⟨g, i, none⟩ = false) (h : ∀ j u, (rowsV L n)[j]? = some u → w.cell? ⟨g, j, none⟩ = some u) : RW w g n L :=
  ⟨hlt, hfz, fun p hp => h (p * 4) _ (by rw [show p * 4 = p * 4 + 0 by omega, rowsV_at L n p 0 hp (by omega)]; rfl), fun p hp => h _ _ (by rw [rowsV_at L n p 1 hp (by omega)]; rfl), fun p hp => h _ _ (by rw [rowsV_at L n p 2 hp (by omega)]; rfl), fun p hp => h _ _ (by rw [rowsV_at L n p 3 hp (by omega)]; rfl)⟩
theorem rowsV_one (L : Nat → R4) (k : Nat) : ∀ u ∈ rowsV L k, u.oneCell' = true := by
  intro u hu
  unfold rowsV at hu
  obtain ⟨p, _, hu⟩ := List.mem_flatMap.1 hu
  simp at hu
  rcases hu with rfl | rfl | rfl | rfl <;> rfl
theorem owns0 (w : World) (e : TypeId) : (w.alloc (.cells #[] e)).ownsRow w.heap.size e 4 (.slice (some ⟨w.heap.size, 0, none⟩) 0 0) 0 [] :=
  ⟨rfl, .inr ⟨w.heap.size, 0, #[], rfl, Nat.le_refl _, heap_alloc_new w _, Nat.le_refl _, by unfold maxLen; omega, rfl, rfl⟩⟩
theorem add_at (g j : Nat) : (⟨g, 0, none⟩ : Addr).add j = ⟨g, j, none⟩ := by
  simp only [Addr.add]
  split <;> simp_all
theorem clone_in {w : World} {g k cap : Nat} {L : Nat → R4} (hr : RW w g k L) (hk : k ≤ 512) :
    Calls Try.prog 40 #[.slice (some ⟨g, 0, none⟩) k cap] w fun e w' => ∃ g' cap', e = .returned (.slice (some ⟨g', 0, none⟩) k cap') ∧ w.heap.size ≤ g' ∧ RW w' g' k L ∧ Below w.heap.size w w' := by
  have hi : (Try.prog.info? 53).map (fun i => (i.zero, i.size, i.bytes)) = some (some (.agg zero4), 4, 32) := by kernel_rfl
  have hu : Try.prog.underlying 49 = some (.slice 53) := by kernel_rfl
  obtain ⟨i, hi, hz, h1, h2⟩ := info_of hi
  have HI := Lib.hid (And.intro hi (And.intro hz (And.intro h1 h2)))
  have HR := Lib.hid (hr.below (below_new w (.cells #[] 53)))
  clear hr hi hz h1 h2
  have hq : (binOp .eql 49 (.slice (some ⟨g, 0, none⟩) k cap) (.slice none 0 0)).run Try.prog w = .ok (.bool false) w := by kernel_rfl
  go_enter Try.func40, Try.ntmps40
  go_wp2_with (at_builtin
               refine wpList_app rfl (.tmp 5) (.tmp 6) 49 53 rfl i (.agg zero4) 4 32 hu (HI.out).1 (HI.out).2.1 (HI.out).2.2.1 (HI.out).2.2.2 rfl (by omega) w.heap.size (.slice (some ⟨w.heap.size, 0, none⟩) 0 0) 0 [] rfl (owns0 w 53) ⟨g, 0, none⟩ k cap (rowsV L k) rfl (rowsV_len L k)
                 (fun j u h => by rw [add_at]; exact (HR.out).cells j u h) (rowsV_one L k) (by unfold maxLen; omega) (by omega) (by simp) ?_
               intro v' w' k1 k2 k3 k4
               obtain ⟨g', cap', rfl, j1, j2, j3, j4, j5, j6⟩ := owns_place k1 (fun e => by have := (k3.1 e).1; cases this)
               have K1 := Lib.hid (RW.of (L := L) (n := k) j2 j4 (by simpa using j3))
               have K2 := Lib.hid ((below_new w (.cells #[] 53)).grown k2 (below_new w _).size (fun y hy => by simp [Value.ownBlock] at hy; omega))
               rw [Nat.zero_add]
               clear k1 k2 k3 k4 j2 j3 j4 j5 j6)
  go_ret
  exact ⟨g', cap', rfl, j1, K1.out, K2.out⟩
theorem twin_in {w : World} {B g cap k : Nat} {L : Nat → R4} (H : Bk w B g cap k L) : Calls Try.prog 30 #[.pointer (some ⟨B, 0, none⟩)] w (Nw w k L) := by
  have c := H.c
  have HC := Lib.hid (clone_in (cap := cap) H.row H.le)
  have hk := H.le
  clear H
  go_enter Try.func30, Try.ntmps30
  go_wp2_with fail
  refine (HC.out).mono ?_
  rintro e w2 ⟨g', cap', rfl, hg', hr, hb⟩
  have HE : Hid (Nw w k L (.returned (.pointer (some ⟨w2.heap.size, 0, none⟩))) (w2.alloc (.cells #[.slice (some ⟨g', 0, none⟩) k cap'] 64))) :=
    Lib.hid ⟨_, _, _, rfl, Bk.boxed hr hk _, hb.size, hg', below_more hb _⟩
  clear hr hb
  go_wp2
  go_ret
  exact HE.out
theorem twin_nil (w : World) : Calls Try.prog 30 #[.pointer none] w fun e w' => e = .returned (.pointer none) ∧ w = w' := by
  go_enter Try.func30, Try.ntmps30
  go_wp2
  go_ret
  exact ⟨rfl, rfl⟩
end Go.Proofs.Ytjidhmdphlmldaa
