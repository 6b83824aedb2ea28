/-
  Contract of pool.New.
-/
import Derived.Test.YtfjkomglljcfjaaPE
namespace Go.Proofs.Ytfjkomglljcfjaa
open Go.ChangeShapes Go.WideShapes Go.ChangeAt Go.RowKit
open PM
set_option maxRecDepth 100000

theorem made_i (L : Nat) : madeCells (Value.int .i64 0).cells L = (vl (iv (fun _ => 0)) L).toArray := by
  apply Array.ext_getElem?
  intro j
  by_cases hj : j < L
  · simp [madeCells, vl, iv, hj, Value.cells, Nat.mod_one]
  · simp [madeCells, vl, Value.cells, hj]
theorem made_b (L : Nat) : madeCells (Value.bool false).cells L = (vl (bv (fun _ => false)) L).toArray := by
  apply Array.ext_getElem?
  intro j
  by_cases hj : j < L
  · simp [madeCells, vl, bv, hj, Value.cells, Nat.mod_one]
  · simp [madeCells, vl, Value.cells, hj]
theorem make_frees (k : Nat) (h : k ≤ 512) (w : World) :
    (Instr.makeSlice 46 (.int .i64 k) (.int .i64 k)).run Try.prog w = .ok (.slice (some ⟨w.heap.size, 0, none⟩) k k) (w.alloc (.cells (vl (iv (fun _ => 0)) k).toArray 3)) := by
  have hi : (Try.prog.info? 3).map (fun i => (i.zero, i.size, i.bytes)) = some (some (.int .i64 0), 1, 8) := by kernel_rfl
  obtain ⟨i, hi, hz, h1, h2⟩ := info_parts hi
  have h := run_makeSlice (P := Try.prog) w 46 3 i (.int .i64 0) und_frees hi hz .i64 .i64 k k (by omega) (by omega) (by rw [h1]; omega) (by rw [h2]; omega) (by omega)
  rw [h1, Nat.mul_one, Int.toNat_natCast, made_i] at h
  exact h
theorem make_bools (k : Nat) (h : k ≤ 512) (w : World) :
    (Instr.makeSlice 26 (.int .i64 k) (.int .i64 k)).run Try.prog w = .ok (.slice (some ⟨w.heap.size, 0, none⟩) k k) (w.alloc (.cells (vl (bv (fun _ => false)) k).toArray 4)) := by
  have hu : Try.prog.underlying 26 = some (.slice 4) := by kernel_rfl
  have hi : (Try.prog.info? 4).map (fun i => (i.zero, i.size, i.bytes)) = some (some (.bool false), 1, 1) := by kernel_rfl
  obtain ⟨i, hi, hz, h1, h2⟩ := info_parts hi
  have h := run_makeSlice (P := Try.prog) w 26 4 i (.bool false) hu hi hz .i64 .i64 k k (by omega) (by omega) (by rw [h1]; omega) (by rw [h2]; omega) (by omega)
  rw [h1, Nat.mul_one, Int.toNat_natCast, made_b] at h
  exact h
theorem VR.new (w : World) (T : TypeId) (G : Nat → Value) (k : Nat) (h : k ≤ 512) : VR (w.alloc (.cells (vl G k).toArray T)) w.heap.size T G k k :=
  ⟨⟨(vl G k).toArray, heap_alloc_new w _, by simp [vl_length], fun i hi => by simp [vl_get G k i hi]⟩, Nat.le_refl _, by unfold maxLen; omega⟩

/-- New under way: j frames are laid. -/
structure NI (w wr : World) (B g u k j : Nat) : Prop where
  c0 : wr.cell? ⟨B, 0, none⟩ = some (.slice (some ⟨g, 0, none⟩) k k)
  f0 : wr.frozen? ⟨B, 0, none⟩ = false
  c1 : wr.cell? ⟨B, 1, none⟩ = some (.slice (some ⟨u, 0, none⟩) k k)
  c2 : wr.cell? ⟨B, 2, none⟩ = some (.int .i64 (-1))
  f2 : wr.frozen? ⟨B, 2, none⟩ = false
  fr : VR wr g 3 (iv (fun i => if i < j then i else 0)) k k
  ur : VR wr u 4 (bv (fun _ => false)) k k
  bg : B ≠ g
  bu : B ≠ u
  gu : g ≠ u
  b0 : w.heap.size ≤ B
  g0 : w.heap.size ≤ g
  u0 : w.heap.size ≤ u
  bel : Below w.heap.size w wr
theorem NI.step {w wr : World} {B g u k j : Nat} (h : NI w wr B g u k j) : NI w (wr.setCell ⟨g, j, none⟩ (.int .i64 (j : Nat))) B g u k (j + 1) := by
  have hgs := grown_setCell wr ⟨g, j, none⟩ (.int .i64 (j : Nat))
  have hB := hgs.block B (World.block_lt_of_cell? _ _ h.c0) (by simpa using h.bg)
  refine ⟨(World.cell?_of_block hB).trans h.c0, (World.frozen?_of_block hB).trans h.f0, (World.cell?_of_block hB).trans h.c1, (World.cell?_of_block hB).trans h.c2, (World.frozen?_of_block hB).trans h.f2, ?_,
    h.ur.kept hgs (by simpa using Ne.symm h.gu), h.bg, h.bu, h.gu, h.b0, h.g0, h.u0, h.bel.grown hgs h.bel.size (fun y hy => by injection hy with hy; rw [← hy]; exact h.g0)⟩
  have := h.fr.set j (.int .i64 (j : Nat))
  rw [iv_upd] at this
  refine this.congr (fun i hi => ?_)
  show Value.int .i64 _ = Value.int .i64 _
  congr 2
  show (if i = j then j else if i < j then i else 0) = (if i < j + 1 then i else 0)
  by_cases e : i = j
  · subst e; simp
  · by_cases c : i < j
    · rw [if_neg e, if_pos c, if_pos (by omega)]
    · rw [if_neg e, if_neg c, if_neg (by omega)]
theorem NI.done {w wr : World} {B g u k : Nat} (h : NI w wr B g u k k) (hk : k ≤ 512) : Pl wr B (fun x => w.heap.size ≤ x) k (fun _ => false) (-1) := by
  refine ⟨g, k, u, k, ⟨hk, by omega, ⟨?_, h.bg, ?_⟩, h.c1, h.c2, h.f2, h.ur, h.bu, h.gu⟩, h.b0, h.g0, h.u0⟩
  · rw [cnt_all]; exact ⟨h.c0, h.f0⟩
  · rw [cnt_all]
    refine ⟨fun i => i, h.fr.congr (fun i hi => by unfold iv; simp [hi]), Hp.rising k, ?_, ?_, fun _ _ _ _ h => h⟩
    · intro i hi; simp [PM.fr, hi]
    · intro x hx; exact ⟨x, ((fr_iff _ _ _).1 hx).1, rfl⟩
theorem cells3 (W : World) (a b c : Value) (T : TypeId) (n : Nat) (hn : n = W.heap.size) : (W.alloc (.cells #[a, b, c] T)).cell? ⟨n, 0, none⟩ = some a ∧ (W.alloc (.cells #[a, b, c] T)).cell? ⟨n, 1, none⟩ = some b ∧ (W.alloc (.cells #[a, b, c] T)).cell? ⟨n, 2, none⟩ = some c ∧
    ∀ o, (W.alloc (.cells #[a, b, c] T)).frozen? ⟨n, o, none⟩ = false := by
  subst hn
  exact ⟨by simp, by simp, by simp, fun o => by simp⟩
theorem NI.start1 (w : World) (k : Nat) (hk : k ≤ 512) :
    NI w (((w.drew.alloc (.cells (vl (iv (fun _ => 0)) k).toArray 3)).alloc (.cells (vl (bv (fun _ => false)) k).toArray 4)).alloc (.cells #[.slice (some ⟨w.heap.size, 0, none⟩) k k, .slice (some ⟨w.heap.size + 1, 0, none⟩) k k, .int .i64 (-1)] 48)) (w.heap.size + 1 + 1) w.heap.size (w.heap.size + 1) k 0 := by
  have h1 := VR.new w.drew 3 (iv (fun _ => 0)) k hk
  have h2 := VR.new (w.drew.alloc (.cells (vl (iv (fun _ => 0)) k).toArray 3)) 4 (bv (fun _ => false)) k hk
  generalize (vl (iv (fun _ => 0)) k).toArray = A1 at *
  generalize (vl (bv (fun _ => false)) k).toArray = A2 at *
  obtain ⟨z0, z1, z2, z3⟩ := cells3 _ (.slice (some ⟨w.heap.size, 0, none⟩) k k) (.slice (some ⟨w.heap.size + 1, 0, none⟩) k k) (.int .i64 (-1)) 48 (w.heap.size + 1 + 1) (show _ = ((w.drew.alloc (.cells A1 3)).alloc (.cells A2 4)).heap.size by simp)
  refine ⟨z0, z3 0, z1, z2, z3 2, ?_, ?_, by omega, by omega, by omega, by omega, by omega, by omega, ?_⟩
  · exact (h1.kept (World.grownBy_alloc _ _ none) (by simp)).kept (World.grownBy_alloc _ _ none) (by simp)
  · have := h2.kept (World.grownBy_alloc _ (.cells #[.slice (some ⟨w.heap.size, 0, none⟩) k k, .slice (some ⟨w.heap.size + 1, 0, none⟩) k k, .int .i64 (-1)] 48) none) (by simp)
    simpa using this
  · exact below_more (below_more (below_more (below_draws (Below.refl _ _) 1) _) _) _
theorem NI.start2 (w : World) (k : Nat) (hk : k ≤ 512) :
    NI w (((w.drew.alloc (.cells (vl (bv (fun _ => false)) k).toArray 4)).alloc (.cells (vl (iv (fun _ => 0)) k).toArray 3)).alloc (.cells #[.slice (some ⟨w.heap.size + 1, 0, none⟩) k k, .slice (some ⟨w.heap.size, 0, none⟩) k k, .int .i64 (-1)] 48)) (w.heap.size + 1 + 1) (w.heap.size + 1) w.heap.size k 0 := by
  have h1 := VR.new w.drew 4 (bv (fun _ => false)) k hk
  have h2 := VR.new (w.drew.alloc (.cells (vl (bv (fun _ => false)) k).toArray 4)) 3 (iv (fun _ => 0)) k hk
  generalize (vl (iv (fun _ => 0)) k).toArray = A1 at *
  generalize (vl (bv (fun _ => false)) k).toArray = A2 at *
  obtain ⟨z0, z1, z2, z3⟩ := cells3 _ (.slice (some ⟨w.heap.size + 1, 0, none⟩) k k) (.slice (some ⟨w.heap.size, 0, none⟩) k k) (.int .i64 (-1)) 48 (w.heap.size + 1 + 1) (show _ = ((w.drew.alloc (.cells A2 4)).alloc (.cells A1 3)).heap.size by simp)
  refine ⟨z0, z3 0, z1, z2, z3 2, ?_, ?_, by omega, by omega, by omega, by omega, by omega, by omega, ?_⟩
  · have := h2.kept (World.grownBy_alloc _ (.cells #[.slice (some ⟨w.heap.size + 1, 0, none⟩) k k, .slice (some ⟨w.heap.size, 0, none⟩) k k, .int .i64 (-1)] 48) none) (by simp)
    simpa using this
  · exact (h1.kept (World.grownBy_alloc _ _ none) (by simp)).kept (World.grownBy_alloc _ _ none) (by simp)
  · exact below_more (below_more (below_more (below_draws (Below.refl _ _) 1) _) _) _
/-- How many frames New lays. -/
def clampN (k : Int) : Nat := (min (max k 0) 512).toNat
theorem clampN_le (k : Int) : clampN k ≤ 512 := by unfold clampN; omega
theorem clampN_is {k : Nat} (h : k ≤ 512) : clampN k = k := by unfold clampN; omega
theorem new_mid {k : Nat} (hk : k ≤ 512) (w : World) :
    Calls Try.prog 9 #[.int .i64 (k : Nat)] w fun e w' => ∃ B, e = .returned (.pointer (some ⟨B, 0, none⟩)) ∧ Pl w' B (fun x => w.heap.size ≤ x) k (fun _ => false) (-1) ∧ Below w.heap.size w w' := by
  have hm1 := make_frees k hk
  have hm2 := make_bools k hk
  have S1 := Lib.hid (NI.start1 w k hk)
  have S2 := Lib.hid (NI.start2 w k hk)
  generalize (vl (iv (fun _ => 0)) k).toArray = A1 at *
  generalize (vl (bv (fun _ => false)) k).toArray = A2 at *
  go_enter Try.func9, Try.ntmps9
  go_wp2
  go_region
  · go_wp2_with fail
    go_loopw [15] (fun i wr => ∃ (j : Nat), j ≤ k ∧ i = .int .i64 j ∧ NI w wr (w.heap.size + 1 + 1) w.heap.size (w.heap.size + 1) k j) (fun i _ => (k - (intOf i).toNat))
    case atStart => exact ⟨0, by omega, rfl, S1.out⟩
    case round => 
      obtain ⟨j, hj, rfl, hp⟩ := hrel
      clear S1 S2
      have HI := Lib.hid hp
      by_cases hjk : j < k
      · have c0 := hp.c0
        have c3 := hp.fr.cell j hjk
        have c4 := hp.fr.frozen j
        have HS := Lib.hid hp.step
        clear hp
        go_wp2
        go_roundw
        case rel => exact ⟨j + 1, by omega, by go_num, HS.out⟩
        case measure => simp [intOf]; omega
      · obtain rfl : j = k := by omega
        clear hp
        go_wp2
        go_ret
        exact ⟨_, rfl, (HI.out).done hk, (HI.out).bel⟩
  · go_wp2_with fail
    go_loopw [15] (fun i wr => ∃ (j : Nat), j ≤ k ∧ i = .int .i64 j ∧ NI w wr (w.heap.size + 1 + 1) (w.heap.size + 1) w.heap.size k j) (fun i _ => (k - (intOf i).toNat))
    case atStart => exact ⟨0, by omega, rfl, S2.out⟩
    case round => 
      obtain ⟨j, hj, rfl, hp⟩ := hrel
      clear S1 S2
      have HI := Lib.hid hp
      by_cases hjk : j < k
      · have c0 := hp.c0
        have c3 := hp.fr.cell j hjk
        have c4 := hp.fr.frozen j
        have HS := Lib.hid hp.step
        clear hp
        go_wp2
        go_roundw
        case rel => exact ⟨j + 1, by omega, by go_num, HS.out⟩
        case measure => simp [intOf]; omega
      · obtain rfl : j = k := by omega
        clear hp
        go_wp2
        go_ret
        exact ⟨_, rfl, (HI.out).done hk, (HI.out).bel⟩
theorem new_low {n : Int} (hn : n < 0) (w : World) :
    Calls Try.prog 9 #[.int .i64 n] w fun e w' => ∃ B, e = .returned (.pointer (some ⟨B, 0, none⟩)) ∧ Pl w' B (fun x => w.heap.size ≤ x) 0 (fun _ => false) (-1) ∧ Below w.heap.size w w' := by
  have hk : 0 ≤ 512 := by omega
  have hm1 := make_frees 0 hk
  have hm2 := make_bools 0 hk
  have S1 := Lib.hid (NI.start1 w 0 hk)
  have S2 := Lib.hid (NI.start2 w 0 hk)
  generalize (vl (iv (fun _ => 0)) 0).toArray = A1 at *
  generalize (vl (bv (fun _ => false)) 0).toArray = A2 at *
  simp only [Int.natCast_zero] at hm1 hm2
  go_enter Try.func9, Try.ntmps9
  go_wp2
  go_region
  · go_wp2_with fail
    go_loopw [15] (fun i wr => ∃ (j : Nat), j ≤ 0 ∧ i = .int .i64 j ∧ NI w wr (w.heap.size + 1 + 1) w.heap.size (w.heap.size + 1) 0 j) (fun i _ => (0 - (intOf i).toNat))
    case atStart => exact ⟨0, by omega, rfl, S1.out⟩
    case round => 
      obtain ⟨j, hj, rfl, hp⟩ := hrel
      clear S1 S2
      have HI := Lib.hid hp
      by_cases hjk : j < 0
      · omega
      · obtain rfl : j = 0 := by omega
        clear hp
        go_wp2
        go_ret
        exact ⟨_, rfl, (HI.out).done hk, (HI.out).bel⟩
  · go_wp2_with fail
    go_loopw [15] (fun i wr => ∃ (j : Nat), j ≤ 0 ∧ i = .int .i64 j ∧ NI w wr (w.heap.size + 1 + 1) (w.heap.size + 1) w.heap.size 0 j) (fun i _ => (0 - (intOf i).toNat))
    case atStart => exact ⟨0, by omega, rfl, S2.out⟩
    case round => 
      obtain ⟨j, hj, rfl, hp⟩ := hrel
      clear S1 S2
      have HI := Lib.hid hp
      by_cases hjk : j < 0
      · omega
      · obtain rfl : j = 0 := by omega
        clear hp
        go_wp2
        go_ret
        exact ⟨_, rfl, (HI.out).done hk, (HI.out).bel⟩
theorem new_high {n : Int} (hn : 512 < n) (w : World) :
    Calls Try.prog 9 #[.int .i64 n] w fun e w' => ∃ B, e = .returned (.pointer (some ⟨B, 0, none⟩)) ∧ Pl w' B (fun x => w.heap.size ≤ x) 512 (fun _ => false) (-1) ∧ Below w.heap.size w w' := by
  have hk : 512 ≤ 512 := by omega
  have hm1 : ∀ w, (Instr.makeSlice 46 (.int .i64 512) (.int .i64 512)).run Try.prog w = _ := make_frees 512 hk
  have hm2 : ∀ w, (Instr.makeSlice 26 (.int .i64 512) (.int .i64 512)).run Try.prog w = _ := make_bools 512 hk
  have S1 := Lib.hid (NI.start1 w 512 hk)
  have S2 := Lib.hid (NI.start2 w 512 hk)
  generalize (vl (iv (fun _ => 0)) 512).toArray = A1 at *
  generalize (vl (bv (fun _ => false)) 512).toArray = A2 at *
  go_enter Try.func9, Try.ntmps9
  go_wp2
  go_region
  · go_wp2_with fail
    go_loopw [15] (fun i wr => ∃ (j : Nat), j ≤ 512 ∧ i = .int .i64 j ∧ NI w wr (w.heap.size + 1 + 1) w.heap.size (w.heap.size + 1) 512 j) (fun i _ => (512 - (intOf i).toNat))
    case atStart => exact ⟨0, by omega, rfl, S1.out⟩
    case round => 
      obtain ⟨j, hj, rfl, hp⟩ := hrel
      clear S1 S2
      have HI := Lib.hid hp
      by_cases hjk : j < 512
      · have c0 := hp.c0
        have c3 := hp.fr.cell j hjk
        have c4 := hp.fr.frozen j
        have HS := Lib.hid hp.step
        clear hp
        go_wp2
        go_roundw
        case rel => exact ⟨j + 1, by omega, by go_num, HS.out⟩
        case measure => simp [intOf]; omega
      · obtain rfl : j = 512 := by omega
        clear hp
        go_wp2
        go_ret
        exact ⟨_, rfl, (HI.out).done hk, (HI.out).bel⟩
  · go_wp2_with fail
    go_loopw [15] (fun i wr => ∃ (j : Nat), j ≤ 512 ∧ i = .int .i64 j ∧ NI w wr (w.heap.size + 1 + 1) (w.heap.size + 1) w.heap.size 512 j) (fun i _ => (512 - (intOf i).toNat))
    case atStart => exact ⟨0, by omega, rfl, S2.out⟩
    case round => 
      obtain ⟨j, hj, rfl, hp⟩ := hrel
      clear S1 S2
      have HI := Lib.hid hp
      by_cases hjk : j < 512
      · have c0 := hp.c0
        have c3 := hp.fr.cell j hjk
        have c4 := hp.fr.frozen j
        have HS := Lib.hid hp.step
        clear hp
        go_wp2
        go_roundw
        case rel => exact ⟨j + 1, by omega, by go_num, HS.out⟩
        case measure => simp [intOf]; omega
      · obtain rfl : j = 512 := by omega
        clear hp
        go_wp2
        go_ret
        exact ⟨_, rfl, (HI.out).done hk, (HI.out).bel⟩
/-- New: so many frames, all free. -/
theorem new_in (n : Int) (w : World) :
    Calls Try.prog 9 #[.int .i64 n] w fun e w' => ∃ B, e = .returned (.pointer (some ⟨B, 0, none⟩)) ∧ Pl w' B (fun x => w.heap.size ≤ x) (clampN n) (fun _ => false) (-1) ∧ Below w.heap.size w w' := by
  by_cases h0 : n < 0
  · rw [show clampN n = 0 by unfold clampN; omega]; exact new_low h0 w
  · by_cases h1 : 512 < n
    · rw [show clampN n = 512 by unfold clampN; omega]; exact new_high h1 w
    · obtain ⟨n, rfl⟩ := Int.eq_ofNat_of_zero_le (show 0 ≤ n by omega)
      rw [show clampN (n : Nat) = n by unfold clampN; omega]; exact new_mid (by omega) w
end Go.Proofs.Ytfjkomglljcfjaa
