/-
  A guest's memory of layer 12's laws: pages as blocks; the law's own Load, and the document's.
-/
import Derived.Test.YtpbjfjedgcabhaaDoorYA
import Derived.Test.YtpbjfjedgcabhaaDoorLB
import Derived.Test.YtpbjfjedgcabhaaDoorSM
import Derived.Defers
import Derived.Recover
import Derived.Lib.SliceRun
namespace Go.Proofs.YtpbjfjedgcabhaaDoor
open Go.ChangeShapes Go.WideShapes Go.ChangeAt Go.RowKit
set_option maxRecDepth 100000
set_option linter.unusedVariables false

/-- Memory, plain: which pages are there, which may be written, their bytes. -/
structure MV where
  he : Nat → Bool
  wr : Nat → Bool
  bt : Nat → Nat → Nat
/-- Where it lies. -/
structure Ly where
  M : Nat
  bk : Nat → Nat
  cp : Nat → Nat
def pgV (L : Ly) (m : MV) (i : Nat) : Value := if m.he i then .slice (some ⟨L.bk i, 0, none⟩) 256 (L.cp i) else .slice none 0 0
structure Mm (w : World) (L : Ly) (m : MV) : Prop where
  lt : L.M < w.heap.size
  pg : ∀ i, i < 32 → w.cell? ⟨L.M, i, none⟩ = some (pgV L m i)
  wr : ∀ i, i < 32 → w.cell? ⟨L.M, 32 + i, none⟩ = some (.bool (m.wr i))
  bl : ∀ i, i < 32 → m.he i = true → L.bk i < w.heap.size
  bt : ∀ i, i < 32 → m.he i = true → ∀ j, j < 256 → w.cell? ⟨L.bk i, j, none⟩ = some (.int .u8 (m.bt i j : Nat))
  fz : ∀ i, i < 32 → m.he i = true → ∀ j, w.frozen? ⟨L.bk i, j, none⟩ = false
  cp : ∀ i, i < 32 → m.he i = true → 256 ≤ L.cp i
  ap : ∀ i, i < 32 → m.he i = true → L.bk i ≠ L.M
  di : ∀ i k, i < 32 → k < 32 → m.he i = true → m.he k = true → L.bk i = L.bk k → i = k
  u8 : ∀ i j, m.bt i j < 256
theorem Mm.drewN {w : World} {L : Ly} {m : MV} (h : Mm w L m) (n : Nat) : Mm (w.drewN n) L m := ⟨h.lt, h.pg, h.wr, h.bl, h.bt, h.fz, h.cp, h.ap, h.di, h.u8⟩
theorem Mm.below {w w' : World} {L : Ly} {m : MV} (h : Mm w L m) (hb : Below w.heap.size w w') : Mm w' L m :=
  ⟨Nat.lt_of_lt_of_le h.lt hb.size, fun i hi => (hb.cell (p := ⟨L.M, i, none⟩) h.lt).trans (h.pg i hi), fun i hi => (hb.cell (p := ⟨L.M, 32 + i, none⟩) h.lt).trans (h.wr i hi),
    fun i hi hh => Nat.lt_of_lt_of_le (h.bl i hi hh) hb.size, fun i hi hh j hj => (hb.cell (p := ⟨L.bk i, j, none⟩) (h.bl i hi hh)).trans (h.bt i hi hh j hj),
    fun i hi hh j => (hb.frozen (p := ⟨L.bk i, j, none⟩) (h.bl i hi hh)).trans (h.fz i hi hh j), h.cp, h.ap, h.di, h.u8⟩
/-- A block that is none of memory's turned. -/
theorem Mm.kept {w w' : World} {L : Ly} {m : MV} {B : Nat} (h : Mm w L m) (hg : w.grownBy w' (some B)) (h0 : B ≠ L.M) (h1 : ∀ i, i < 32 → m.he i = true → L.bk i ≠ B) : Mm w' L m :=
  ⟨Nat.lt_of_lt_of_le h.lt hg.size, fun i hi => (World.cell?_of_block (a := ⟨L.M, i, none⟩) (hg.block _ h.lt (by intro e; injection e with e; exact h0 e.symm))).trans (h.pg i hi),
    fun i hi => (World.cell?_of_block (a := ⟨L.M, 32 + i, none⟩) (hg.block _ h.lt (by intro e; injection e with e; exact h0 e.symm))).trans (h.wr i hi),
    fun i hi hh => Nat.lt_of_lt_of_le (h.bl i hi hh) hg.size,
    fun i hi hh j hj => (World.cell?_of_block (a := ⟨L.bk i, j, none⟩) (hg.block _ (h.bl i hi hh) (by intro e; injection e with e; exact h1 i hi hh e))).trans (h.bt i hi hh j hj),
    fun i hi hh j => (World.frozen?_of_block (a := ⟨L.bk i, j, none⟩) (hg.block _ (h.bl i hi hh) (by intro e; injection e with e; exact h1 i hi hh e))).trans (h.fz i hi hh j), h.cp, h.ap, h.di, h.u8⟩

/-! ### the document's Load -/
theorem refload_no {w : World} {L : Ly} {m : MV} (h : Mm w L m) (p : Nat) (hp : p < 32) (hh : m.he p = false) (off n : Nat) :
    Calls Tryd.prog 49 #[.pointer (some ⟨L.M, 0, none⟩), .int .i64 p, .int .i64 off, .int .i64 n] w fun e w' => e = .returned (.tuple #[.slice none 0 0, .bool false]) ∧ w = w' := by
  have c1 := h.pg p hp
  unfold pgV at c1
  rw [hh] at c1
  simp only [Bool.false_eq_true, if_false] at c1
  have g1 : (p : Int) < 32 := by omega
  clear h hh
  go_enter Tryd.func49, Tryd.ntmps49
  go_wp2
  go_ret2
  exact ⟨rfl, rfl⟩
theorem refload_yes {w : World} {L : Ly} {m : MV} (h : Mm w L m) (p : Nat) (hp : p < 32) (hh : m.he p = true) (off n : Nat) (ho : off + n ≤ 256) (hn : 0 < n) :
    Calls Tryd.prog 49 #[.pointer (some ⟨L.M, 0, none⟩), .int .i64 p, .int .i64 off, .int .i64 n] w fun e w' => e = .returned (.tuple #[.slice (some ⟨L.bk p, off, none⟩) n (L.cp p - off), .bool true]) ∧ w = w' := by
  have c1 := h.pg p hp
  have c2 := h.cp p hp hh
  unfold pgV at c1
  rw [hh] at c1
  simp only [if_true] at c1
  have g1 : (p : Int) < 32 := by omega
  clear h hh
  generalize L.bk p = B at *
  generalize L.cp p = c at *
  have g2 : ((off : Int) + n) ≤ c := by omega
  have g4 : ¬ c = off := by omega
  have g5 : ¬ (c : Int) - off = 0 := by omega
  have g6 : ¬ (c : Int) = off := by omega
  have HS := Lib.hid (show off + n - off = n by omega)
  go_enter Tryd.func49, Tryd.ntmps49
  go_wp2
  go_ret2
  exact ⟨by rw [← show (off + n - off) = n from HS.out]; simp, rfl⟩

/-! ### the law's Load -/
def memR (L : Ly) : Value := .agg #[.pointer (some ⟨L.M, 0, none⟩)]
theorem memload_no {w : World} {L : Ly} {m : MV} (h : Mm w L m) (p : Nat) (hp : p < 32) (hh : m.he p = false) (off n : Nat) (ho : off + n ≤ 256) :
    Calls Tryd.prog 93 #[memR L, .int .i64 p, .int .i64 off, .int .i64 n] w fun e w' => e = .returned (.tuple #[.slice none 0 0, .int .i64 11]) ∧ Below w.heap.size w w' := by
  have HR := Lib.hid (fun U (hU : Mm U L m) => refload_no hU p hp hh off n)
  have HM := Lib.hid (h.below (below_new w (.cells #[.pointer (some ⟨L.M, 0, none⟩)] 54)))
  have HB := Lib.hid (below_new w (.cells #[.pointer (some ⟨L.M, 0, none⟩)] 54))
  have g1 : (p : Int) < 32 := by omega
  have g2 : (off : Int) ≤ 256 := by omega
  have g3 : (n : Int) ≤ 256 - off := by omega
  clear h hh ho hp
  unfold memR
  go_enter Tryd.func93, Tryd.ntmps93
  go_wp2_with fail
  refine (HR.out _ HM.out).mono ?_
  rintro e w1 ⟨rfl, rfl⟩
  go_wp2
  go_ret2
  exact ⟨rfl, HB.out⟩
theorem memload_yes {w : World} {L : Ly} {m : MV} (h : Mm w L m) (p : Nat) (hp : p < 32) (hh : m.he p = true) (off n : Nat) (ho : off + n ≤ 256) (hn : 0 < n) :
    Calls Tryd.prog 93 #[memR L, .int .i64 p, .int .i64 off, .int .i64 n] w fun e w' =>
      ∃ a c, e = .returned (.tuple #[.slice a n c, .int .i64 0]) ∧ Below w.heap.size w w' ∧ BytesAt w' a n (fun i => m.bt p (off + i)) := by
  have HR := Lib.hid (fun U (hU : Mm U L m) => refload_yes hU p hp hh off n ho hn)
  have hm := h.below (below_new w (.cells #[.pointer (some ⟨L.M, 0, none⟩)] 54))
  have HM := Lib.hid hm
  have HB := Lib.hid (below_new w (.cells #[.pointer (some ⟨L.M, 0, none⟩)] 54))
  have hb : BytesAt (w.alloc (.cells #[.pointer (some ⟨L.M, 0, none⟩)] 54)) (some ⟨L.bk p, off, none⟩) n (fun i => m.bt p (off + i)) :=
    fun i hi => ⟨_, _, rfl, hm.bt p hp hh (off + i) (by omega)⟩
  have HBY := Lib.hid hb
  have g1 : (p : Int) < 32 := by omega
  have g2 : (off : Int) ≤ 256 := by omega
  have g3 : (n : Int) ≤ 256 - off := by omega
  have HN := Lib.hid (show 0 < n ∧ 0 + n ≤ 1000000000 by omega)
  clear h hh hm hb ho hp hn
  generalize (fun i => m.bt p (off + i)) = f at *
  unfold memR
  go_enter Tryd.func93, Tryd.ntmps93
  go_wp2_with fail
  refine (HR.out _ HM.out).mono ?_
  rintro e w1 ⟨rfl, rfl⟩
  generalize L.bk p = B at *
  generalize L.cp p = C at *
  generalize w.alloc (.cells #[.pointer (some ⟨L.M, 0, none⟩)] 54) = W at *
  go_wp2_with (refine wpList_app8 rfl (.const (.slice none 0 0)) (.tmp 47) rfl W.heap.size (.slice none 0 0) 0 (fun _ => 0) rfl (Own.nil _ _ _) _ n _ f rfl HBY.out HN.out.1 HN.out.2 (Nat.le_refl _) ?_; intro v' w' hown hg _)
  obtain ⟨A, cap, rfl, hby⟩ := hown.form
  go_wp2
  go_ret2
  refine ⟨A, cap, ?_, ?_, ?_⟩
  · simp
  · exact (HB.out).grown hg (HB.out).size (fun j hj => by cases hj)
  · intro i hi
    obtain ⟨b, off, e1, e2⟩ := hby i (by omega)
    refine ⟨b, off, e1, ?_⟩
    rw [e2]; unfold putF; rw [if_pos (by omega)]; rfl

/-! ### loaded -/
theorem idleL (w : World) : CallsD Tryd.prog 55 #[] .returning w fun e u' w' => e = .returned (.tuple #[]) ∧ u' = .returning ∧ w' = w := by
  refine callsD_of_wpS Tryd.func55 rfl fun c₀ cs hu => ?_
  apply wpS_region
  simp [wpOpsS, go_sem, recoverD, hu, Tryd.ntmps55, bodyPostS, results, Tryd.results55]
  try (cases c₀; simp_all)
def busV (L : Ly) : Value := .iface 54 (memR L)
def memV (L : Ly) (ba : Nat) : Value := .agg #[busV L, .int .u64 ba]
end Go.Proofs.YtpbjfjedgcabhaaDoor
