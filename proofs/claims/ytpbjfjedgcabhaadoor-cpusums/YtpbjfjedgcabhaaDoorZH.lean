/-
  The law's Save; cpu's saved, write, store.
-/
import Derived.Test.YtpbjfjedgcabhaaDoorZG
namespace Go.Proofs.YtpbjfjedgcabhaaDoor
open Go.ChangeShapes Go.WideShapes Go.ChangeAt Go.RowKit
open WM CM
set_option maxRecDepth 100000
set_option linter.unusedVariables false

/-! ### a page, some of whose bytes are others -/
def putB (m : MV) (p off n : Nat) (f : Nat → Nat) : MV := { m with bt := fun q j => if q = p ∧ off ≤ j ∧ j < off + n then f (j - off) else m.bt q j }
structure SvI (W : World) (g off : Nat) (old f : Nat → Nat) (k : Nat) (w' : World) : Prop where
  gr : W.grownBy w' (some g)
  cell : ∀ j, j < 256 → w'.cell? ⟨g, j, none⟩ = some (.int .u8 ((if off ≤ j ∧ j < off + k then f (j - off) else old j : Nat) : Int))
  fz : ∀ j, w'.frozen? ⟨g, j, none⟩ = false
theorem SvI.drewN {W : World} {g off : Nat} {old f : Nat → Nat} {k : Nat} {w' : World} (h : SvI W g off old f k w') (n : Nat) : SvI W g off old f k (w'.drewN n) := ⟨grown_drawn h.gr n, h.cell, h.fz⟩
theorem SvI.next {W : World} {g off : Nat} {old f : Nat → Nat} {k : Nat} {w' : World} (h : SvI W g off old f k w') (hk : off + k < 256) : SvI W g off old f (k + 1) (w'.setCell ⟨g, off + k, none⟩ (.int .u8 (f k : Nat))) := by
  refine ⟨grown_trans h.gr (grown_setCellS w' ⟨g, off + k, none⟩ _), fun j hj => ?_, fun j => ?_⟩
  · by_cases e : j = off + k
    · subst e
      rw [World.cell?_setCell_same' w' _ _ (by rw [h.cell _ hj]; rfl), if_pos (by omega), show off + k - off = k by omega]
    · rw [World.cell?_setCell_other _ _ _ _ (by simp <;> omega), h.cell j hj]
      by_cases e2 : off ≤ j ∧ j < off + k
      · rw [if_pos e2, if_pos (by omega)]
      · rw [if_neg e2, if_neg (by omega)]
  · rw [World.frozen?_setCell]; exact h.fz j
theorem SvI.mem {W w' : World} {L : Ly} {m : MV} {p off n : Nat} {f : Nat → Nat} (hM : Mm W L m) (hp : p < 32) (hh : m.he p = true) (hf : ∀ i, f i < 256) (h : SvI W (L.bk p) off (m.bt p) f n w') : Mm w' L (putB m p off n f) := by
  have hx : ∀ q, q < 32 → m.he q = true → q ≠ p → w'.heap[L.bk q]? = W.heap[L.bk q]? := fun q hq hhq hne => h.gr.block _ (hM.bl q hq hhq) (by intro e; injection e with e; exact hne (hM.di q p hq hp hhq hh e))
  have hm : w'.heap[L.M]? = W.heap[L.M]? := h.gr.block _ hM.lt (by intro e; injection e with e; exact hM.ap p hp hh e.symm)
  refine ⟨Nat.lt_of_lt_of_le hM.lt h.gr.size, fun i hi => (World.cell?_of_block (a := ⟨L.M, i, none⟩) hm).trans (hM.pg i hi), fun i hi => (World.cell?_of_block (a := ⟨L.M, 32 + i, none⟩) hm).trans (hM.wr i hi), fun i hi hhi => Nat.lt_of_lt_of_le (hM.bl i hi hhi) h.gr.size, fun q hq hhq j hj => ?_, fun q hq hhq j => ?_, hM.cp, hM.ap, hM.di, fun q j => ?_⟩
  · unfold putB
    by_cases e : q = p
    · subst e
      rw [h.cell j hj]
      by_cases e2 : off ≤ j ∧ j < off + n
      · rw [if_pos e2]; simp [e2]
      · rw [if_neg e2]; simp [e2]
    · rw [World.cell?_of_block (a := ⟨L.bk q, j, none⟩) (hx q hq hhq e), hM.bt q hq hhq j hj]
      simp [e]
  · by_cases e : q = p
    · subst e; exact h.fz j
    · rw [World.frozen?_of_block (a := ⟨L.bk q, j, none⟩) (hx q hq hhq e)]; exact hM.fz q hq hhq j
  · unfold putB
    simp only
    split
    · exact hf _
    · exact hM.u8 q j

theorem ldP {w : World} {p : Addr} {v : Option Addr} (h : w.cell? p = some (.pointer v)) : (loadVar 35 p).run Tryd.prog w = .ok (.pointer v) w := by simp [go_sem, h]
theorem ldB {w : World} {p : Addr} {v : Option Addr} {n c : Nat} (h : w.cell? p = some (.slice v n c)) : (loadVar 28 p).run Tryd.prog w = .ok (.slice v n c) w := by simp [go_sem, h]
theorem st8 {w : World} {p : Addr} {u : Value} {v : Int} (h : w.cell? p = some u) (hf : w.frozen? p = false) : (storeVar 5 p (.int .u8 v)).run Tryd.prog w = .ok () (w.setCell p (.int .u8 v)) := by simp [go_sem, h, hf]

/-! ### the law's Save -/
theorem memsave_no {w : World} {L : Ly} {m : MV} (h : Mm w L m) (p : Nat) (hp : p < 32) (hh : m.he p = false ∨ m.wr p = false) (off : Nat) (a : Option Addr) (cap : Nat) (ho : off + 8 ≤ 256) :
    Calls Tryd.prog 94 #[memR L, .int .i64 p, .int .i64 off, .slice a 8 cap] w fun e w' => e = .returned (.int .i64 11) ∧ Below w.heap.size w w' := by
  have hm := h.below (below_new w (.cells #[.pointer (some ⟨L.M, 0, none⟩)] 54))
  have c1 := hm.pg p hp
  have c2 := hm.wr p hp
  have HB := Lib.hid (below_new w (.cells #[.pointer (some ⟨L.M, 0, none⟩)] 54))
  have hne : ¬ L.M = w.heap.size := by have := h.lt; omega
  unfold pgV at c1
  unfold memR
  have g1 : (p : Int) < 32 := by omega
  have g2 : (off : Int) ≤ 248 := by omega
  cases hhe : m.he p
  · rw [hhe] at c1
    simp only [Bool.false_eq_true, if_false] at c1
    clear h hm hh hhe c2
    go_enter Tryd.func94, Tryd.ntmps94
    go_wp2
    go_ret
    exact ⟨rfl, HB.out⟩
  · have hw : m.wr p = false := by
      rcases hh with e | e
      · rw [hhe] at e; cases e
      · exact e
    rw [hhe] at c1
    rw [hw] at c2
    simp only [if_true] at c1
    clear h hm hh hhe hw
    go_enter Tryd.func94, Tryd.ntmps94
    go_wp2
    go_ret
    exact ⟨rfl, HB.out⟩
theorem memsave_yes {w : World} {L : Ly} {m : MV} (h : Mm w L m) (p : Nat) (hp : p < 32) (hh : m.he p = true) (hw : m.wr p = true) (off : Nat) (g2 cap : Nat) (f : Nat → Nat) (hf : ∀ i, f i < 256) (ho : off + 8 ≤ 256)
    (hb : ∀ i, i < 8 → w.cell? ⟨g2, i, none⟩ = some (.int .u8 (f i : Nat))) (hg : g2 < w.heap.size) (hne : g2 ≠ L.bk p) :
    Calls Tryd.prog 94 #[memR L, .int .i64 p, .int .i64 off, .slice (some ⟨g2, 0, none⟩) 8 cap] w fun e w' => e = .returned (.int .i64 0) ∧ Mm w' L (putB m p off 8 f) ∧ w.grownBy w' (some (L.bk p)) := by
  have hbw := below_new w (.cells #[.pointer (some ⟨L.M, 0, none⟩)] 54)
  have hm := h.below hbw
  have c1 := hm.pg p hp
  have c2 := hm.wr p hp
  have hnM : ¬ L.M = w.heap.size := by have := h.lt; omega
  unfold pgV at c1
  unfold memR
  rw [hh] at c1
  rw [hw] at c2
  simp only [if_true] at c1
  have q1 : (p : Int) < 32 := by omega
  have q2 : (off : Int) ≤ 248 := by omega
  have hcp := h.cp p hp hh
  have hap := h.ap p hp hh
  have hbl := h.bl p hp hh
  have HI : Hid (SvI (w.alloc (.cells #[.pointer (some ⟨L.M, 0, none⟩)] 54)) (L.bk p) off (m.bt p) f 0 (w.alloc (.cells #[.pointer (some ⟨L.M, 0, none⟩)] 54))) :=
    Lib.hid ⟨grown_self _ _, fun j hj => by rw [if_neg (by omega)]; exact hm.bt p hp hh j hj, fun j => hm.fz p hp hh j⟩
  have HF : Hid (∀ w', SvI (w.alloc (.cells #[.pointer (some ⟨L.M, 0, none⟩)] 54)) (L.bk p) off (m.bt p) f 8 w' → Mm w' L (putB m p off 8 f) ∧ w.grownBy w' (some (L.bk p))) :=
    Lib.hid (fun w' hI => ⟨SvI.mem hm hp hh hf hI, grown_trans (grown_below hbw _) hI.gr⟩)
  have HC : Hid (∀ w', (w.alloc (.cells #[.pointer (some ⟨L.M, 0, none⟩)] 54)).grownBy w' (some (L.bk p)) → w'.cell? ⟨L.M, p, none⟩ = some (.slice (some ⟨L.bk p, 0, none⟩) 256 (L.cp p)) ∧ w'.cell? ⟨w.heap.size, 0, none⟩ = some (.pointer (some ⟨L.M, 0, none⟩)) ∧ ∀ i, i < 8 → w'.cell? ⟨g2, i, none⟩ = some (.int .u8 (f i : Nat))) := Lib.hid (fun w' hg' => by
    refine ⟨(World.cell?_of_block (a := ⟨L.M, p, none⟩) (hg'.block _ hm.lt (by intro e; injection e with e; exact hap e.symm))).trans c1, (World.cell?_of_block (a := ⟨w.heap.size, 0, none⟩) (hg'.block w.heap.size (by simp) (by intro e; have e2 : w.heap.size = L.bk p := Option.some.inj e; omega))).trans (by simp), fun i hi => ?_⟩
    exact (World.cell?_of_block (a := ⟨g2, i, none⟩) (hg'.block _ (by simp; omega) (by intro e; injection e with e; exact hne e))).trans ((hbw.cell (p := ⟨g2, i, none⟩) hg).trans (hb i hi)))
  clear h hm hh hw hb hbw
  generalize L.bk p = g at *
  generalize L.cp p = c at *
  generalize m.bt p = old at *
  generalize L.M = M at *
  go_enter Tryd.func94, Tryd.ntmps94
  go_wp2
  generalize w.alloc (.cells #[.pointer (some ⟨M, 0, none⟩)] 54) = W at *
  go_loopw [9] (fun i wr => ∃ k : Nat, k ≤ 8 ∧ i = .int .i64 k ∧ SvI W g off old f k wr) (fun i _ => 8 - (intOf i).toNat)
  case atStart => exact ⟨0, by omega, rfl, HI.out⟩
  case round =>
    obtain ⟨k, hk, rfl, hI⟩ := hrel
    have HIk := Lib.hid hI
    clear hI
    by_cases hlt : k < 8
    · have hWR : Hid (IntKind.i64.wrap ((off : Int) + (k : Int)) = ((off + k : Nat) : Int)) := Lib.hid (by rw [IntKind.wrap_i64]; omega)
      have hok : ((off + k : Nat) : Int) < 256 := by omega
      have hof : off + k < 256 := by omega
      have HNX : Hid (∀ w', SvI W g off old f k w' → SvI W g off old f (k + 1) (w'.setCell ⟨g, off + k, none⟩ (.int .u8 (f k : Nat)))) := Lib.hid (fun w' h => h.next (by omega))
      generalize off + k = oq at *
      go_wp2_with fail
      refine ZR.wp_region_C (fun j w' => SvI W g off old f (k + j) w') (fun i => [15].contains i) (by kernel_rfl) (by kernel_rfl) (by kernel_rfl) (by kernel_rfl) ((HIk.out).drewN 1) ?_
      have HCk : Hid (∀ j w', SvI W g off old f (k + j) w' → w'.cell? ⟨M, p, none⟩ = some (.slice (some ⟨g, 0, none⟩) 256 c) ∧ w'.cell? ⟨w.heap.size, 0, none⟩ = some (.pointer (some ⟨M, 0, none⟩)) ∧ ∀ i, i < 8 → w'.cell? ⟨g2, i, none⟩ = some (.int .u8 (f i : Nat))) := Lib.hid (fun j w' h => HC.out w' h.gr)
      iterate 1 (refine RQ.wpT_reads rfl (fun K hK => ?_); go_simp; refine ⟨_, fun _ _ _ => rfl, hK _ ?_⟩; clear hK K)
      refine ZR.valC rfl rfl (.pointer (some ⟨M, 0, none⟩)) (fun j w' h' => ZR.run_ld1 35 (.tmp 56) rfl _ _ rfl (ldP (HCk.out j w' h').2.1)) ?_
      go_simp
      iterate 4 (refine RQ.wpT_reads rfl (fun K hK => ?_); go_simp; refine ⟨_, fun _ _ _ => rfl, hK _ ?_⟩; clear hK K)
      refine ZR.valC rfl rfl (.slice (some ⟨g, 0, none⟩) 256 c) (fun j w' h' => ZR.run_ld1 28 (.tmp 61) rfl _ _ rfl (ldB (HCk.out j w' h').1)) ?_
      go_simp
      iterate 3 (refine RQ.wpT_reads rfl (fun K hK => ?_); go_simp; refine ⟨_, fun _ _ _ => rfl, hK _ ?_⟩; clear hK K)
      rw [hWR.out]
      iterate 3 (refine RQ.wpT_reads rfl (fun K hK => ?_); go_simp; refine ⟨_, fun _ _ _ => rfl, hK _ ?_⟩; clear hK K)
      refine ZR.valC rfl rfl (.int .u8 (f k : Nat)) (fun j w' h' => ZR.run_ld1 5 (.tmp 68) rfl _ _ rfl (ld8 ((HCk.out j w' h').2.2 k hlt))) ?_
      go_simp
      iterate 1 (refine RQ.wpT_reads rfl (fun K hK => ?_); go_simp; refine ⟨_, fun _ _ _ => rfl, hK _ ?_⟩; clear hK K)
      refine RQ.wpT_turns rfl rfl _ (ZR.turnsC_st ⟨g, oq, none⟩ (.int .u8 (f k : Nat)) (fun w' h' => ZR.run_st1 5 (.tmp 70) (.tmp 69) rfl _ _ rfl rfl (st8 (h'.cell oq hof) (h'.fz _))) (fun w' h' => HNX.out w' h')) ?_
      refine RQ.wpT_nil ?_
      intro w2 h2
      go_simp
      have H2 : Hid (SvI W g off old f (k + 1) w2) := Lib.hid h2
      clear h2 HIk
      go_wp2
      go_roundw
      case rel => exact ⟨k + 1, by omega, by go_num, H2.out⟩
      case measure => simp [intOf]; omega
    · obtain rfl : k = 8 := by omega
      go_wp2
      go_ret
      exact ⟨rfl, HF.out _ HIk.out⟩
end Go.Proofs.YtpbjfjedgcabhaaDoor
