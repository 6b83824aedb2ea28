/-
  cpu.do and cpu.Step: one instruction of a seat.
-/
import Derived.Test.YtpbjfjedgcabhaaDoorZK
namespace Go.Proofs.YtpbjfjedgcabhaaDoor
open Go.ChangeShapes Go.WideShapes Go.ChangeAt Go.RowKit
open WM CM
set_option maxRecDepth 100000
set_option linter.unusedVariables false

theorem do_in {w : World} {B : Nat} {s : SV} {L : Ly} {m : MV} (h : LS w B s) (hM : Mm w L m) (hs : s.ok) (hst : s.st = 0) (h0 : B ≠ L.M) (h1 : ¬ pgS L m B) (c a b d : Nat) (n : Int) (time me : Nat) (hme : me < 9223372036854775808) (hr : rightB c a b d n = true) :
    Calls Tryd.prog 24 #[.pointer (some ⟨B, 0, none⟩), memV L s.ba, opV c a b d n, .int .u64 time, .int .i64 me] w fun e w' => e = .returned (exV (doV s m c a b d n time me).2.2.1 (doV s m c a b d n time me).2.2.2) ∧ Aft w B L m (doV s m c a b d n time me).1 (doV s m c a b d n time me).2.1 w' := by
  obtain ⟨hc, ha, hb, hd⟩ := right_lt hr
  by_cases e12 : c = 12
  · have H := do_12 h hM hs hst h0 h1 c a b d n time me hme ha hb hd e12
    cases hrd : rd m s.ba (adN s b n) 8 with
    | none =>
      have e : doV s m c a b d n time me = (trapV s 3 (adN s b n), m, exT s 3 (adN s b n), 3) := by unfold doV; rw [if_pos e12, hrd]
      rw [e]; rw [hrd] at H; exact H
    | some v =>
      have e : doV s m c a b d n time me = (nextV (setR s a v), m, 0, 0) := by unfold doV; rw [if_pos e12, hrd]
      rw [e]; rw [hrd] at H; exact H
  by_cases e13 : c = 13
  · have e : doV s m c a b d n time me = (if (wrt m s.ba (adN s b n) (s.r a)).isSome = true then (nextV s, (wrt m s.ba (adN s b n) (s.r a)).getD m, 0, 0) else (trapV s 4 (adN s b n), (wrt m s.ba (adN s b n) (s.r a)).getD m, exT s 4 (adN s b n), 4)) := by unfold doV; rw [if_neg e12, if_pos e13]
    have H := do_13 h hM hs hst h0 h1 c a b d n time me hme ha hb hd e13
    rw [e]
    cases hw : (wrt m s.ba (adN s b n) (s.r a)).isSome
    · simp only [hw, Bool.false_eq_true, if_false] at H ⊢; exact H
    · simp only [hw, if_true] at H ⊢; exact H
  have hn9 : c = 18 ∨ c = 19 → 0 ≤ n ∧ n < 9 := by
    intro hc2
    unfold rightB at hr
    simp only [Bool.and_eq_true, decide_eq_true_eq] at hr
    have h5 := hr.2
    unfold numB numH at h5
    have hN : hasN c = true := by unfold hasN; simp; omega
    rw [hN] at h5
    simp only [if_true] at h5
    rw [if_pos hc2] at h5
    simpa using h5
  by_cases e18 : c = 18
  · have e : doV s m c a b d n time me = (nextV (setR s a (gtN s time me n.toNat)), m, 0, 0) := by unfold doV; rw [if_neg e12, if_neg e13, if_pos e18]
    rw [e]
    have := hn9 (.inl e18)
    exact do_18 h hM hs hst h0 h1 c a b d n time me hme ha hb hd e18 n.toNat (by omega) (by omega)
  by_cases e19 : c = 19
  · have e : doV s m c a b d n time me = (if n.toNat < 7 then (nextV (setV s n.toNat (s.r a)), m, 0, 0) else (trapV s 1 s.pc, m, exT s 1 s.pc, 1)) := by unfold doV; rw [if_neg e12, if_neg e13, if_neg e18, if_pos e19]
    rw [e]
    have := hn9 (.inr e19)
    by_cases h7 : n.toNat < 7
    · rw [if_pos h7]
      exact do_19 h hM hs hst h0 h1 c a b d n time me hme ha hb hd e19 n.toNat (by omega) h7
    · rw [if_neg h7]
      exact do_19n h hM hs hst h0 h1 c a b d n time me hme ha hb hd e19 n.toNat (by omega) (by omega) (by omega)
  by_cases e14 : c = 14 ∨ c = 15 ∨ c = 16
  · have e : doV s m c a b d n time me = (branchV s c a b n, m, 0, 0) := by unfold doV; rw [if_neg e12, if_neg e13, if_neg e18, if_neg e19, if_pos e14]
    rw [e]
    rcases e14 with e14 | e14 | e14
    · have H := do_14 h hM hs hst h0 h1 c a b d n time me hme ha hb hd e14
      rw [← e14] at H; exact H
    · have H := do_15 h hM hs hst h0 h1 c a b d n time me hme ha hb hd e14
      rw [← e14] at H; exact H
    · have H := do_16 h hM hs hst h0 h1 c a b d n time me hme ha hb hd e14
      rw [← e14] at H; exact H
  by_cases e17 : c = 17
  · have e : doV s m c a b d n time me = (jmpV s a b n, m, 0, 0) := by unfold doV; rw [if_neg e12, if_neg e13, if_neg e18, if_neg e19, if_neg e14, if_pos e17]
    rw [e]
    exact do_17 h hM hs hst h0 h1 c a b d n time me hme ha hb hd e17
  by_cases e20 : c = 20
  · have e : doV s m c a b d n time me = (nextV s, m, 2, ((kN n : Nat) : Int)) := by unfold doV; rw [if_neg e12, if_neg e13, if_neg e18, if_neg e19, if_neg e14, if_neg e17, if_pos e20]
    rw [e]
    exact do_20 h hM hs hst h0 h1 c a b d n time me hme ha hb hd e20
  by_cases e21 : c = 21
  · have e : doV s m c a b d n time me = (waitV s, m, waitK s, 0) := by unfold doV; rw [if_neg e12, if_neg e13, if_neg e18, if_neg e19, if_neg e14, if_neg e17, if_neg e20, if_pos e21]
    rw [e]
    exact do_21 h hM hs hst h0 h1 c a b d n time me hme ha hb hd e21
  by_cases e22 : c = 22
  · have e : doV s m c a b d n time me = (backV s, m, 0, 0) := by unfold doV; rw [if_neg e12, if_neg e13, if_neg e18, if_neg e19, if_neg e14, if_neg e17, if_neg e20, if_neg e21, if_pos e22]
    rw [e]
    exact do_22 h hM hs hst h0 h1 c a b d n time me hme ha hb hd e22
  by_cases e00 : c = 0
  · have e : doV s m c a b d n time me = (nextV s, m, 0, 0) := by unfold doV; rw [if_neg e12, if_neg e13, if_neg e18, if_neg e19, if_neg e14, if_neg e17, if_neg e20, if_neg e21, if_neg e22, if_pos e00]
    rw [e]
    exact do_0 h hM hs hst h0 h1 c a b d n time me hme ha hb hd e00
  have e : doV s m c a b d n time me = (nextV (setR s a (reckN s c a b d n)), m, 0, 0) := by unfold doV; rw [if_neg e12, if_neg e13, if_neg e18, if_neg e19, if_neg e14, if_neg e17, if_neg e20, if_neg e21, if_neg e22, if_neg e00]
  rw [e]
  exact do_r h hM hs hst h0 h1 c a b d n time me hme ha hb hd (by omega)

/-! ### Step -/
def lnN (s : SV) : Nat := Lib.ctz 64 (coN s)
def stV (s : SV) (m : MV) (time me : Nat) : SV × MV × Int × Int :=
  if s.st ≠ 0 then (s, m, 5, 0)
  else if s.op = true ∧ coN s ≠ 0 then (trapV (takeV s) (16 + lnN s) 0, m, exT (takeV s) (16 + lnN s) 0, ((16 + lnN s : Nat) : Int))
  else match rd m s.ba s.pc 4 with
    | none => (trapV s 2 s.pc, m, exT s 2 s.pc, 2)
    | some x => if isW x = true then doV s m (pC x) (pA x) (pB x) (pD x) (pN x) time me else (trapV s 1 x, m, exT s 1 x, 1)
theorem rd4_lt {m : MV} (h : ∀ i j, m.bt i j < 256) {ba addr v : Nat} (e : rd m ba addr 4 = some v) : v < 4294967296 := by
  unfold rd at e
  split at e
  · cases e
  · unfold ldw at e
    split at e
    · injection e with e
      subst e
      exact ofN_lt (fun i => m.bt _ (addr % 256 + i)) (fun i => h _ _) 4
    · cases e
theorem nilB (L : Ly) (w : World) : (binOp .eql 65 (busV L) .nilIface).run Tryd.prog w = .ok (.bool false) w := by rfl
theorem step_idle {w : World} {B : Nat} {s : SV} (L : Ly) (h : LS w B s) (hst : s.st ≠ 0) (time me : Nat) :
    Calls Tryd.prog 16 #[.pointer (some ⟨B, 0, none⟩), busV L, .int .u64 time, .int .i64 me] w fun e w' => e = .returned (exV 5 0) ∧ Below w.heap.size w w' := by
  have c1 := h.st'
  have z : ((s.st : Int) != 0) = true := by simp; omega
  have hlt := h.lt
  have hne : ¬ B = w.heap.size := by omega
  have hnB := nilB L
  have HB := Lib.hid (below_new w (.cells #[.int .u8 5, .int .u64 0] 50))
  clear h hst
  unfold exV
  unfold busV at *
  generalize memR L = r at *
  go_enter Tryd.func16, Tryd.ntmps16
  go_wp2
  refine bodyPost_ret (v := .agg #[.int .u8 5, .int .u64 0]) (by simp [results, Tryd.results16, go_sem]) rfl ⟨rfl, HB.out⟩
set_option maxHeartbeats 1000000 in
theorem step_line {w : World} {B : Nat} {s : SV} {L : Ly} {m : MV} (h : LS w B s) (hM : Mm w L m) (hs : s.ok) (hT : TabAt w) (hst : s.st = 0) (h0 : B ≠ L.M) (h1 : ¬ pgS L m B) (ho : s.op = true) (hc : coN s ≠ 0) (time me : Nat) :
    Calls Tryd.prog 16 #[.pointer (some ⟨B, 0, none⟩), busV L, .int .u64 time, .int .i64 me] w fun e w' => e = .returned (exV (exT (takeV s) (16 + lnN s) 0) ((16 + lnN s : Nat) : Int)) ∧ Aft w B L m (trapV (takeV s) (16 + lnN s) 0) m w' := by
  have hbw := below_new w (.cells #[.int .u8 0, .int .u64 0] 50)
  have S1 := (Sn.self h).grow hbw
  have X1 := Lib.hid (x2_new w (.int .u8 0) (.int .u64 0) 50)
  have HK := Lib.hid (take_yes S1.ls (hT.below hbw) hs.pd hs.ma hc ho)
  have c1 := S1.ls.st'
  rw [hst] at c1
  have hlt := h.lt
  have hk := (ctz_bit (coN s) (coN_lt8 s hs.pd) hc).1
  have HU : Hid (∀ k : Nat, k < 8 → IntKind.u64.wrap (16 + IntKind.u64.wrap (k : Int)) = ((16 + k : Nat) : Int)) := Lib.hid (fun k hk => by rw [IntKind.wrap_u64, IntKind.wrap_u64]; omega)
  have HTR := Lib.hid (fun U (hU : LS U B (takeV s)) => ctrap_in hU (16 + lnN s) 0)
  have HO : Hid (∀ w3 t x y, Sn (w.alloc (.cells #[.int .u8 0, .int .u64 0] 50)) w3 B t → Aft w B L m t m ((w3.setCell ⟨w.heap.size, 0, none⟩ x).setCell ⟨w.heap.size, 1, none⟩ y)) :=
    Lib.hid (fun w3 t x y hsn => Aft.out (s := s) hM hlt (Trn.below hbw) (hM.below hbw) rfl hsn h0 h1 (by omega) x y)
  have hnB := nilB L
  unfold lnN at *
  unfold exV at *
  unfold busV at *
  clear h hM hs hT S1 hbw hc ho
  generalize memR L = r at *
  generalize Lib.ctz 64 (coN s) = k at *
  have HUk := Lib.hid (HU.out k hk)
  generalize trapV (takeV s) (16 + k) 0 = tv at *
  generalize exT (takeV s) (16 + k) 0 = tx at *
  generalize takeV s = sv at *
  go_enter Tryd.func16, Tryd.ntmps16
  go_wp2_with fail
  generalize w.alloc (.cells #[.int .u8 0, .int .u64 0] 50) = W at *
  refine (HK.out).mono ?_
  rintro e w1 ⟨rfl, h2⟩
  have H2 := Lib.hid h2
  have X2' := Lib.hid ((X1.out).kept h2.gr (by simp; omega))
  clear h2 X1
  have e16 := Lib.hid (show ((16 + k : Nat) : Int) = 16 + (k : Int) by omega)
  go_wp2_with fail
  rw [← e16.out]
  refine (HTR.out _ (H2.out).ls).mono ?_
  rintro e w4 ⟨rfl, h4⟩
  have h5 := (X2'.out).kept h4.gr (by simp; omega)
  have k0 := h5.k0
  have k1 := h5.k1
  have kf := h5.fz
  have H5 := Lib.hid h5
  have H4 := Lib.hid ((H2.out).trans h4)
  clear h4 h5
  go_wp2
  refine retX (hr := rfl) (hp := rfl) (hx := H5.out) (hR := ⟨rfl, HO.out _ _ _ _ H4.out⟩)
/-- What stands in Step once no line has come. -/
structure SE (w W : World) (B : Nat) (s : SV) (L : Ly) (m : MV) (Nb : Nat) (ba : Nat) (R : Nat) : Prop where
  ls : LS W B s
  mm : Mm W L m
  xb : X2 W Nb (busV L) (.int .u64 ba)
  xr : X2 W R (.int .u8 0) (.int .u64 0)
  bel : Below w.heap.size w W
theorem SE.below {w W W' : World} {B : Nat} {s : SV} {L : Ly} {m : MV} {Nb ba R : Nat} (h : SE w W B s L m Nb ba R) (hb : Below W.heap.size W W') : SE w W' B s L m Nb ba R :=
  ⟨h.ls.below hb, h.mm.below hb, h.xb.later hb, h.xr.later hb, below_up h.bel hb⟩
set_option maxHeartbeats 1000000 in
theorem step_none {w : World} {B : Nat} {s : SV} {L : Ly} {m : MV} (h : LS w B s) (hM : Mm w L m) (hs : s.ok) (hst : s.st = 0) (h0 : B ≠ L.M) (h1 : ¬ pgS L m B) (hc : s.op = false ∨ coN s = 0) (time me : Nat) (hme : me < 9223372036854775808) (hf : rd m s.ba s.pc 4 = none) :
    Calls Tryd.prog 16 #[.pointer (some ⟨B, 0, none⟩), busV L, .int .u64 time, .int .i64 me] w fun e w' => e = .returned (exV (exT s 2 s.pc) 2) ∧ Aft w B L m (trapV s 2 s.pc) m w' := by
  have hbw := below_new w (.cells #[.int .u8 0, .int .u64 0] 50)
  have S1 := (Sn.self h).grow hbw
  have hlt := h.lt
  have HK := Lib.hid (take_none S1.ls (by have := hs.pd; omega) (by have := hs.ma; omega) hc)
  have c1 := S1.ls.st'
  have c2 := S1.ls.ba'
  rw [hst] at c1
  have HE : Hid (∀ q, SE w (((w.alloc (.cells #[.int .u8 0, .int .u64 0] 50)).drewN q).alloc (.cells #[busV L, .int .u64 s.ba] 70)) B s L m (w.heap.size + 1) s.ba w.heap.size) := Lib.hid (fun q => by
    have hb2 := below_new ((w.alloc (.cells #[.int .u8 0, .int .u64 0] 50)).drewN q) (.cells #[busV L, .int .u64 s.ba] 70)
    have hb1 : Below (w.alloc (.cells #[.int .u8 0, .int .u64 0] 50)).heap.size (w.alloc (.cells #[.int .u8 0, .int .u64 0] 50)) ((w.alloc (.cells #[.int .u8 0, .int .u64 0] 50)).drewN q) := below_draws (Below.refl _ _) q
    have x := x2_new ((w.alloc (.cells #[.int .u8 0, .int .u64 0] 50)).drewN q) (busV L) (.int .u64 s.ba) 70
    have e : ((w.alloc (.cells #[.int .u8 0, .int .u64 0] 50)).drewN q).heap.size = w.heap.size + 1 := by simp [World.drewN]
    rw [e] at x
    exact ⟨(S1.ls.below hb1).below hb2, ((hM.below hbw).below hb1).below hb2, x, ((x2_new w _ _ _).later hb1).later hb2, below_up (below_up hbw hb1) hb2⟩)
  have HRD := Lib.hid (fun U (hU : Mm U L m) => read_in hU s.ba s.pc 4 (.inl rfl) hs.ba hs.pc)
  rw [hf] at HRD
  have HTR := Lib.hid (fun U (hU : LS U B s) => ctrap_in hU 2 s.pc)
  have HO : Hid (∀ W w3 t x y, Below w.heap.size w W → Mm W L m → Sn W w3 B t → Aft w B L m t m ((w3.setCell ⟨w.heap.size, 0, none⟩ x).setCell ⟨w.heap.size, 1, none⟩ y)) :=
    Lib.hid (fun W w3 t x y hb hm hsn => Aft.out (s := s) hM hlt (Trn.below hb) hm rfl hsn h0 h1 (by omega) x y)
  have hnB := nilB L
  unfold exV at *
  unfold memV optW at *
  clear h hM hs S1 hbw hc hf
  have HEE : Hid (∀ W, SE w W B s L m (w.heap.size + 1) s.ba w.heap.size → X2 W (w.heap.size + 1) (busV L) (.int .u64 s.ba) ∧ X2 W w.heap.size (.int .u8 0) (.int .u64 0)) := Lib.hid (fun W h => ⟨h.xb, h.xr⟩)
  unfold busV at *
  generalize memR L = r at *
  generalize trapV s 2 s.pc = tv at *
  generalize exT s 2 s.pc = tx at *
  go_enter Tryd.func16, Tryd.ntmps16
  go_wp2_with fail
  refine (HK.out).mono ?_
  rintro e w1 ⟨rfl, q, rfl⟩
  go_wp2_with fail
  have HE1 := HE.out q
  clear HE HK c1 c2
  generalize ((w.alloc (.cells #[.int .u8 0, .int .u64 0] 50)).drewN q).alloc (.cells #[.iface 54 r, .int .u64 s.ba] 70) = W at *
  have EL := fun t => HE1.below (below_later W t)
  have p0 := fun t => (HEE.out _ (EL t)).1.k0
  have p1 := fun t => (HEE.out _ (EL t)).1.k1
  have r2 := fun t => (EL t).ls.pc'
  have HMM := Lib.hid (fun t => (EL t).mm)
  have HE := Lib.hid EL
  clear EL HE1
  refine wp_region_later (by kernel_rfl) (by kernel_rfl) ?_
  repeat (go_big_quiet_step (first | (go_at_call 22; exact later_left (HRD.out _ (HMM.out _)))))
  refine wpQuiet_nil ?_
  rintro _ ⟨t, rfl⟩
  have HE2 := HE.out t
  clear p0 p1 r2 HMM HE
  generalize later W t = W1 at *
  have c1 := HE2.ls.pc'
  have HE3 := Lib.hid HE2
  clear HE2
  go_wp2_with fail
  refine (HTR.out _ (HE3.out).ls).mono ?_
  rintro e w4 ⟨rfl, h4⟩
  have h5 := (HEE.out _ HE3.out).2.kept h4.gr (by simp; omega)
  have k0 := h5.k0
  have k1 := h5.k1
  have kf := h5.fz
  have H5 := Lib.hid h5
  have H4 := Lib.hid h4
  clear h4 h5 c1
  go_wp2
  refine retX (hr := rfl) (hp := rfl) (hx := H5.out) (hR := ⟨rfl, HO.out _ _ _ _ _ (HE3.out).bel (HE3.out).mm H4.out⟩)
theorem doV_he (s : SV) (m : MV) (c a b d : Nat) (n : Int) (time me : Nat) : (doV s m c a b d n time me).2.1.he = m.he := by
  unfold doV
  split
  · split <;> rfl
  · split
    · split
      · exact wrtD_he _ _ _ _
      · exact wrtD_he _ _ _ _
    · split
      · rfl
      · split
        · split <;> rfl
        · split
          · rfl
          · split
            · rfl
            · split
              · rfl
              · split
                · rfl
                · split
                  · rfl
                  · split <;> rfl
set_option maxHeartbeats 1000000 in
theorem step_bad {w : World} {B : Nat} {s : SV} {L : Ly} {m : MV} (h : LS w B s) (hM : Mm w L m) (hs : s.ok) (hst : s.st = 0) (h0 : B ≠ L.M) (h1 : ¬ pgS L m B) (hc : s.op = false ∨ coN s = 0) (time me : Nat) (hme : me < 9223372036854775808) (x : Nat) (hf : rd m s.ba s.pc 4 = some x) (hw : isW x = false) :
    Calls Tryd.prog 16 #[.pointer (some ⟨B, 0, none⟩), busV L, .int .u64 time, .int .i64 me] w fun e w' => e = .returned (exV (exT s 1 x) 1) ∧ Aft w B L m (trapV s 1 x) m w' := by
  have hbw := below_new w (.cells #[.int .u8 0, .int .u64 0] 50)
  have S1 := (Sn.self h).grow hbw
  have hlt := h.lt
  have HK := Lib.hid (take_none S1.ls (by have := hs.pd; omega) (by have := hs.ma; omega) hc)
  have c1 := S1.ls.st'
  have c2 := S1.ls.ba'
  rw [hst] at c1
  have HE : Hid (∀ q, SE w (((w.alloc (.cells #[.int .u8 0, .int .u64 0] 50)).drewN q).alloc (.cells #[busV L, .int .u64 s.ba] 70)) B s L m (w.heap.size + 1) s.ba w.heap.size) := Lib.hid (fun q => by
    have hb2 := below_new ((w.alloc (.cells #[.int .u8 0, .int .u64 0] 50)).drewN q) (.cells #[busV L, .int .u64 s.ba] 70)
    have hb1 : Below (w.alloc (.cells #[.int .u8 0, .int .u64 0] 50)).heap.size (w.alloc (.cells #[.int .u8 0, .int .u64 0] 50)) ((w.alloc (.cells #[.int .u8 0, .int .u64 0] 50)).drewN q) := below_draws (Below.refl _ _) q
    have x := x2_new ((w.alloc (.cells #[.int .u8 0, .int .u64 0] 50)).drewN q) (busV L) (.int .u64 s.ba) 70
    have e : ((w.alloc (.cells #[.int .u8 0, .int .u64 0] 50)).drewN q).heap.size = w.heap.size + 1 := by simp [World.drewN]
    rw [e] at x
    exact ⟨(S1.ls.below hb1).below hb2, ((hM.below hbw).below hb1).below hb2, x, ((x2_new w _ _ _).later hb1).later hb2, below_up (below_up hbw hb1) hb2⟩)
  have HRD := Lib.hid (fun U (hU : Mm U L m) => read_in hU s.ba s.pc 4 (.inl rfl) hs.ba hs.pc)
  rw [hf] at HRD
  have hx := rd4_lt hM.u8 hf
  have HD := Lib.hid (fun U => decode_no x U hx hw)
  have hxl : (x : Int) < 4294967296 := by omega
  have HTR := Lib.hid (fun U (hU : LS U B s) => ctrap_in hU 1 x)
  have HO : Hid (∀ W w3 t x y, Below w.heap.size w W → Mm W L m → Sn W w3 B t → Aft w B L m t m ((w3.setCell ⟨w.heap.size, 0, none⟩ x).setCell ⟨w.heap.size, 1, none⟩ y)) :=
    Lib.hid (fun W w3 t x y hb hm hsn => Aft.out (s := s) hM hlt (Trn.below hb) hm rfl hsn h0 h1 (by omega) x y)
  have hnB := nilB L
  unfold exV at *
  unfold opV at HD
  unfold memV optW at *
  clear h hM hs S1 hbw hc hf hw hx
  have HEE : Hid (∀ W, SE w W B s L m (w.heap.size + 1) s.ba w.heap.size → X2 W (w.heap.size + 1) (busV L) (.int .u64 s.ba) ∧ X2 W w.heap.size (.int .u8 0) (.int .u64 0)) := Lib.hid (fun W h => ⟨h.xb, h.xr⟩)
  unfold busV at *
  generalize memR L = r at *
  generalize trapV s 1 x = tv at *
  generalize exT s 1 x = tx at *
  go_enter Tryd.func16, Tryd.ntmps16
  go_wp2_with fail
  refine (HK.out).mono ?_
  rintro e w1 ⟨rfl, q, rfl⟩
  go_wp2_with fail
  have HE1 := HE.out q
  clear HE HK c1 c2
  generalize ((w.alloc (.cells #[.int .u8 0, .int .u64 0] 50)).drewN q).alloc (.cells #[.iface 54 r, .int .u64 s.ba] 70) = W at *
  have EL := fun t => HE1.below (below_later W t)
  have p0 := fun t => (HEE.out _ (EL t)).1.k0
  have p1 := fun t => (HEE.out _ (EL t)).1.k1
  have r2 := fun t => (EL t).ls.pc'
  have HMM := Lib.hid (fun t => (EL t).mm)
  have HE := Lib.hid EL
  clear EL HE1
  refine wp_region_later (by kernel_rfl) (by kernel_rfl) ?_
  repeat (go_big_quiet_step (first | (go_at_call 22; exact later_left (HRD.out _ (HMM.out _)))))
  refine wpQuiet_nil ?_
  rintro _ ⟨t, rfl⟩
  have HE2 := HE.out t
  clear p0 p1 r2 HMM HE
  generalize later W t = W1 at *
  have HE3 := Lib.hid HE2
  clear HE2
  go_wp2_with fail
  refine (HD.out _).mono ?_
  rintro e w3 ⟨rfl, hb3⟩
  have HE4 := Lib.hid ((HE3.out).below (hb3.alloc (Nat.le_trans (Nat.le_refl _) hb3.size) (.cells #[.int .u8 0, .int .u8 0, .int .u8 0, .int .u8 0, .int .i16 0] 74)))
  clear HE3 hb3
  go_wp2_with fail
  generalize w3.alloc (.cells #[.int .u8 0, .int .u8 0, .int .u8 0, .int .u8 0, .int .i16 0] 74) = W4 at *
  refine (HTR.out _ (HE4.out).ls).mono ?_
  rintro e w4 ⟨rfl, h4⟩
  have h5 := (HEE.out _ HE4.out).2.kept h4.gr (by simp; omega)
  have k0 := h5.k0
  have k1 := h5.k1
  have kf := h5.fz
  have H5 := Lib.hid h5
  have H4 := Lib.hid h4
  clear h4 h5
  go_wp2
  refine retX (hr := rfl) (hp := rfl) (hx := H5.out) (hR := ⟨rfl, HO.out _ _ _ _ _ (HE4.out).bel (HE4.out).mm H4.out⟩)
set_option maxHeartbeats 1000000 in
theorem step_do {w : World} {B : Nat} {s : SV} {L : Ly} {m : MV} (h : LS w B s) (hM : Mm w L m) (hs : s.ok) (hst : s.st = 0) (h0 : B ≠ L.M) (h1 : ¬ pgS L m B) (hc : s.op = false ∨ coN s = 0) (time me : Nat) (hme : me < 9223372036854775808) (x : Nat) (hf : rd m s.ba s.pc 4 = some x) (hw : isW x = true) :
    Calls Tryd.prog 16 #[.pointer (some ⟨B, 0, none⟩), busV L, .int .u64 time, .int .i64 me] w fun e w' => e = .returned (exV (doV s m (pC x) (pA x) (pB x) (pD x) (pN x) time me).2.2.1 (doV s m (pC x) (pA x) (pB x) (pD x) (pN x) time me).2.2.2) ∧ Aft w B L m (doV s m (pC x) (pA x) (pB x) (pD x) (pN x) time me).1 (doV s m (pC x) (pA x) (pB x) (pD x) (pN x) time me).2.1 w' := by
  have hbw := below_new w (.cells #[.int .u8 0, .int .u64 0] 50)
  have S1 := (Sn.self h).grow hbw
  have hlt := h.lt
  have HK := Lib.hid (take_none S1.ls (by have := hs.pd; omega) (by have := hs.ma; omega) hc)
  have c1 := S1.ls.st'
  have c2 := S1.ls.ba'
  rw [hst] at c1
  have HE : Hid (∀ q, SE w (((w.alloc (.cells #[.int .u8 0, .int .u64 0] 50)).drewN q).alloc (.cells #[busV L, .int .u64 s.ba] 70)) B s L m (w.heap.size + 1) s.ba w.heap.size) := Lib.hid (fun q => by
    have hb2 := below_new ((w.alloc (.cells #[.int .u8 0, .int .u64 0] 50)).drewN q) (.cells #[busV L, .int .u64 s.ba] 70)
    have hb1 : Below (w.alloc (.cells #[.int .u8 0, .int .u64 0] 50)).heap.size (w.alloc (.cells #[.int .u8 0, .int .u64 0] 50)) ((w.alloc (.cells #[.int .u8 0, .int .u64 0] 50)).drewN q) := below_draws (Below.refl _ _) q
    have x := x2_new ((w.alloc (.cells #[.int .u8 0, .int .u64 0] 50)).drewN q) (busV L) (.int .u64 s.ba) 70
    have e : ((w.alloc (.cells #[.int .u8 0, .int .u64 0] 50)).drewN q).heap.size = w.heap.size + 1 := by simp [World.drewN]
    rw [e] at x
    exact ⟨(S1.ls.below hb1).below hb2, ((hM.below hbw).below hb1).below hb2, x, ((x2_new w _ _ _).later hb1).later hb2, below_up (below_up hbw hb1) hb2⟩)
  have HRD := Lib.hid (fun U (hU : Mm U L m) => read_in hU s.ba s.pc 4 (.inl rfl) hs.ba hs.pc)
  rw [hf] at HRD
  have hx := rd4_lt hM.u8 hf
  have HD := Lib.hid (fun U => decode_yes x U hx hw)
  have hxl : (x : Int) < 4294967296 := by omega
  have hr : rightB (pC x) (pA x) (pB x) (pD x) (pN x) = true := by unfold isW at hw; exact (Bool.and_eq_true_iff.1 hw).1
  have HDO := Lib.hid (fun U (hU : LS U B s) (hV : Mm U L m) => do_in hU hV hs hst h0 h1 (pC x) (pA x) (pB x) (pD x) (pN x) time me hme hr)
  have hhe : (doV s m (pC x) (pA x) (pB x) (pD x) (pN x) time me).2.1.he = m.he := doV_he _ _ _ _ _ _ _ _ _
  have n3 := pg_new hM (i := w.heap.size) (by omega)
  have HO : Hid (∀ W w3 t m' x y, m'.he = m.he → Below w.heap.size w W → Aft W B L m t m' w3 → Aft w B L m t m' ((w3.setCell ⟨w.heap.size, 0, none⟩ x).setCell ⟨w.heap.size, 1, none⟩ y)) :=
    Lib.hid (fun W w3 t m' x y hhe hb hA => Aft.later hM hlt hb hA hhe (by omega) x y)
  have hnB := nilB L
  unfold exV at *
  unfold opV at HD HDO
  unfold memV optW at *
  clear h hM hs S1 hbw hc hf hw hx hr
  have HEE : Hid (∀ W, SE w W B s L m (w.heap.size + 1) s.ba w.heap.size → X2 W (w.heap.size + 1) (busV L) (.int .u64 s.ba) ∧ X2 W w.heap.size (.int .u8 0) (.int .u64 0)) := Lib.hid (fun W h => ⟨h.xb, h.xr⟩)
  unfold busV at *
  generalize memR L = r at *
  have HHE := Lib.hid hhe
  clear hhe
  generalize (doV s m (pC x) (pA x) (pB x) (pD x) (pN x) time me).2.2.1 = kx at *
  generalize (doV s m (pC x) (pA x) (pB x) (pD x) (pN x) time me).2.2.2 = nx at *
  generalize (doV s m (pC x) (pA x) (pB x) (pD x) (pN x) time me).2.1 = m' at *
  generalize (doV s m (pC x) (pA x) (pB x) (pD x) (pN x) time me).1 = tv at *
  generalize pC x = c at *
  generalize pA x = a at *
  generalize pB x = b at *
  generalize pD x = d at *
  generalize pN x = n at *
  go_enter Tryd.func16, Tryd.ntmps16
  go_wp2_with fail
  refine (HK.out).mono ?_
  rintro e w1 ⟨rfl, q, rfl⟩
  go_wp2_with fail
  have HE1 := HE.out q
  clear HE HK c1 c2
  generalize ((w.alloc (.cells #[.int .u8 0, .int .u64 0] 50)).drewN q).alloc (.cells #[.iface 54 r, .int .u64 s.ba] 70) = W at *
  have EL := fun t => HE1.below (below_later W t)
  have p0 := fun t => (HEE.out _ (EL t)).1.k0
  have p1 := fun t => (HEE.out _ (EL t)).1.k1
  have r2 := fun t => (EL t).ls.pc'
  have HMM := Lib.hid (fun t => (EL t).mm)
  have HE := Lib.hid EL
  clear EL HE1
  refine wp_region_later (by kernel_rfl) (by kernel_rfl) ?_
  repeat (go_big_quiet_step (first | (go_at_call 22; exact later_left (HRD.out _ (HMM.out _)))))
  refine wpQuiet_nil ?_
  rintro _ ⟨t, rfl⟩
  have HE2 := HE.out t
  clear p0 p1 r2 HMM HE
  generalize later W t = W1 at *
  have HE3 := Lib.hid HE2
  clear HE2
  go_wp2_with fail
  refine (HD.out _).mono ?_
  rintro e w3 ⟨rfl, hb3⟩
  have HE4 := Lib.hid ((HE3.out).below (hb3.alloc (Nat.le_trans (Nat.le_refl _) hb3.size) (.cells #[.int .u8 c, .int .u8 a, .int .u8 b, .int .u8 d, .int .i16 n] 74)))
  have hl := lies_new w3 c a b d n 74
  have q0 := hl.k0
  have q1 := hl.k1
  have q2 := hl.k2
  have q3 := hl.k3
  have q4 := hl.k4
  have y0 := (HEE.out _ HE4.out).1.k0
  have y1 := (HEE.out _ HE4.out).1.k1
  clear HE3 hb3 hl
  go_wp2_with fail
  generalize w3.alloc (.cells #[.int .u8 c, .int .u8 a, .int .u8 b, .int .u8 d, .int .i16 n] 74) = W4 at *
  refine (HDO.out _ (HE4.out).ls (HE4.out).mm).mono ?_
  rintro e w4 ⟨rfl, h4⟩
  have h5 := h4.tr.x2 (by rintro (e | e); omega; exact n3 e) (HEE.out _ HE4.out).2
  have k0 := h5.k0
  have k1 := h5.k1
  have kf := h5.fz
  have H5 := Lib.hid h5
  have H4 := Lib.hid h4
  clear h4 h5
  go_wp2
  refine retX (hr := rfl) (hp := rfl) (hx := H5.out) (hR := ⟨rfl, HO.out _ _ _ _ _ _ HHE.out (HE4.out).bel H4.out⟩)
theorem step_in {w : World} {B : Nat} {s : SV} {L : Ly} {m : MV} (h : LS w B s) (hM : Mm w L m) (hs : s.ok) (hT : TabAt w) (h0 : B ≠ L.M) (h1 : ¬ pgS L m B) (time me : Nat) (hme : me < 9223372036854775808) :
    Calls Tryd.prog 16 #[.pointer (some ⟨B, 0, none⟩), busV L, .int .u64 time, .int .i64 me] w fun e w' => e = .returned (exV (stV s m time me).2.2.1 (stV s m time me).2.2.2) ∧ Aft w B L m (stV s m time me).1 (stV s m time me).2.1 w' := by
  by_cases hst : s.st = 0
  · by_cases hc : s.op = true ∧ coN s ≠ 0
    · have e : stV s m time me = (trapV (takeV s) (16 + lnN s) 0, m, exT (takeV s) (16 + lnN s) 0, ((16 + lnN s : Nat) : Int)) := by unfold stV; rw [if_neg (by omega), if_pos hc]
      rw [e]
      exact step_line h hM hs hT hst h0 h1 hc.1 hc.2 time me
    · have hc2 : s.op = false ∨ coN s = 0 := by
        cases ho : s.op
        · exact .inl rfl
        · right
          by_cases h2 : coN s = 0
          · exact h2
          · exact absurd ⟨ho, h2⟩ hc
      cases hf : rd m s.ba s.pc 4 with
      | none =>
        have e : stV s m time me = (trapV s 2 s.pc, m, exT s 2 s.pc, 2) := by unfold stV; rw [if_neg (by omega), if_neg hc, hf]
        rw [e]
        exact step_none h hM hs hst h0 h1 hc2 time me hme hf
      | some x =>
        cases hw : isW x
        · have e : stV s m time me = (trapV s 1 x, m, exT s 1 x, 1) := by unfold stV; rw [if_neg (by omega), if_neg hc, hf]; simp only [hw, Bool.false_eq_true, if_false]
          rw [e]
          exact step_bad h hM hs hst h0 h1 hc2 time me hme x hf hw
        · have e : stV s m time me = doV s m (pC x) (pA x) (pB x) (pD x) (pN x) time me := by unfold stV; rw [if_neg (by omega), if_neg hc, hf]; simp only [hw, if_true]
          rw [e]
          exact step_do h hM hs hst h0 h1 hc2 time me hme x hf hw
  · have e : stV s m time me = (s, m, 5, 0) := by unfold stV; rw [if_pos hst]
    rw [e]
    refine (step_idle L h hst time me).mono ?_
    rintro e w' ⟨rfl, hb⟩
    exact ⟨rfl, h.below hb, hM.below hb, Trn.below hb⟩
end Go.Proofs.YtpbjfjedgcabhaaDoor
