/-
  cpu's store.
-/
import Derived.Test.YtpbjfjedgcabhaaDoorZI
namespace Go.Proofs.YtpbjfjedgcabhaaDoor
open Go.ChangeShapes Go.WideShapes Go.ChangeAt Go.RowKit
open WM CM
set_option maxRecDepth 100000
set_option linter.unusedVariables false

theorem write_in {w : World} {L : Ly} {m : MV} (h : Mm w L m) (ba addr v : Nat) (hba : ba < 18446744073709551616) (ha : addr < 18446744073709551616) :
    Calls Tryd.prog 62 #[memV L ba, .int .u64 addr, .int .u64 v] w fun e w' => e = .returned (.bool (wrt m ba addr v).isSome) ∧ Mm w' L ((wrt m ba addr v).getD m) ∧ Trn (pgS L m) w w' := by
  unfold wrt
  cases hf : fdP m ba addr 8 true with
  | none =>
    refine (write_none h ba addr v hba ha hf).mono ?_
    rintro e w' ⟨rfl, hb⟩
    exact ⟨rfl, h.below hb, Trn.below hb⟩
  | some p =>
    refine (write_some h ba addr v p hba ha hf).mono ?_
    rintro e w' ⟨rfl, hm, ht⟩
    cases hc : (m.he p && m.wr p)
    · simp only [hc, Bool.false_eq_true, if_false] at hm ⊢
      exact ⟨rfl, hm, ht⟩
    · simp only [hc, if_true] at hm ⊢
      exact ⟨rfl, hm, ht⟩
theorem wrt_he {m m' : MV} {ba addr v : Nat} (h : wrt m ba addr v = some m') : m'.he = m.he := by
  unfold wrt at h
  split at h
  · cases h
  · split at h
    · injection h with h; subst h; rfl
    · cases h
theorem wrtD_he (m : MV) (ba addr v : Nat) : ((wrt m ba addr v).getD m).he = m.he := by
  cases h : wrt m ba addr v with
  | none => rfl
  | some m' => exact wrt_he h

/-! ### all that stands in store -/
structure SC (W1 : World) (L : Ly) (m mj : MV) (B : Nat) (s : SV) (N c a b d : Nat) (n : Int) (Nb : Nat) (u v : Value) (R : Nat) (w' : World) : Prop where
  ls : LS w' B s
  op : Lies w' N c a b d n
  xb : X2 w' Nb u v
  xr : X2 w' R (.int .u8 0) (.int .u64 0)
  mm : Mm w' L mj
  tr : Trn (pgS L m) W1 w'
theorem SC.turn {W1 : World} {L : Ly} {m mj mk : MV} {B : Nat} {s : SV} {N c a b d : Nat} {n : Int} {Nb : Nat} {u v : Value} {R : Nat} {w' w2 : World} (h : SC W1 L m mj B s N c a b d n Nb u v R w')
    (hB : ¬ pgS L m B) (hN : ¬ pgS L m N) (hNb : ¬ pgS L m Nb) (hR : ¬ pgS L m R) (ht : Trn (pgS L m) w' w2) (hm : Mm w2 L mk) : SC W1 L m mk B s N c a b d n Nb u v R w2 :=
  ⟨ht.ls hB h.ls, ht.lies hN h.op, ht.x2 hNb h.xb, ht.x2 hR h.xr, hm, h.tr.trans ht⟩
theorem pg_new {w : World} {L : Ly} {m : MV} (h : Mm w L m) {i : Nat} (hi : w.heap.size ≤ i) : ¬ pgS L m i := by
  rintro ⟨q, hq, hh, rfl⟩
  have := h.bl q hq hh
  omega
/-- What one instruction leaves. -/
structure Aft (w : World) (B : Nat) (L : Ly) (m : MV) (t : SV) (m' : MV) (w' : World) : Prop where
  ls : LS w' B t
  mm : Mm w' L m'
  tr : Trn (fun i => i = B ∨ pgS L m i) w w'
theorem Aft.of_sn {w w' : World} {B : Nat} {L : Ly} {m : MV} {t : SV} (hM : Mm w L m) (h : Sn w w' B t) (h0 : B ≠ L.M) (h1 : ¬ pgS L m B) : Aft w B L m t m w' :=
  ⟨h.ls, hM.kept h.gr h0 (fun i hi hh e => h1 ⟨i, hi, hh, e.symm⟩), Trn.grown h.gr (.inl rfl)⟩
/-- A turned seat behind turned pages, and an Exit in new memory. -/
theorem Aft.out {w w2 w3 : World} {B : Nat} {L : Ly} {m m' : MV} {s t : SV} {R : Nat} (hM : Mm w L m) (hB : B < w.heap.size) (ht : Trn (pgS L m) w w2) (hm : Mm w2 L m') (hhe : m'.he = m.he) (h : Sn w2 w3 B t) (h0 : B ≠ L.M) (h1 : ¬ pgS L m B) (hR : w.heap.size ≤ R) (a b : Value) :
    Aft w B L m t m' ((w3.setCell ⟨R, 0, none⟩ a).setCell ⟨R, 1, none⟩ b) := by
  have hp : ∀ i, i < 32 → m'.he i = true → L.bk i ≠ B := fun i hi hh e => h1 ⟨i, hi, by rw [← hhe]; exact hh, e.symm⟩
  have hq : ∀ i, i < 32 → m'.he i = true → L.bk i ≠ R := fun i hi hh e => by have := hM.bl i hi (by rw [← hhe]; exact hh); omega
  have hl := hM.lt
  have hm3 := hm.kept h.gr h0 hp
  have hm4 := hm3.kept (grown_setCellS w3 ⟨R, 0, none⟩ a) (by show R ≠ L.M; omega) hq
  have hm5 := hm4.kept (grown_setCellS (w3.setCell ⟨R, 0, none⟩ a) ⟨R, 1, none⟩ b) (by show R ≠ L.M; omega) hq
  refine ⟨?_, hm5, ?_⟩
  · exact (h.ls.kept (grown_setCellS w3 ⟨R, 0, none⟩ a) (by simp; omega)).kept (grown_setCellS (w3.setCell ⟨R, 0, none⟩ a) ⟨R, 1, none⟩ b) (by simp; omega)
  · have t1 : Trn (fun i => i = B ∨ pgS L m i) w w3 := (ht.mono (fun i hi => .inr hi)).trans (Trn.grown h.gr (.inl rfl))
    refine ⟨t1.os, t1.tape, t1.output, by simpa [World.setCell] using t1.size, fun i hi hs => ?_⟩
    rw [Below.heap_setCell _ ⟨R, 1, none⟩ b i (by simp; omega), Below.heap_setCell _ ⟨R, 0, none⟩ a i (by simp; omega)]
    exact t1.block i hi hs
set_option maxHeartbeats 1000000 in
theorem store_in {w : World} {B : Nat} {s : SV} {L : Ly} {m : MV} (h : LS w B s) (hM : Mm w L m) (hs : s.ok) (h0 : B ≠ L.M) (h1 : ¬ pgS L m B) (ba c a b d : Nat) (n : Int) (hba : ba < 18446744073709551616) (ha : a < 16) (hb : b < 16) :
    Calls Tryd.prog 37 #[.pointer (some ⟨B, 0, none⟩), memV L ba, opV c a b d n] w fun e w' =>
      e = .returned (if (wrt m ba (adN s b n) (s.r a)).isSome = true then exV 0 0 else exV (exT s 4 (adN s b n)) 4) ∧
      Aft w B L m (if (wrt m ba (adN s b n) (s.r a)).isSome = true then nextV s else trapV s 4 (adN s b n)) ((wrt m ba (adN s b n) (s.r a)).getD m) w' := by
  obtain ⟨E, X, hbw⟩ := en3 h (busV L) (.int .u64 ba) c a b d n
  have HM := Lib.hid (hM.below hbw)
  have HN := Lib.hid (cnumber_in c a b d n)
  have g1 : (b : Int) < 16 := by omega
  have g0 : (a : Int) < 16 := by omega
  have hlt := h.lt
  have HT : Hid (IntKind.u64.wrap ((s.r b : Int) + (((n % 18446744073709551616).toNat : Nat) : Int)) = ((adN s b n : Nat) : Int)) := Lib.hid (by unfold adN kN; rw [IntKind.wrap_u64]; omega)
  have HR := Lib.hid (fun U (hU : Mm U L m) => write_in hU ba (adN s b n) (s.r a) hba (adN_lt s b n))
  have HC := Lib.hid (fun U (hU : LS U B s) => ctrap_in hU 4 (adN s b n))
  have HXN : Hid (∀ U (hU : LS U B s), Calls Tryd.prog 42 #[.pointer (some ⟨B, 0, none⟩), exV 0 0] U fun e w' => e = .returned (exV 0 0) ∧ Sn U w' B (nextV s)) := Lib.hid (fun U hU => next_in hU 0 0)
  have hhe := wrtD_he m ba (adN s b n) (s.r a)
  have HO : Hid (∀ w2 w3 t x y, Trn (pgS L m) w w2 → Mm w2 L ((wrt m ba (adN s b n) (s.r a)).getD m) → Sn w2 w3 B t → Aft w B L m t ((wrt m ba (adN s b n) (s.r a)).getD m) ((w3.setCell ⟨w.heap.size + 2, 0, none⟩ x).setCell ⟨w.heap.size + 2, 1, none⟩ y)) :=
    Lib.hid (fun w2 w3 t x y ht hm hsn => Aft.out (s := s) hM hlt ht hm hhe hsn h0 h1 (by omega) x y)
  have n1 := pg_new hM (i := w.heap.size) (by omega)
  have n2 := pg_new hM (i := w.heap.size + 1) (by omega)
  have n3 := pg_new hM (i := w.heap.size + 2) (by omega)
  have HBW := Lib.hid hbw
  unfold memV at *
  unfold opV exV at *
  clear h hs hM hbw hhe
  generalize trapV s 4 (adN s b n) = tv at *
  generalize exT s 4 (adN s b n) = tx at *
  generalize (wrt m ba (adN s b n) (s.r a)).isSome = ok at *
  generalize (wrt m ba (adN s b n) (s.r a)).getD m = m' at *
  generalize adN s b n = ad at *
  generalize (n % 18446744073709551616).toNat = k at *
  generalize busV L = bus at *
  go_enter Tryd.func37, Tryd.ntmps37
  go_wp2_with fail
  generalize ((w.alloc (.cells #[bus, .int .u64 ba] 70)).alloc (.cells #[.int .u8 c, .int .u8 a, .int .u8 b, .int .u8 d, .int .i16 n] 74)).alloc (.cells #[.int .u8 0, .int .u64 0] 50) = W at *
  have EL := fun t => E.below (below_later W t)
  have p0 := fun t => (EL t).op.k0
  have p1 := fun t => (EL t).op.k1
  have p2 := fun t => (EL t).op.k2
  have p3 := fun t => (EL t).op.k3
  have p4' := fun t => (EL t).op.k4
  have r2 := fun t => (EL t).sn.ls.reg b hb
  have HE := Lib.hid EL
  have HX := Lib.hid (fun t => X.later (below_later W t))
  have HM2 := Lib.hid (fun t => (HM.out).below (below_later W t))
  have HBW2 := Lib.hid (fun t => below_up HBW.out (below_later W t))
  clear EL E HM X HBW
  refine wp_region_later (by kernel_rfl) (by kernel_rfl) ?_
  repeat (go_big_quiet_step (first | (go_at_call 43; exact later_left (HN.out _))))
  refine wpQuiet_nil ?_
  rintro _ ⟨t, rfl⟩
  have E1 := HE.out t
  have S1 : SC (later W t) L m m B s (w.heap.size + 1) c a b d n w.heap.size bus (.int .u64 ba) (w.heap.size + 2) ((later W t).drewN 1) :=
    ⟨E1.sn.ls, (E1.drewN 1).op, (HX.out t).later (below_draws (Below.refl _ _) 1), (E1.drewN 1).x, (HM2.out t).drewN 1, Trn.below (below_draws (Below.refl _ _) 1)⟩
  have HS1 := Lib.hid S1
  have HB1 := Lib.hid (HBW2.out t)
  clear p0 p1 p2 p3 p4' r2 HE HN HX HM2 E1 S1 HBW2
  generalize later W t = W1 at *
  go_simp
  rw [HT.out]
  go_wp2_with fail
  refine ZR.wp_region_C (fun j w' => SC W1 L m (match j with | 0 => m | _ => m') B s (w.heap.size + 1) c a b d n w.heap.size bus (.int .u64 ba) (w.heap.size + 2) w') (fun i => [9].contains i) (by kernel_rfl) (by kernel_rfl) (by kernel_rfl) (by kernel_rfl) HS1.out ?_
  refine ZR.valC rfl rfl (.agg #[bus, .int .u64 ba]) (fun j w' h' => ZR.run_ld1 70 (.tmp 4) rfl _ _ rfl (ldM h'.xb)) ?_
  go_simp
  iterate 3 (refine RQ.wpT_reads rfl (fun K hK => ?_); go_simp; refine ⟨_, fun _ _ _ => rfl, hK _ ?_⟩; clear hK K)
  refine ZR.valC rfl rfl (.int .u8 a) (fun j w' h' => ZR.run_ld1 5 (.tmp 21) rfl _ _ rfl (ld8 h'.op.k1)) ?_
  go_simp
  iterate 3 (refine RQ.wpT_reads rfl (fun K hK => ?_); go_simp; refine ⟨_, fun _ _ _ => rfl, hK _ ?_⟩; clear hK K)
  refine ZR.valC rfl rfl (.int .u64 (s.r a)) (fun j w' h' => ZR.run_ld1 22 (.tmp 25) rfl _ _ rfl (ld64 (h'.ls.reg a ha))) ?_
  go_simp
  refine RQ.wpT_turns rfl rfl _ (ZR.turnsC_ask 62 #[.agg #[bus, .int .u64 ba], .int .u64 ad, .int .u64 (s.r a)] (fun w => by simp [go_sem]) (.bool ok) (fun w' h' => (HR.out w' h'.mm).mono (fun e w'' q => ⟨q.1, h'.turn h1 n2 n1 n3 q.2.2 q.2.1⟩))) ?_
  go_simp
  iterate 1 (refine RQ.wpT_reads rfl (fun K hK => ?_); go_simp; refine ⟨_, fun _ _ _ => rfl, hK _ ?_⟩; clear hK K)
  refine RQ.wpT_nil ?_
  intro w2 h2
  go_simp
  have H2 : Hid (SC W1 L m m' B s (w.heap.size + 1) c a b d n w.heap.size bus (.int .u64 ba) (w.heap.size + 2) w2) := Lib.hid h2
  clear h2 HS1
  have HT2 := Lib.hid ((Trn.below (S := pgS L m) HB1.out).trans (H2.out).tr)
  cases ok
  · go_wp2_with fail
    refine (HC.out _ (H2.out).ls).mono ?_
    rintro e w4 ⟨rfl, h4⟩
    have h5 := (H2.out).xr.kept h4.gr (by simp; omega)
    have k0 := h5.k0
    have k1 := h5.k1
    have kf := h5.fz
    have H5 := Lib.hid h5
    have H4 := Lib.hid h4
    clear h4 h5
    go_wp2
    refine retX (hr := rfl) (hp := rfl) (hx := H5.out) (hR := ⟨rfl, HO.out _ _ _ _ _ HT2.out (H2.out).mm H4.out⟩)
  · go_wp2_with fail
    refine (HXN.out _ (H2.out).ls).mono ?_
    rintro e w4 ⟨rfl, h4⟩
    have h5 := (H2.out).xr.kept h4.gr (by simp; omega)
    have k0 := h5.k0
    have k1 := h5.k1
    have kf := h5.fz
    have H5 := Lib.hid h5
    have H4 := Lib.hid h4
    clear h4 h5
    go_wp2
    refine retX (hr := rfl) (hp := rfl) (hx := H5.out) (hR := ⟨rfl, HO.out _ _ _ _ _ HT2.out (H2.out).mm H4.out⟩)
end Go.Proofs.YtpbjfjedgcabhaaDoor
