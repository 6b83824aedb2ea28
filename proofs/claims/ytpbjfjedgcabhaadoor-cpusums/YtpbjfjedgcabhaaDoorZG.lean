/-
  cpu's load; the law's Save; saved, write, store.
-/
import Derived.Test.YtpbjfjedgcabhaaDoorZF
namespace Go.Proofs.YtpbjfjedgcabhaaDoor
open Go.ChangeShapes Go.WideShapes Go.ChangeAt Go.RowKit
open WM CM
set_option maxRecDepth 100000
set_option linter.unusedVariables false

theorem en3 {w : World} {B : Nat} {s : SV} (h : LS w B s) (u v : Value) (c a b d : Nat) (n : Int) :
    En w (((w.alloc (.cells #[u, v] 70)).alloc (.cells #[.int .u8 c, .int .u8 a, .int .u8 b, .int .u8 d, .int .i16 n] 74)).alloc (.cells #[.int .u8 0, .int .u64 0] 50)) B s (w.heap.size + 1) c a b d n (w.heap.size + 2) ∧
    X2 (((w.alloc (.cells #[u, v] 70)).alloc (.cells #[.int .u8 c, .int .u8 a, .int .u8 b, .int .u8 d, .int .i16 n] 74)).alloc (.cells #[.int .u8 0, .int .u64 0] 50)) w.heap.size u v ∧
    Below w.heap.size w (((w.alloc (.cells #[u, v] 70)).alloc (.cells #[.int .u8 c, .int .u8 a, .int .u8 b, .int .u8 d, .int .i16 n] 74)).alloc (.cells #[.int .u8 0, .int .u64 0] 50)) := by
  have S1 := (Sn.self h).grow (below_new w (.cells #[u, v] 70))
  have E := en2 S1.ls c a b d n
  have e : (w.alloc (.cells #[u, v] 70)).heap.size = w.heap.size + 1 := by simp
  rw [e] at E
  refine ⟨⟨S1.trans E.sn, E.op, E.x, by omega, by omega, h.lt⟩, ?_, below_more (below_more (below_new _ _) _) _⟩
  exact ((x2_new w u v _).later (below_new _ _)).later (below_new _ _)
def adN (s : SV) (b : Nat) (n : Int) : Nat := (s.r b + kN n) % 18446744073709551616
theorem adN_lt (s : SV) (b : Nat) (n : Int) : adN s b n < 18446744073709551616 := Nat.mod_lt _ (by omega)
set_option maxHeartbeats 1000000 in
theorem load_in {w : World} {B : Nat} {s : SV} {L : Ly} {m : MV} (h : LS w B s) (hM : Mm w L m) (hs : s.ok) (ba c a b d : Nat) (n : Int) (hba : ba < 18446744073709551616) (ha : a < 16) (hb : b < 16) :
    Calls Tryd.prog 36 #[.pointer (some ⟨B, 0, none⟩), memV L ba, opV c a b d n] w fun e w' =>
      e = .returned (match rd m ba (adN s b n) 8 with | none => exV (exT s 3 (adN s b n)) 3 | some _ => exV 0 0) ∧ Sn w w' B (match rd m ba (adN s b n) 8 with | none => trapV s 3 (adN s b n) | some v => nextV (setR s a v)) := by
  obtain ⟨E, X, hbw⟩ := en3 h (busV L) (.int .u64 ba) c a b d n
  have HM := Lib.hid (hM.below hbw)
  have HN := Lib.hid (cnumber_in c a b d n)
  have g1 : (b : Int) < 16 := by omega
  have g0 : (a : Int) < 16 := by omega
  have hlt := h.lt
  have HT : Hid (IntKind.u64.wrap ((s.r b : Int) + (((n % 18446744073709551616).toNat : Nat) : Int)) = ((adN s b n : Nat) : Int)) := Lib.hid (by unfold adN kN; rw [IntKind.wrap_u64]; omega)
  have HR := Lib.hid (fun U (hU : Mm U L m) => read_in hU ba (adN s b n) 8 (.inr rfl) hba (adN_lt s b n))
  have HC := Lib.hid (fun U (hU : LS U B s) => ctrap_in hU 3 (adN s b n))
  have HXN : Hid (∀ v U (hU : LS U B (setR s a v)), Calls Tryd.prog 42 #[.pointer (some ⟨B, 0, none⟩), exV 0 0] U fun e w' => e = .returned (exV 0 0) ∧ Sn U w' B (nextV (setR s a v))) := Lib.hid (fun v U hU => next_in hU 0 0)
  unfold memV at *
  unfold opV exV at *
  clear h hs hM hbw
  generalize trapV s 3 (adN s b n) = tv at *
  generalize exT s 3 (adN s b n) = tx at *
  generalize rd m ba (adN s b n) 8 = r at *
  generalize adN s b n = ad at *
  generalize (n % 18446744073709551616).toNat = k at *
  generalize busV L = bus at *
  go_enter Tryd.func36, Tryd.ntmps36
  go_wp2_with fail
  generalize ((w.alloc (.cells #[bus, .int .u64 ba] 70)).alloc (.cells #[.int .u8 c, .int .u8 a, .int .u8 b, .int .u8 d, .int .i16 n] 74)).alloc (.cells #[.int .u8 0, .int .u64 0] 50) = W at *
  have EL := fun t => E.below (below_later W t)
  have p0 := fun t => (EL t).op.k0
  have p1 := fun t => (EL t).op.k1
  have p2 := fun t => (EL t).op.k2
  have p3 := fun t => (EL t).op.k3
  have p4' := fun t => (EL t).op.k4
  have r2 := fun t => (EL t).sn.ls.reg b hb
  have HE := Lib.hid EL
  have HX := Lib.hid (fun t => X.later (below_later W t))
  have HM2 := Lib.hid (fun t => (HM.out).below (below_later W t))
  clear EL E HM X
  refine wp_region_later (by kernel_rfl) (by kernel_rfl) ?_
  repeat (go_big_quiet_step (first | (go_at_call 43; exact later_left (HN.out _))))
  refine wpQuiet_nil ?_
  rintro _ ⟨t, rfl⟩
  have E1 := Lib.hid ((HE.out) t)
  have X1 := (HX.out) t
  have M1 := Lib.hid ((HM2.out) t)
  clear p0 p1 p2 p3 p4' r2 HE HN HX HM2
  generalize later W t = W1 at *
  go_simp
  rw [HT.out]
  have m0 := X1.k0
  have m1 := X1.k1
  go_wp2_with fail
  refine (HR.out _ M1.out).mono ?_
  rintro e w2 ⟨rfl, hb2⟩
  have E2 := Lib.hid ((E1.out).below hb2)
  clear m0 m1 X1 M1 HR E1
  cases r with
  | none =>
    unfold optW
    go_wp2_with fail
    refine (HC.out _ (E2.out).sn.ls).mono ?_
    rintro e w4 ⟨rfl, h4⟩
    have h5 := (E2.out).turn h4
    have k0 := h5.x.k0
    have k1 := h5.x.k1
    have kf := h5.x.fz
    have H5 := Lib.hid h5
    clear h4 h5 E2
    go_wp2
    refine retX (hr := rfl) (hp := rfl) (hx := (H5.out).x) (hR := ⟨rfl, (H5.out).out _ _⟩)
  | some v =>
    unfold optW
    go_wp2_with fail
    refine ZR.wp_region_C (EC w B (two s (setR s a v)) (w.heap.size + 1) c a b d n (w.heap.size + 2)) (fun i => [7].contains i) (by kernel_rfl) (by kernel_rfl) (by kernel_rfl) (by kernel_rfl) ((E2.out).drewN 1) ?_
    iterate 2 (refine RQ.wpT_reads rfl (fun K hK => ?_); go_simp; refine ⟨_, fun _ _ _ => rfl, hK _ ?_⟩; clear hK K)
    refine ZR.valC rfl rfl (.int .u8 a) (fun j w' h' => ZR.run_ld1 5 (.tmp 32) rfl _ _ rfl (ld8 h'.op.k1)) ?_
    go_simp
    iterate 4 (refine RQ.wpT_reads rfl (fun K hK => ?_); go_simp; refine ⟨_, fun _ _ _ => rfl, hK _ ?_⟩; clear hK K)
    refine RQ.wpT_turns rfl rfl _ (ZR.turnsC_st ⟨B, a, none⟩ (.int .u64 v) (fun w' h' => ZR.run_st1 22 (.tmp 37) (.tmp 34) rfl _ _ rfl rfl (st64 (h'.sn.ls.reg a ha) (h'.sn.ls.fz a))) (fun w' h' => h'.turn ((Sn.self h'.sn.ls).setR a v ha))) ?_
    refine RQ.wpT_nil ?_
    intro w3 h3
    go_simp
    have h3' : En w w3 B (setR s a v) (w.heap.size + 1) c a b d n (w.heap.size + 2) := h3
    have HO := Lib.hid h3'
    clear h3 h3' E2
    go_wp2_with fail
    refine (HXN.out _ _ (HO.out).sn.ls).mono ?_
    rintro e w4 ⟨rfl, h4⟩
    have h5 := (HO.out).turn h4
    have k0 := h5.x.k0
    have k1 := h5.x.k1
    have kf := h5.x.fz
    have H5 := Lib.hid h5
    clear h4 h5 HO
    go_wp2
    refine retX (hr := rfl) (hp := rfl) (hx := (H5.out).x) (hR := ⟨rfl, (H5.out).out _ _⟩)
end Go.Proofs.YtpbjfjedgcabhaaDoor
