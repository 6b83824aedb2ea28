/-
  cpu's jump, wait, get, set, load.
-/
import Derived.Test.YtpbjfjedgcabhaaDoorZE
namespace Go.Proofs.YtpbjfjedgcabhaaDoor
open Go.ChangeShapes Go.WideShapes Go.ChangeAt Go.RowKit
open WM CM
set_option maxRecDepth 100000
set_option linter.unusedVariables false

theorem ld8 {w : World} {p : Addr} {v : Int} (h : w.cell? p = some (.int .u8 v)) : (loadVar 5 p).run Tryd.prog w = .ok (.int .u8 v) w := by simp [go_sem, h]
theorem ldi16 {w : World} {p : Addr} {v : Int} (h : w.cell? p = some (.int .i16 v)) : (loadVar 27 p).run Tryd.prog w = .ok (.int .i16 v) w := by simp [go_sem, h]

/-! ### jump -/
def jmpV (s : SV) (a b : Nat) (n : Int) : SV := { setR s a ((s.pc + 4) % 18446744073709551616) with pc := (s.r b + kN n) % 18446744073709551616 }
/-- A class of worlds: what stands there, the seat by its stage. -/
def EC (w : World) (B : Nat) (S : Nat → SV) (N c a b d : Nat) (n : Int) (R : Nat) (k : Nat) (w' : World) : Prop := En w w' B (S k) N c a b d n R
/-- Two stages: ahead of a turn, and behind it. -/
def two (s t : SV) : Nat → SV
  | 0 => s
  | _ => t
def two1 (s t : SV) : Nat → SV
  | 0 => s
  | 1 => s
  | _ => t
set_option maxHeartbeats 1000000 in
theorem jump_in {w : World} {B : Nat} {s : SV} (h : LS w B s) (hs : s.ok) (c a b d : Nat) (n : Int) (ha : a < 16) (hb : b < 16) :
    Calls Tryd.prog 41 #[.pointer (some ⟨B, 0, none⟩), opV c a b d n] w fun e w' => e = .returned (exV 0 0) ∧ Sn w w' B (jmpV s a b n) := by
  have E := en2 h c a b d n
  have HN := Lib.hid (cnumber_in c a b d n)
  have g1 : (b : Int) < 16 := by omega
  have g0 : (a : Int) < 16 := by omega
  have hlt := h.lt
  have HT : Hid (IntKind.u64.wrap ((s.r b : Int) + (((n % 18446744073709551616).toNat : Nat) : Int)) = (((s.r b + kN n) % 18446744073709551616 : Nat) : Int)) := Lib.hid (by unfold kN; rw [IntKind.wrap_u64]; omega)
  have HP : Hid (IntKind.u64.wrap ((s.pc : Int) + 4) = (((s.pc + 4) % 18446744073709551616 : Nat) : Int)) := Lib.hid (by rw [IntKind.wrap_u64]; omega)
  have HJ : Hid (∀ U V, Sn U V B (setR s a ((s.pc + 4) % 18446744073709551616)) → Sn U (V.setCell ⟨B, 16, none⟩ (.int .u64 ((s.r b + kN n) % 18446744073709551616 : Nat))) B (jmpV s a b n)) := Lib.hid (fun U V hU => hU.cell 16 _ rfl)
  unfold opV exV at *
  clear h
  generalize jmpV s a b n = j at *
  generalize (s.r b + kN n) % 18446744073709551616 = to at *
  generalize (s.pc + 4) % 18446744073709551616 = p4 at *
  generalize (n % 18446744073709551616).toNat = k at *
  go_enter Tryd.func41, Tryd.ntmps41
  go_wp2_with fail
  generalize (w.alloc (.cells #[.int .u8 c, .int .u8 a, .int .u8 b, .int .u8 d, .int .i16 n] 74)).alloc (.cells #[.int .u8 0, .int .u64 0] 50) = W at *
  have EL := fun t => E.below (below_later W t)
  have p0 := fun t => (EL t).op.k0
  have p1 := fun t => (EL t).op.k1
  have p2 := fun t => (EL t).op.k2
  have p3 := fun t => (EL t).op.k3
  have p4' := fun t => (EL t).op.k4
  have r2 := fun t => (EL t).sn.ls.reg b hb
  have HE := Lib.hid EL
  clear EL E
  refine wp_region_later (by kernel_rfl) (by kernel_rfl) ?_
  repeat (go_big_quiet_step (first | (go_at_call 43; exact later_left (HN.out _))))
  refine wpQuiet_nil ?_
  rintro _ ⟨t, rfl⟩
  have E1 := (HE.out) t
  clear p0 p1 p2 p3 p4' r2 HE HN
  generalize later W t = W1 at *
  go_simp
  rw [HT.out]
  go_wp2_with fail
  refine ZR.wp_region_C (EC w B (two s (setR s a p4)) w.heap.size c a b d n (w.heap.size + 1)) (fun i => [11].contains i) (by kernel_rfl) (by kernel_rfl) (by kernel_rfl) (by kernel_rfl) (E1.drewN 1) ?_
  iterate 2 (refine RQ.wpT_reads rfl (fun K hK => ?_); go_simp; refine ⟨_, fun _ _ _ => rfl, hK _ ?_⟩; clear hK K)
  refine ZR.valC rfl rfl (.int .u8 a) (fun j w' h' => ZR.run_ld1 5 (.tmp 17) rfl _ _ rfl (ld8 h'.op.k1)) ?_
  go_simp
  iterate 3 (refine RQ.wpT_reads rfl (fun K hK => ?_); go_simp; refine ⟨_, fun _ _ _ => rfl, hK _ ?_⟩; clear hK K)
  refine ZR.valC rfl rfl (.int .u64 s.pc) (fun j w' h' => ZR.run_ld1 22 (.tmp 21) rfl _ _ rfl (ld64 (by have := h'.sn.ls.pc'; match j with | 0 => exact this | j + 1 => exact this))) ?_
  go_simp
  iterate 4 (refine RQ.wpT_reads rfl (fun K hK => ?_); go_simp; refine ⟨_, fun _ _ _ => rfl, hK _ ?_⟩; clear hK K)
  rw [HP.out]
  refine RQ.wpT_turns rfl rfl _ (ZR.turnsC_st ⟨B, a, none⟩ (.int .u64 p4) (fun w' h' => ZR.run_st1 22 (.tmp 26) (.tmp 23) rfl _ _ rfl rfl (st64 (h'.sn.ls.reg a ha) (h'.sn.ls.fz a))) (fun w' h' => h'.turn ((Sn.self h'.sn.ls).setR a p4 ha))) ?_
  refine RQ.wpT_nil ?_
  intro w2 h2
  go_simp
  have h2' : En w w2 B (setR s a p4) w.heap.size c a b d n (w.heap.size + 1) := h2
  have c1 := h2'.sn.ls.pc'
  have f1 := h2'.sn.ls.fz 16
  have x0 := h2'.x.k0
  have x1 := h2'.x.k1
  have xf := h2'.x.fz
  have n1 : ¬ B = w.heap.size + 1 := by omega
  have n2 : ¬ w.heap.size + 1 = B := by omega
  have HO := Lib.hid h2'
  clear h2 h2' E1
  have HE2 := Lib.hid ((HO.out).turn (HJ.out _ _ (Sn.self (HO.out).sn.ls)))
  go_wp2
  refine retX (hr := rfl) (hp := rfl) (hx := (HE2.out).x) (hR := ⟨rfl, (HE2.out).out _ _⟩)

/-! ### wait -/
def waitV (s : SV) : SV := if coN s = 0 then nextV { s with st := 1 } else nextV s
def waitK (s : SV) : Int := if coN s = 0 then 3 else 0
theorem wait_in {w : World} {B : Nat} {s : SV} (h : LS w B s) (hs : s.ok) :
    Calls Tryd.prog 44 #[.pointer (some ⟨B, 0, none⟩)] w fun e w' => e = .returned (exV (waitK s) 0) ∧ Sn w w' B (waitV s) := by
  have e := Lib.hid (and32 s.pd s.ma (by have := hs.pd; omega) (by have := hs.ma; omega))
  have S2 := (Sn.self h).grow (below_new w (.cells #[.int .u8 0, .int .u64 0] 50))
  have X := x2_new w (.int .u8 0) (.int .u64 0) 50
  have hlt := h.lt
  have c1 := S2.ls.pd'
  have c2 := S2.ls.ma'
  have c3 := S2.ls.st'
  have f3 := S2.ls.fz 23
  have hne : ¬ B = w.heap.size := by omega
  have hne2 : ¬ w.heap.size = B := by omega
  have hX := Lib.hid X
  have HA : Hid (∀ n, Sn w ((w.alloc (.cells #[.int .u8 0, .int .u64 0] 50)).drewN n) B s) := Lib.hid (fun n => S2.drawn n)
  have HZ : Hid (∀ n, Sn w (((w.alloc (.cells #[.int .u8 0, .int .u64 0] 50)).drewN n).setCell ⟨B, 23, none⟩ (.int .u8 1)) B { s with st := 1 }) := Lib.hid (fun n => (S2.drawn n).cell 23 _ rfl)
  have hX2 : Hid (∀ n, X2 (((w.alloc (.cells #[.int .u8 0, .int .u64 0] 50)).drewN n).setCell ⟨B, 23, none⟩ (.int .u8 1)) w.heap.size (.int .u8 0) (.int .u64 0)) := Lib.hid (fun n => (X.later (below_draws (Below.refl _ _) n)).kept (grown_setCellS _ ⟨B, 23, none⟩ (.int .u8 1)) (by simp; omega))
  have HR : Hid (∀ U t k, Sn w U B t → X2 U w.heap.size (.int .u8 0) (.int .u64 0) → Calls Tryd.prog 42 #[.pointer (some ⟨B, 0, none⟩), .agg #[.int .u8 k, .int .u64 0]] U (fun e w' => e = .returned (.agg #[.int .u8 k, .int .u64 0]) ∧ (Sn w w' B (nextV t) ∧ X2 w' w.heap.size (.int .u8 0) (.int .u64 0)))) :=
    Lib.hid (fun U t k hU hx => (next_in hU.ls k 0).mono (fun e w' h' => ⟨h'.1, hU.trans h'.2, hx.kept h'.2.gr (by simp; omega)⟩))
  have HO : Hid (∀ U t a b, Sn w U B t → Sn w ((U.setCell ⟨w.heap.size, 0, none⟩ a).setCell ⟨w.heap.size, 1, none⟩ b) B t) := Lib.hid (fun U t a b hU => hU.far2 hlt _ a b (Nat.le_refl _))
  rw [show s.pd &&& s.ma = coN s from rfl] at e
  unfold waitK waitV
  by_cases h0 : coN s = 0
  · rw [if_pos h0, if_pos h0]
    rw [h0] at e
    clear h X S2 hs h0
    unfold exV
    go_enter Tryd.func44, Tryd.ntmps44
    go_wp2_with fail
    generalize w.alloc (.cells #[.int .u8 0, .int .u64 0] 50) = W at *
    go_quiet (fail)
    rw [e.out]
    go_wp2_with fail
    refine (HR.out _ _ _ (HZ.out _) (hX2.out _)).mono ?_
    rintro e w2 ⟨rfl, h2, hx⟩
    have k0 := hx.k0
    have k1 := hx.k1
    have kf := hx.fz
    have H2 := Lib.hid h2
    have HX := Lib.hid hx
    clear h2 hx HZ hX2 HR hX HA
    go_wp2
    refine retX (hr := rfl) (hp := rfl) (hx := HX.out) (hR := ⟨rfl, HO.out _ _ _ _ H2.out⟩)
  · rw [if_neg h0, if_neg h0]
    have z : (((coN s : Nat) : Int) != 0) = true := by simp; omega
    have hX3 : Hid (∀ n, X2 ((w.alloc (.cells #[.int .u8 0, .int .u64 0] 50)).drewN n) w.heap.size (.int .u8 0) (.int .u64 0)) := Lib.hid (fun n => X.later (below_draws (Below.refl _ _) n))
    clear h X S2 hs h0
    generalize coN s = q at *
    unfold exV
    go_enter Tryd.func44, Tryd.ntmps44
    go_wp2_with fail
    generalize w.alloc (.cells #[.int .u8 0, .int .u64 0] 50) = W at *
    go_quiet (fail)
    rw [e.out]
    go_wp2_with fail
    refine (HR.out _ _ _ (HA.out _) (hX3.out _)).mono ?_
    rintro e w2 ⟨rfl, h2, hx⟩
    have k0 := hx.k0
    have k1 := hx.k1
    have kf := hx.fz
    have H2 := Lib.hid h2
    have HX := Lib.hid hx
    clear h2 hx HZ hX2 HR hX HA
    go_wp2
    refine retX (hr := rfl) (hp := rfl) (hx := HX.out) (hR := ⟨rfl, HO.out _ _ _ _ H2.out⟩)

/-! ### get -/
theorem i64_small (k : Nat) (hk : k < 9) : IntKind.i64.wrap (k : Int) = (k : Int) := by
  have h : k = 0 ∨ k = 1 ∨ k = 2 ∨ k = 3 ∨ k = 4 ∨ k = 5 ∨ k = 6 ∨ k = 7 ∨ k = 8 := by omega
  rcases h with rfl | rfl | rfl | rfl | rfl | rfl | rfl | rfl | rfl <;> decide
def gtN (s : SV) (time me k : Nat) : Nat := match k with
  | 5 => s.ma
  | 6 => oneN s.op
  | 7 => time
  | 8 => me
  | k => regW s k
theorem gtN_cast (s : SV) (time me k : Nat) (hm : me < 9223372036854775808) (hk : k < 9) : getN s time (me : Int) k = ((gtN s time me k : Nat) : Int) := by
  have h : k = 0 ∨ k = 1 ∨ k = 2 ∨ k = 3 ∨ k = 4 ∨ k = 5 ∨ k = 6 ∨ k = 7 ∨ k = 8 := by omega
  rcases h with rfl | rfl | rfl | rfl | rfl | rfl | rfl | rfl | rfl
  all_goals first | rfl | (show IntKind.u64.wrap (me : Int) = ((me : Nat) : Int); rw [IntKind.wrap_u64]; omega)
theorem run_ldS' {w : World} {B : Nat} {s : SV} (h : LS w B s) {a : Act} {o : Oper} (x : Operand) (ho : o.op = .load 26 x) (hx : a.eval x = .pointer (some ⟨B, 0, none⟩)) : (execOp a.eval o).run Tryd.prog w = .ok (.value s.agg) w := by
  unfold execOp
  simp only [ho, hx, Instr.loadAt, Instr.sureAddr, Sem.run_bind, Sem.run_pure, Result.andThen_ok, run_loadVar_row w B 26 26 s.cells (0, 0) _ h Tryd.underlying26 rfl sizeS]
  rfl
set_option maxHeartbeats 1000000 in
theorem cget_in {w : World} {B : Nat} {s : SV} (h : LS w B s) (hs : s.ok) (c a b d k time me : Nat) (ha : a < 16) (hk : k < 9) (hm : me < 9223372036854775808) :
    Calls Tryd.prog 38 #[.pointer (some ⟨B, 0, none⟩), opV c a b d (k : Int), .int .u64 time, .int .i64 me] w fun e w' => e = .returned (exV 0 0) ∧ Sn w w' B (nextV (setR s a (gtN s time me k))) := by
  have E := en2 h c a b d (k : Int)
  have HG := Lib.hid (fun U => get_yes s hs k hk time (me : Int) U)
  rw [gtN_cast s time me k hm hk] at HG
  have HX := Lib.hid (fun U (hU : LS U B (setR s a (gtN s time me k))) => next_in hU 0 0)
  have g0 : (a : Int) < 16 := by omega
  have g1 : (k : Int) < 9 := by omega
  have hlt := h.lt
  unfold opV exV at *
  clear h hs hm
  generalize gtN s time me k = v at *
  go_enter Tryd.func38, Tryd.ntmps38
  go_wp2_with fail
  generalize (w.alloc (.cells #[.int .u8 c, .int .u8 a, .int .u8 b, .int .u8 d, .int .i16 k] 74)).alloc (.cells #[.int .u8 0, .int .u64 0] 50) = W at *
  refine ZR.wp_region_C (EC w B (two1 s (setR s a v)) w.heap.size c a b d k (w.heap.size + 1)) (fun i => [5, 18].contains i) (by kernel_rfl) (by kernel_rfl) (by kernel_rfl) (by kernel_rfl) (E.drewN 1) ?_
  iterate 2 (refine RQ.wpT_reads rfl (fun K hK => ?_); go_simp; refine ⟨_, fun _ _ _ => rfl, hK _ ?_⟩; clear hK K)
  refine ZR.valC rfl rfl (.int .u8 a) (fun j w' h' => ZR.run_ld1 5 (.tmp 11) rfl _ _ rfl (ld8 h'.op.k1)) ?_
  go_simp
  iterate 2 (refine RQ.wpT_reads rfl (fun K hK => ?_); go_simp; refine ⟨_, fun _ _ _ => rfl, hK _ ?_⟩; clear hK K)
  refine RQ.wpT_turns rfl rfl _ (ZR.turnsC_val s.agg (fun w' h' => run_ldS' h'.sn.ls (.tmp 14) rfl rfl) (fun w' h' => h')) ?_
  unfold SV.agg
  go_simp
  iterate 1 (refine RQ.wpT_reads rfl (fun K hK => ?_); go_simp; refine ⟨_, fun _ _ _ => rfl, hK _ ?_⟩; clear hK K)
  refine ZR.valC rfl rfl (.int .i16 k) (fun j w' h' => ZR.run_ld1 27 (.tmp 16) rfl _ _ rfl (ldi16 h'.op.k4)) ?_
  go_simp
  iterate 3 (refine RQ.wpT_reads rfl (fun K hK => ?_); go_simp; refine ⟨_, fun _ _ _ => rfl, hK _ ?_⟩; clear hK K)
  refine ZR.askC rfl rfl 63 #[.agg s.cells, .int .i64 k, .int .u64 time, .int .i64 me] (fun w => by simp [go_sem]; exact i64_small k hk) _ (fun j w' h' => (HG.out w').mono (fun e w'' q => ⟨q.1, h'.below q.2⟩)) ?_
  go_simp
  iterate 6 (refine RQ.wpT_reads rfl (fun K hK => ?_); go_simp; refine ⟨_, fun _ _ _ => rfl, hK _ ?_⟩; clear hK K)
  refine RQ.wpT_turns rfl rfl _ (ZR.turnsC_st ⟨B, a, none⟩ (.int .u64 v) (fun w' h' => ZR.run_st1 22 (.tmp 26) (.tmp 22) rfl _ _ rfl rfl (st64 (h'.sn.ls.reg a ha) (h'.sn.ls.fz a))) (fun w' h' => h'.turn ((Sn.self h'.sn.ls).setR a v ha))) ?_
  refine RQ.wpT_nil ?_
  intro w2 h2
  go_simp
  have h2' : En w w2 B (setR s a v) w.heap.size c a b d k (w.heap.size + 1) := h2
  have HO := Lib.hid h2'
  clear h2 h2' E
  go_wp2_with fail
  refine (HX.out _ (HO.out).sn.ls).mono ?_
  rintro e w3 ⟨rfl, h3⟩
  have h4 := (HO.out).turn h3
  have k0 := h4.x.k0
  have k1 := h4.x.k1
  have kf := h4.x.fz
  have H4 := Lib.hid h4
  clear h3 h4 HO
  go_wp2
  refine retX (hr := rfl) (hp := rfl) (hx := (H4.out).x) (hR := ⟨rfl, (H4.out).out _ _⟩)

/-! ### set -/
def setV (s : SV) (k v : Nat) : SV := if k < 5 then putW s k v else if k = 5 then { s with ma := v % 256 } else { s with op := decide (v % 2 = 1) }
theorem setV_r (s : SV) (k v : Nat) : (setV s k v).r = s.r := by
  unfold setV
  split
  · unfold putW; split <;> rfl
  · split <;> rfl
theorem setV_st (s : SV) (k v : Nat) : (setV s k v).st = s.st := by
  unfold setV
  split
  · unfold putW; split <;> rfl
  · split <;> rfl
theorem setV_pd (s : SV) (k v : Nat) : (setV s k v).pd = s.pd := by
  unfold setV
  split
  · unfold putW; split <;> rfl
  · split <;> rfl
theorem setV_ma (s : SV) (k v : Nat) : (setV s k v).ma = s.ma ∨ (setV s k v).ma < 256 := by
  unfold setV
  split
  · unfold putW; split <;> exact .inl rfl
  · split
    · exact .inr (Nat.mod_lt _ (by omega))
    · exact .inl rfl
theorem set_in {w : World} {B : Nat} {s : SV} (h : LS w B s) (k : Nat) (hk : k < 7) (v : Nat) (hv : v < 18446744073709551616) : Calls Tryd.prog 64 #[.pointer (some ⟨B, 0, none⟩), .int .i64 k, .int .u64 v] w fun e w' => e = .returned (.bool true) ∧ Sn w w' B (setV s k v) := by
  unfold setV
  by_cases h5 : k < 5
  · rw [if_pos h5]; exact set_whole h k h5 v
  · rw [if_neg h5]
    by_cases h6 : k = 5
    · rw [if_pos h6]; subst h6; exact set_mask h v hv
    · rw [if_neg h6]
      obtain rfl : k = 6 := by omega
      exact set_open h v hv
theorem wakeV_ready {s : SV} (h : s.st = 0) : wakeV s = s := by
  unfold wakeV wakeB; rw [if_neg (by simp [h])]
set_option maxHeartbeats 1000000 in
theorem cset_yes {w : World} {B : Nat} {s : SV} (h : LS w B s) (hs : s.ok) (hst : s.st = 0) (c a b d k : Nat) (ha : a < 16) (hk : k < 7) :
    Calls Tryd.prog 39 #[.pointer (some ⟨B, 0, none⟩), opV c a b d (k : Int)] w fun e w' => e = .returned (exV 0 0) ∧ Sn w w' B (nextV (setV s k (s.r a))) := by
  have E := en2 h c a b d (k : Int)
  have HSE := Lib.hid (fun U (hU : LS U B s) => set_in hU k hk (s.r a) (hs.r a ha))
  have hr := setV_r s k (s.r a)
  have hp : (setV s k (s.r a)).pd < 4294967296 := by rw [setV_pd]; have := hs.pd; omega
  have hm : (setV s k (s.r a)).ma < 4294967296 := by have := hs.ma; rcases setV_ma s k (s.r a) with e | e <;> omega
  have HWK := Lib.hid (fun U (hU : LS U B (setV s k (s.r a))) => wake_in hU hp hm)
  rw [wakeV_ready (by rw [setV_st]; exact hst)] at HWK
  have g0 : (a : Int) < 16 := by omega
  have g1 : (k : Int) < 9 := by omega
  have hlt := h.lt
  unfold opV exV at *
  clear h hp hm hs
  generalize setV s k (s.r a) = t at *
  have HX := Lib.hid (fun U (hU : LS U B t) => next_in hU 0 0)
  unfold exV at HX
  have hta : t.r a = s.r a := by rw [hr]
  go_enter Tryd.func39, Tryd.ntmps39
  go_wp2_with fail
  generalize (w.alloc (.cells #[.int .u8 c, .int .u8 a, .int .u8 b, .int .u8 d, .int .i16 k] 74)).alloc (.cells #[.int .u8 0, .int .u64 0] 50) = W at *
  refine ZR.wp_region_C (EC w B (two s t) w.heap.size c a b d k (w.heap.size + 1)) (fun i => [11].contains i) (by kernel_rfl) (by kernel_rfl) (by kernel_rfl) (by kernel_rfl) (E.drewN 1) ?_
  iterate 2 (refine RQ.wpT_reads rfl (fun K hK => ?_); go_simp; refine ⟨_, fun _ _ _ => rfl, hK _ ?_⟩; clear hK K)
  refine ZR.valC rfl rfl (.int .i16 k) (fun j w' h' => ZR.run_ld1 27 (.tmp 6) rfl _ _ rfl (ldi16 h'.op.k4)) ?_
  go_simp
  iterate 3 (refine RQ.wpT_reads rfl (fun K hK => ?_); go_simp; refine ⟨_, fun _ _ _ => rfl, hK _ ?_⟩; clear hK K)
  refine ZR.valC rfl rfl (.int .u8 a) (fun j w' h' => ZR.run_ld1 5 (.tmp 10) rfl _ _ rfl (ld8 h'.op.k1)) ?_
  go_simp
  iterate 3 (refine RQ.wpT_reads rfl (fun K hK => ?_); go_simp; refine ⟨_, fun _ _ _ => rfl, hK _ ?_⟩; clear hK K)
  refine ZR.valC rfl rfl (.int .u64 (s.r a)) (fun j w' h' => ZR.run_ld1 22 (.tmp 14) rfl _ _ rfl (ld64 (by have := h'.sn.ls.reg a ha; match j with | 0 => exact this | j + 1 => (rw [← hta]; exact this)))) ?_
  go_simp
  refine RQ.wpT_turns rfl rfl _ (ZR.turnsC_ask 64 #[.pointer (some ⟨B, 0, none⟩), .int .i64 k, .int .u64 (s.r a)] (fun w => by simp [go_sem]; exact i64_small k (by omega)) _ (fun w' h' => (HSE.out _ h'.sn.ls).mono (fun e w'' q => ⟨q.1, h'.turn q.2⟩))) ?_
  go_simp
  iterate 1 (refine RQ.wpT_reads rfl (fun K hK => ?_); go_simp; refine ⟨_, fun _ _ _ => rfl, hK _ ?_⟩; clear hK K)
  refine RQ.wpT_nil ?_
  intro w2 h2
  go_simp
  have h2' : En w w2 B t w.heap.size c a b d k (w.heap.size + 1) := h2
  have HO := Lib.hid h2'
  clear h2 h2' E
  go_wp2_with fail
  refine (HWK.out _ (HO.out).sn.ls).mono ?_
  rintro e w3 ⟨rfl, h3⟩
  have HO3 := Lib.hid ((HO.out).turn h3)
  clear h3 HO
  go_wp2_with fail
  refine (HX.out _ (HO3.out).sn.ls).mono ?_
  rintro e w4 ⟨rfl, h4⟩
  have h5 := (HO3.out).turn h4
  have k0 := h5.x.k0
  have k1 := h5.x.k1
  have kf := h5.x.fz
  have H5 := Lib.hid h5
  clear h4 h5 HO3
  go_wp2
  refine retX (hr := rfl) (hp := rfl) (hx := (H5.out).x) (hR := ⟨rfl, (H5.out).out _ _⟩)
set_option maxHeartbeats 1000000 in
theorem cset_no {w : World} {B : Nat} {s : SV} (h : LS w B s) (c a b d k : Nat) (ha : a < 16) (hk : k < 9) (h7 : 7 ≤ k) :
    Calls Tryd.prog 39 #[.pointer (some ⟨B, 0, none⟩), opV c a b d (k : Int)] w fun e w' => e = .returned (exV (exT s 1 s.pc) 1) ∧ Sn w w' B (trapV s 1 s.pc) := by
  have E := en2 h c a b d (k : Int)
  have HSE := Lib.hid (fun U (hU : LS U B s) => set_none hU (k : Int) (by omega) (s.r a))
  have g0 : (a : Int) < 16 := by omega
  have g1 : (k : Int) < 9 := by omega
  have hlt := h.lt
  have HX := Lib.hid (fun U (hU : LS U B s) => ctrap_in hU 1 s.pc)
  unfold opV exV at *
  clear h
  generalize trapV s 1 s.pc = t at *
  generalize exT s 1 s.pc = x at *
  go_enter Tryd.func39, Tryd.ntmps39
  go_wp2_with fail
  generalize (w.alloc (.cells #[.int .u8 c, .int .u8 a, .int .u8 b, .int .u8 d, .int .i16 k] 74)).alloc (.cells #[.int .u8 0, .int .u64 0] 50) = W at *
  refine ZR.wp_region_C (EC w B (fun _ => s) w.heap.size c a b d k (w.heap.size + 1)) (fun i => [99].contains i) (by kernel_rfl) (by kernel_rfl) (by kernel_rfl) (by kernel_rfl) (E.drewN 1) ?_
  iterate 2 (refine RQ.wpT_reads rfl (fun K hK => ?_); go_simp; refine ⟨_, fun _ _ _ => rfl, hK _ ?_⟩; clear hK K)
  refine ZR.valC rfl rfl (.int .i16 k) (fun j w' h' => ZR.run_ld1 27 (.tmp 6) rfl _ _ rfl (ldi16 h'.op.k4)) ?_
  go_simp
  iterate 3 (refine RQ.wpT_reads rfl (fun K hK => ?_); go_simp; refine ⟨_, fun _ _ _ => rfl, hK _ ?_⟩; clear hK K)
  refine ZR.valC rfl rfl (.int .u8 a) (fun j w' h' => ZR.run_ld1 5 (.tmp 10) rfl _ _ rfl (ld8 h'.op.k1)) ?_
  go_simp
  iterate 3 (refine RQ.wpT_reads rfl (fun K hK => ?_); go_simp; refine ⟨_, fun _ _ _ => rfl, hK _ ?_⟩; clear hK K)
  refine ZR.valC rfl rfl (.int .u64 (s.r a)) (fun j w' h' => ZR.run_ld1 22 (.tmp 14) rfl _ _ rfl (ld64 (h'.sn.ls.reg a ha))) ?_
  go_simp
  refine ZR.askC rfl rfl 64 #[.pointer (some ⟨B, 0, none⟩), .int .i64 k, .int .u64 (s.r a)] (fun w => by simp [go_sem]; exact i64_small k (by omega)) _ (fun j w' h' => (HSE.out _ h'.sn.ls).mono (fun e w'' q => ⟨q.1, by rw [← q.2]; exact h'⟩)) ?_
  go_simp
  iterate 1 (refine RQ.wpT_reads rfl (fun K hK => ?_); go_simp; refine ⟨_, fun _ _ _ => rfl, hK _ ?_⟩; clear hK K)
  refine RQ.wpT_nil ?_
  intro w2 h2
  go_simp
  have h2' : En w w2 B s w.heap.size c a b d k (w.heap.size + 1) := h2
  have q1 := h2'.sn.ls.pc'
  have HO := Lib.hid h2'
  clear h2 h2' E
  go_wp2_with fail
  refine (HX.out _ (HO.out).sn.ls).mono ?_
  rintro e w4 ⟨rfl, h4⟩
  have h5 := (HO.out).turn h4
  have k0 := h5.x.k0
  have k1 := h5.x.k1
  have kf := h5.x.fz
  have H5 := Lib.hid h5
  clear h4 h5 HO q1
  go_wp2
  refine retX (hr := rfl) (hp := rfl) (hx := (H5.out).x) (hR := ⟨rfl, (H5.out).out _ _⟩)
end Go.Proofs.YtpbjfjedgcabhaaDoor
