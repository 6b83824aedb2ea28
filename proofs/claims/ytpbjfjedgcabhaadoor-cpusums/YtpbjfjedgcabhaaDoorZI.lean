/-
  cpu's saved, write, store.
-/
import Derived.Test.YtpbjfjedgcabhaaDoorZH
namespace Go.Proofs.YtpbjfjedgcabhaaDoor
open Go.ChangeShapes Go.WideShapes Go.ChangeAt Go.RowKit
open WM CM
set_option maxRecDepth 100000
set_option linter.unusedVariables false

/-! ### what may have turned -/
structure Trn (S : Nat → Prop) (w w' : World) : Prop where
  os : w'.os = w.os
  tape : w'.tape = w.tape
  output : w'.output = w.output
  size : w.heap.size ≤ w'.heap.size
  block : ∀ i, i < w.heap.size → ¬ S i → w'.heap[i]? = w.heap[i]?
theorem Trn.grown {S : Nat → Prop} {w w' : World} {g : Nat} (h : w.grownBy w' (some g)) (hg : S g) : Trn S w w' := ⟨h.os, h.tape, h.output, h.size, fun i hi hs => h.block i hi (by intro e; injection e with e; subst e; exact hs hg)⟩
theorem Trn.below {S : Nat → Prop} {w w' : World} (h : Below w.heap.size w w') : Trn S w w' := ⟨h.os, h.tape, h.output, h.size, fun i hi _ => h.block i hi⟩
theorem Trn.trans {S : Nat → Prop} {a b c : World} (h : Trn S a b) (k : Trn S b c) : Trn S a c :=
  ⟨k.os.trans h.os, k.tape.trans h.tape, k.output.trans h.output, Nat.le_trans h.size k.size, fun i hi hs => (k.block i (Nat.lt_of_lt_of_le hi h.size) hs).trans (h.block i hi hs)⟩
theorem Trn.mono {S T : Nat → Prop} {w w' : World} (h : Trn S w w') (hs : ∀ i, S i → T i) : Trn T w w' := ⟨h.os, h.tape, h.output, h.size, fun i hi ht => h.block i hi (fun hS => ht (hs i hS))⟩
def pgS (L : Ly) (m : MV) (i : Nat) : Prop := ∃ q, q < 32 ∧ m.he q = true ∧ i = L.bk q
theorem Trn.ls {S : Nat → Prop} {w w' : World} {B : Nat} {s : SV} (h : Trn S w w') (hB : ¬ S B) (hl : LS w B s) : LS w' B s := (h.block B hl.lt hB).trans hl
theorem Trn.x2 {S : Nat → Prop} {w w' : World} {N : Nat} {a b : Value} (h : Trn S w w') (hN : ¬ S N) (hx : X2 w N a b) : X2 w' N a b :=
  have hb := h.block N hx.lt hN
  ⟨(World.cell?_of_block (a := ⟨N, 0, none⟩) hb).trans hx.k0, (World.cell?_of_block (a := ⟨N, 1, none⟩) hb).trans hx.k1, Nat.lt_of_lt_of_le hx.lt h.size, fun i => (World.frozen?_of_block (a := ⟨N, i, none⟩) hb).trans (hx.fz i)⟩
theorem Trn.lies {S : Nat → Prop} {w w' : World} {N c a b d : Nat} {n : Int} (h : Trn S w w') (hN : ¬ S N) (hx : Lies w N c a b d n) : Lies w' N c a b d n :=
  have hb := h.block N hx.lt hN
  ⟨(World.cell?_of_block (a := ⟨N, 0, none⟩) hb).trans hx.k0, (World.cell?_of_block (a := ⟨N, 1, none⟩) hb).trans hx.k1, (World.cell?_of_block (a := ⟨N, 2, none⟩) hb).trans hx.k2, (World.cell?_of_block (a := ⟨N, 3, none⟩) hb).trans hx.k3, (World.cell?_of_block (a := ⟨N, 4, none⟩) hb).trans hx.k4,
    Nat.lt_of_lt_of_le hx.lt h.size, fun i => (World.frozen?_of_block (a := ⟨N, i, none⟩) hb).trans (hx.fz i)⟩

/-! ### saved -/
theorem idleS (w : World) : CallsD Tryd.prog 77 #[] .returning w fun e u' w' => e = .returned (.tuple #[]) ∧ u' = .returning ∧ w' = w := by
  refine callsD_of_wpS Tryd.func77 rfl fun c₀ cs hu => ?_
  apply wpS_region
  simp [wpOpsS, go_sem, recoverD, hu, Tryd.ntmps77, bodyPostS, results, Tryd.results77]
  try (cases c₀; simp_all)
theorem nilA_save (L : Ly) (w : World) : (nilAhead 249 54 (memR L) "Save").run Tryd.prog w = .ok (some false) w := by unfold memR; kernel_rfl
theorem method_save (L : Ly) (w : World) : (method 249 54 (memR L) "Save").run Tryd.prog w = .ok (94, memR L) w := by unfold memR; kernel_rfl
theorem saved_no {w : World} {L : Ly} {m : MV} (h : Mm w L m) (ba p : Nat) (hp : p < 32) (hh : m.he p = false ∨ m.wr p = false) (off : Nat) (a : Option Addr) (cap : Nat) (ho : off + 8 ≤ 256) :
    Calls Tryd.prog 73 #[memV L ba, .int .i64 p, .int .i64 off, .slice a 8 cap] w fun e w' => e = .returned (.bool false) ∧ Below w.heap.size w w' := by
  have HR := Lib.hid (fun U (hU : Mm U L m) => memsave_no hU p hp hh off a cap ho)
  have HM := Lib.hid (h.below (below_new w (.cells #[busV L, .int .u64 ba] 70)))
  have HB := Lib.hid (below_new w (.cells #[busV L, .int .u64 ba] 70))
  have hna := nilA_save L
  have hmt := method_save L
  clear h hh ho hp
  unfold memV
  unfold busV at *
  generalize memR L = r at *
  have hmf : ∀ (fn : Fn) (first cap : Array Value) (w : World), (Instr.makeFunc fn first cap).run Tryd.prog w = .ok (.func fn first cap) w := fun _ _ _ _ => rfl
  go_enter_defers Tryd.func73, Tryd.ntmps73
  go_wp2_with fail
  refine (HR.out _ HM.out).mono ?_
  rintro e w1 ⟨rfl, b1⟩
  have HB1 := Lib.hid (below_up HB.out b1)
  go_wp2
  refine leaves_cons (f := 77) (args := #[]) (by simp) (by simp [go_sem]) ?_
  refine (idleS _).mono ?_
  rintro e u' w'' ⟨rfl, rfl, rfl⟩
  simp [Leaves, settle, results, Tryd.results73, go_sem]
  exact HB1.out
theorem saved_yes {w : World} {L : Ly} {m : MV} (h : Mm w L m) (ba p : Nat) (hp : p < 32) (hh : m.he p = true) (hw : m.wr p = true) (off : Nat) (g2 cap : Nat) (f : Nat → Nat) (hf : ∀ i, f i < 256) (ho : off + 8 ≤ 256)
    (hb : ∀ i, i < 8 → w.cell? ⟨g2, i, none⟩ = some (.int .u8 (f i : Nat))) (hg : g2 < w.heap.size) (hne : g2 ≠ L.bk p) :
    Calls Tryd.prog 73 #[memV L ba, .int .i64 p, .int .i64 off, .slice (some ⟨g2, 0, none⟩) 8 cap] w fun e w' => e = .returned (.bool true) ∧ Mm w' L (putB m p off 8 f) ∧ w.grownBy w' (some (L.bk p)) := by
  have hbw := below_new w (.cells #[busV L, .int .u64 ba] 70)
  have HR := Lib.hid (memsave_yes (h.below hbw) p hp hh hw off g2 cap f hf ho (fun i hi => (hbw.cell (p := ⟨g2, i, none⟩) hg).trans (hb i hi)) (by simp; omega) hne)
  have HB := Lib.hid hbw
  have hna := nilA_save L
  have hmt := method_save L
  clear h hh ho hp hb hbw
  unfold memV
  unfold busV at *
  generalize memR L = r at *
  have hmf : ∀ (fn : Fn) (first cap : Array Value) (w : World), (Instr.makeFunc fn first cap).run Tryd.prog w = .ok (.func fn first cap) w := fun _ _ _ _ => rfl
  go_enter_defers Tryd.func73, Tryd.ntmps73
  go_wp2_with fail
  refine (HR.out).mono ?_
  rintro e w1 ⟨rfl, m1, b1⟩
  have HB1 := Lib.hid (grown_trans (grown_below HB.out (some (L.bk p))) b1)
  have HM1 := Lib.hid m1
  go_wp2
  refine leaves_cons (f := 77) (args := #[]) (by simp) (by simp [go_sem]) ?_
  refine (idleS _).mono ?_
  rintro e u' w'' ⟨rfl, rfl, rfl⟩
  simp [Leaves, settle, results, Tryd.results73, go_sem]
  exact ⟨HM1.out, HB1.out⟩

/-! ### write -/
def wrt (m : MV) (ba addr v : Nat) : Option MV :=
  match fdP m ba addr 8 true with
  | none => none
  | some p => if (m.he p && m.wr p) = true then some (putB m p (addr % 256) 8 (byteN v)) else none
theorem write_none {w : World} {L : Ly} {m : MV} (h : Mm w L m) (ba addr v : Nat) (hba : ba < 18446744073709551616) (ha : addr < 18446744073709551616) (hf : fdP m ba addr 8 true = none) :
    Calls Tryd.prog 62 #[memV L ba, .int .u64 addr, .int .u64 v] w fun e w' => e = .returned (.bool false) ∧ Below w.heap.size w w' := by
  have hb := below_new w (.cells #[busV L, .int .u64 ba] 70)
  have HM := Lib.hid (h.below hb)
  have HF := Lib.hid (find_in HM.out ba addr 8 true (.inr rfl) hba ha)
  have HB := Lib.hid hb
  unfold findV at HF
  rw [hf] at HF
  simp only [Option.getD_none, Option.isSome_none] at HF
  unfold memV at *
  generalize busV L = b at *
  clear hb h HM hf
  go_enter Tryd.func62, Tryd.ntmps62
  go_wp2_with fail
  refine (HF.out).mono ?_
  rintro e w1 ⟨rfl, hb1⟩
  have HB1 := Lib.hid (below_up HB.out hb1)
  go_wp2_with fail
  go_quiet (fail)
  go_wp2
  go_ret
  exact ⟨rfl, below_draws HB1.out _⟩
theorem ldM {w : World} {N : Nat} {a b : Value} (h : X2 w N a b) : (loadVar 70 ⟨N, 0, none⟩).run Tryd.prog w = .ok (.agg #[a, b]) w := by
  have h0 := h.k0
  have h1 := h.k1
  simp [go_sem, h0, h1]
/-- The worlds of write's last statement. -/
def wrC (W : World) (L : Ly) (m m' : MV) (x g : Nat) (bytes : Array Value) (N : Nat) (u v : Value) : Nat → World → Prop
  | 0, w' => ∃ n, w' = W.drewN n
  | 1, w' => ∃ n, w' = (W.alloc (.cells bytes 5)).drewN n
  | _, w' => Mm w' L m' ∧ (W.grownBy w' (if x = 0 then none else some g)) ∧ X2 w' N u v
set_option maxHeartbeats 1000000 in
theorem write_some {w : World} {L : Ly} {m : MV} (h : Mm w L m) (ba addr v p : Nat) (hba : ba < 18446744073709551616) (ha : addr < 18446744073709551616) (hf : fdP m ba addr 8 true = some p) :
    Calls Tryd.prog 62 #[memV L ba, .int .u64 addr, .int .u64 v] w fun e w' => e = .returned (.bool (m.he p && m.wr p)) ∧ Mm w' L (if (m.he p && m.wr p) = true then putB m p (addr % 256) 8 (byteN v) else m) ∧ Trn (pgS L m) w w' := by
  have hb := below_new w (.cells #[busV L, .int .u64 ba] 70)
  have HM := Lib.hid (h.below hb)
  have HF := Lib.hid (find_in HM.out ba addr 8 true (.inr rfl) hba ha)
  have HB := Lib.hid hb
  have hp := fdP_lt hf
  have hroom := fdP_room (.inr rfl) hf
  have e0 : fdO addr 8 = addr % 256 := by
    unfold fdO
    unfold fdP at hf
    split at hf
    · cases hf
    · rename_i hz; rw [if_neg hz]
  have hX := x2_new w (busV L) (.int .u64 ba) 70
  have HX := Lib.hid hX
  unfold findV at HF
  rw [hf] at HF
  simp only [Option.getD_some, Option.isSome_some] at HF
  rw [e0] at HF
  have HBY := Lib.hid (fun U => bytes_in v U)
  have hlv := h.lt
  have HBL := Lib.hid h.bl
  -- the call of saved
  have HS : Hid (∀ U n, Mm U L m → X2 U w.heap.size (busV L) (.int .u64 ba) → w.heap.size < U.heap.size → Calls Tryd.prog 73 #[memV L ba, .int .i64 p, .int .i64 (addr % 256 : Nat), .slice (some ⟨U.heap.size, 0, none⟩) 8 8] ((U.alloc (.cells (bytesArr v 8) 5)).drewN n) fun e w' =>
      e = .returned (.bool (m.he p && m.wr p)) ∧ wrC U L m (if (m.he p && m.wr p) = true then putB m p (addr % 256) 8 (byteN v) else m) (if (m.he p && m.wr p) = true then 1 else 0) (L.bk p) (bytesArr v 8) w.heap.size (busV L) (.int .u64 ba) 2 w') := Lib.hid (by
    intro U n hU hXU hlt
    have hbU := below_draws (below_new U (.cells (bytesArr v 8) 5)) n
    have hm2 := hU.below hbU
    cases hc : (m.he p && m.wr p)
    · have hno : m.he p = false ∨ m.wr p = false := by
        cases h1 : m.he p
        · exact .inl rfl
        · rw [h1] at hc; exact .inr (by simpa using hc)
      refine (saved_no hm2 ba p hp hno (addr % 256) _ 8 hroom).mono ?_
      rintro e w' ⟨rfl, hbw⟩
      refine ⟨rfl, hm2.below hbw, ?_, (hXU.later hbU).later hbw⟩
      exact grown_of_below (below_up hbU hbw)
    · obtain ⟨h1, h2⟩ := Bool.and_eq_true_iff.1 hc
      have hne : U.heap.size ≠ L.bk p := by have := hU.bl p hp h1; omega
      refine (saved_yes hm2 ba p hp h1 h2 (addr % 256) U.heap.size 8 (byteN v) (byteN_lt v) hroom (fun i hi => ?_) (by simp [World.drewN]) hne).mono ?_
      · obtain ⟨b, off, e1, e2⟩ := (bytes_at v U).drewN n i hi
        injection e1 with e1
        injection e1 with e1 e1'
        subst e1 e1'
        rw [Nat.zero_add] at e2
        exact e2
      · rintro e w' ⟨rfl, hm3, hg⟩
        refine ⟨rfl, by simpa using hm3, ?_, (hXU.later hbU).kept hg (by have := HBL.out p hp h1; simp; omega)⟩
        exact grown_trans (grown_below hbU _) hg)
  have HT : Hid (∀ U V x, Trn (pgS L m) w U → ((if (m.he p && m.wr p) = true then 1 else 0) = x) → U.grownBy V (if x = 0 then none else some (L.bk p)) → Trn (pgS L m) w V) := Lib.hid (by
    intro U V x hU hx hg
    refine hU.trans ?_
    cases hc : (m.he p && m.wr p)
    · rw [hc] at hx
      obtain rfl : 0 = x := by simpa using hx
      exact ⟨hg.os, hg.tape, hg.output, hg.size, fun i hi _ => hg.block i hi (by simp)⟩
    · rw [hc] at hx
      obtain rfl : 1 = x := by simpa using hx
      exact Trn.grown hg ⟨p, hp, (Bool.and_eq_true_iff.1 hc).1, rfl⟩)
  generalize hmm : (if (m.he p && m.wr p) = true then putB m p (addr % 256) 8 (byteN v) else m) = m' at *
  generalize hxx : (if (m.he p && m.wr p) = true then 1 else 0 : Nat) = x at *
  generalize (m.he p && m.wr p) = ok at *
  generalize addr % 256 = o at *
  generalize bytesArr v 8 = bytes at *
  generalize L.bk p = g at *
  unfold memV at *
  generalize busV L = b at *
  clear hb h hf e0 hroom hX HBL
  go_enter Tryd.func62, Tryd.ntmps62
  go_wp2_with fail
  refine (HF.out).mono ?_
  rintro e W ⟨rfl, hb1⟩
  have HB1 := Lib.hid (below_up HB.out hb1)
  have M1 := Lib.hid ((HM.out).below hb1)
  have X1 := Lib.hid ((HX.out).later hb1)
  have hlt : w.heap.size < W.heap.size := Nat.lt_of_lt_of_le (HX.out).lt hb1.size
  clear hb1 HF HM HX HB
  go_wp2_with fail
  have HXC : Hid (∀ j w', wrC W L m m' x g bytes w.heap.size b (.int .u64 ba) j w' → X2 w' w.heap.size b (.int .u64 ba)) := Lib.hid (fun j w' h' => match j with
    | 0 => by obtain ⟨n, rfl⟩ := h'; exact (X1.out).later (below_draws (Below.refl _ _) n)
    | 1 => by obtain ⟨n, rfl⟩ := h'; exact (X1.out).later (below_draws (below_new _ _) n)
    | j + 2 => h'.2.2)
  refine ZR.wp_region_C (wrC W L m m' x g bytes w.heap.size b (.int .u64 ba)) (fun i => [6, 7].contains i) (by kernel_rfl) (by kernel_rfl) (by kernel_rfl) (by kernel_rfl) ⟨1, rfl⟩ ?_
  iterate 2 (refine RQ.wpT_reads rfl (fun K hK => ?_); go_simp; refine ⟨_, fun _ _ _ => rfl, hK _ ?_⟩; clear hK K)
  refine ZR.valC rfl rfl (.agg #[b, .int .u64 ba]) (fun j w' h' => ZR.run_ld1 70 (.tmp 3) rfl _ _ rfl (ldM (HXC.out j w' h'))) ?_
  go_simp
  iterate 3 (refine RQ.wpT_reads rfl (fun K hK => ?_); go_simp; refine ⟨_, fun _ _ _ => rfl, hK _ ?_⟩; clear hK K)
  refine RQ.wpT_turns rfl rfl _ (ZR.turnsC_ask 74 #[.int .u64 v] (fun w => by simp [go_sem]) (.slice (some ⟨W.heap.size, 0, none⟩) 8 8) (fun w' h' => by
    obtain ⟨n, rfl⟩ := h'
    exact (HBY.out _).mono (fun e w'' q => ⟨q.1, n, q.2.symm⟩))) ?_
  go_simp
  refine RQ.wpT_turns rfl rfl _ (ZR.turnsC_ask 73 #[.agg #[b, .int .u64 ba], .int .i64 p, .int .i64 o, .slice (some ⟨W.heap.size, 0, none⟩) 8 8] (fun w => by simp [go_sem]) (.bool ok) (fun w' h' => by
    obtain ⟨n, rfl⟩ := h'
    exact (HS.out W n M1.out X1.out hlt))) ?_
  go_simp
  iterate 2 (refine RQ.wpT_reads rfl (fun K hK => ?_); go_simp; refine ⟨_, fun _ _ _ => rfl, hK _ ?_⟩; clear hK K)
  refine RQ.wpT_nil ?_
  intro w2 h2
  go_simp
  have H2 : Hid (Mm w2 L m' ∧ Trn (pgS L m) w w2) := Lib.hid ⟨h2.1, HT.out _ _ _ (Trn.below HB1.out) rfl h2.2.1⟩
  clear h2
  go_wp2
  go_ret
  exact ⟨rfl, H2.out⟩
end Go.Proofs.YtpbjfjedgcabhaaDoor
