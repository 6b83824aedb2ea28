/-
  The law's some: its walk.
-/
import Derived.Test.YtpbjfjedgcabhaaDoorZM
import Derived.Laws.Build
namespace Go.Proofs.YtpbjfjedgcabhaaDoor
open Go.ChangeShapes Go.WideShapes Go.ChangeAt Go.RowKit
open WM CM
set_option maxRecDepth 100000
set_option linter.unusedVariables false

theorem und8 : Tryd.prog.underlying 28 = some (.slice 5) := by kernel_rfl
theorem one8 : (Tryd.prog.info? 5).map (·.size) = some 1 := by kernel_rfl
def memZ : Array Value := (List.replicate 32 (Value.slice none 0 0) ++ List.replicate 32 (Value.bool false)).toArray
theorem builtZ : Tryd.prog.built 47 [] = some memZ := by kernel_rfl
theorem memZ_p (i : Nat) (hi : i < 32) : memZ[i]? = some (.slice none 0 0) := by
  unfold memZ
  rw [List.getElem?_toArray, List.getElem?_append, List.length_replicate, if_pos hi, List.getElem?_replicate, if_pos hi]
theorem memZ_w (i : Nat) (hi : i < 32) : memZ[32 + i]? = some (.bool false) := by
  unfold memZ
  rw [List.getElem?_toArray, List.getElem?_append, List.length_replicate, if_neg (by omega), List.getElem?_replicate, if_pos (by omega)]
theorem cell_of {w : World} {B : Nat} {cs : Array Value} {T : TypeId} (h : w.heap[B]? = some (.cells cs T)) (i : Nat) : w.cell? ⟨B, i, none⟩ = cs[i]? := by simp [World.cell?, h]
theorem frozen_of {w : World} {B : Nat} {cs : Array Value} {T : TypeId} (h : w.heap[B]? = some (.cells cs T)) (i : Nat) : w.frozen? ⟨B, i, none⟩ = false := by simp [World.frozen?, h]
theorem si_start (w : World) (hr wt np nq : Nat) (fp fq : Nat → Nat) (hfp : ∀ i, fp i < 256) (hfq : ∀ i, fq i < 256) :
    SI w ((w.alloc (.cells memZ 47)).alloc (.cells memZ 47)) ⟨w.heap.size, fun _ => 0, fun _ => 0⟩ ⟨w.heap.size + 1, fun _ => 0, fun _ => 0⟩ (svM hr wt np nq fp fq 0) := by
  have hu : ∀ i j, (svM hr wt np nq fp fq 0).bt i j < 256 := by
    intro i j
    show (if i % 2 = 0 then padF fp np j else padF fq nq j) < 256
    split
    · exact padF_lt hfp _ _
    · exact padF_lt hfq _ _
  have hz : ∀ i, (svM hr wt np nq fp fq 0).he i = false := fun i => by simp [svM]
  have hwz : ∀ i, (svM hr wt np nq fp fq 0).wr i = false := fun i => by simp [svM]
  have h1 := heap_alloc2_old w (.cells memZ 47) (.cells memZ 47)
  have h2 := heap_alloc2_new w (.cells memZ 47) (.cells memZ 47)
  have c1 : ∀ i, ((w.alloc (.cells memZ 47)).alloc (.cells memZ 47)).cell? ⟨w.heap.size, i, none⟩ = memZ[i]? := fun i => cell_of h1 i
  have c2 : ∀ i, ((w.alloc (.cells memZ 47)).alloc (.cells memZ 47)).cell? ⟨w.heap.size + 1, i, none⟩ = memZ[i]? := fun i => cell_of h2 i
  have k1 : ∀ i, ((w.alloc (.cells memZ 47)).alloc (.cells memZ 47)).frozen? ⟨w.heap.size, i, none⟩ = false := fun i => frozen_of h1 i
  have k2 : ∀ i, ((w.alloc (.cells memZ 47)).alloc (.cells memZ 47)).frozen? ⟨w.heap.size + 1, i, none⟩ = false := fun i => frozen_of h2 i
  have nh : ∀ {P : Prop} (i : Nat), (svM hr wt np nq fp fq 0).he i = true → P := fun i h => by rw [hz i] at h; cases h
  refine ⟨⟨by simp; omega, fun i hi => ?_, fun i hi => ?_, fun i _ h => nh i h, fun i _ h => nh i h, fun i _ h => nh i h, fun i _ h => nh i h, fun i _ h => nh i h, fun i _ _ _ h => nh i h, hu⟩,
    ⟨by simp, fun i hi => ?_, fun i hi => ?_, fun i _ h => nh i h, fun i _ h => nh i h, fun i _ h => nh i h, fun i _ h => nh i h, fun i _ h => nh i h, fun i _ _ _ h => nh i h, hu⟩, k1, k2, rfl, rfl, fun i _ h => nh i h, fun i _ h => nh i h, fun i _ _ _ h => nh i h, below_more (below_new _ _) _⟩
  · rw [c1, memZ_p i hi]; unfold pgV; rw [hz i]; rfl
  · rw [c1, memZ_w i hi, hwz i]
  · rw [c2, memZ_p i hi]; unfold pgV; rw [hz i]; rfl
  · rw [c2, memZ_w i hi, hwz i]
/-- append([]byte(nil), s...) of a page, as one step of a region that draws its order. -/
theorem step_app256 {ops : Array Oper} {o : Oper} {a : Act} {w : World} {K : Act → World → Prop} {Q : Exit → Act → World → Prop} {E : Prop} (hgd : o.guard = none) (s x : Operand)
    (ho : o.op = .call { callee := .builtin .append, args := #[s, x], argTypes := #[28, 28] }) (hs : a.eval s = .slice none 0 0)
    (A : Option Addr) (c : Nat) (p : Nat → Nat) (hx : a.eval x = .slice A 256 c) (hb : BytesAt w A 256 p)
    (h : ∀ r c' w', Pg w' r p → w.heap.size ≤ r → 256 ≤ c' → w.grownBy w' none → K (a.put o.dst (.slice (some ⟨r, 0, none⟩) 256 c')) w') :
    if Region.wanted o (yielded ops a.tmps) = true then Oper.wp Tryd.prog o a w K Q else E := by
  have hw : Region.wanted o (yielded ops a.tmps) = true := by simp [Region.wanted, hgd]
  rw [if_pos hw]
  have hu : Tryd.prog.underlying 28 = some (.slice 5) := by kernel_rfl
  have hi : (Tryd.prog.info? 5).map (fun i => (i.zero, i.size, i.bytes)) = some (some (.int .u8 0), 1, 1) := by kernel_rfl
  obtain ⟨i, hi, hz, h1, h2⟩ := info_parts hi
  obtain ⟨b, off, rfl, _⟩ := hb 0 (by decide)
  have hsrc : ∀ j u, (rowV p 256)[j]? = some u → w.cell? ((⟨b, off, none⟩ : Addr).add j) = some u := by
    intro j u hj
    obtain ⟨hjm, rfl⟩ := rowV_some hj
    obtain ⟨b', off', e, hc⟩ := hb j hjm
    injection e with e
    injection e with e1 e2
    subst e1 e2
    rw [← hc]
    congr 1
    unfold Addr.add
    split <;> simp_all
  obtain ⟨v', w', hrun, h3, h4, _, h5⟩ := run_append_own_at (P := Tryd.prog) w w.heap.size 28 o.type 5 i (.int .u8 0) 1 1 hu hi hz h1 h2 rfl (by omega) (.slice none 0 0) 0 [] (World.ownsRow_nil _ _ _ _) ⟨b, off, none⟩ 256 c (rowV p 256) (by rw [rowV_length]) hsrc (rowV_one p 256) (by unfold maxLen; omega) (by omega) (Nat.le_refl _)
  rw [Nat.zero_add, List.nil_append] at h3
  have hown : Own w' w.heap.size v' 256 p := h3
  obtain ⟨r, c', rfl, h6, h7, h8, h9⟩ := hown.place (by omega)
  have hcap : 256 ≤ c' := by
    obtain ⟨_, ⟨e, _⟩ | ⟨g, cap, cur, e, hb, hg, hnc, _⟩⟩ := h3
    · cases e
    · injection e with e1 e2 e3
      omega
  unfold Oper.wp execOp
  simp only [ho, resolve, invoke, builtin, Sem.run_bind, Sem.run_pure, Result.andThen_ok, List.map_toArray, List.map_cons, List.map_nil, hs, hx, hrun]
  exact h r c' w' ⟨h7, fun j hj => h8 j hj, h9⟩ h6 hcap h4
theorem ldb {w : World} {p : Addr} {v : Bool} (h : w.cell? p = some (.bool v)) : (loadVar 4 p).run Tryd.prog w = .ok (.bool v) w := by simp [go_sem, h]
theorem stb {w : World} {p : Addr} {u : Value} {v : Bool} (h : w.cell? p = some u) (hf : w.frozen? p = false) : (storeVar 4 p (.bool v)).run Tryd.prog w = .ok () (w.setCell p (.bool v)) := by simp [go_sem, h, hf]
/-- All that stands once a page is made twice. -/
structure SK (W : World) (M1 M2 : Nat) (c1 c2 : Nat → Value) (g1 g2 : Nat) (f : Nat → Nat) (w' : World) : Prop where
  j : SJ W M1 M2 c1 c2 w'
  p1 : Pg w' g1 f
  p2 : Pg w' g2 f
theorem SK.drewN {W : World} {M1 M2 : Nat} {c1 c2 : Nat → Value} {g1 g2 : Nat} {f : Nat → Nat} {w' : World} (h : SK W M1 M2 c1 c2 g1 g2 f w') (n : Nat) : SK W M1 M2 c1 c2 g1 g2 f (w'.drewN n) :=
  have hg : w'.grownBy (w'.drewN n) none := ⟨rfl, rfl, rfl, Nat.le_refl _, fun _ _ _ => rfl⟩
  ⟨h.j.kept hg (fun g e => by cases e), h.p1.kept hg (by simp), h.p2.kept hg (by simp)⟩
theorem SK.set1 {W : World} {M1 M2 : Nat} {c1 c2 : Nat → Value} {g1 g2 : Nat} {f : Nat → Nat} {w' : World} (h : SK W M1 M2 c1 c2 g1 g2 f w') (hne : M1 ≠ M2) (n1 : g1 ≠ M1) (n2 : g2 ≠ M1) (i : Nat) (hi : i < 64) (v : Value) : SK W M1 M2 (upd c1 i v) c2 g1 g2 f (w'.setCell ⟨M1, i, none⟩ v) :=
  ⟨h.j.set1 hne i hi v, h.p1.kept (grown_setCellS w' ⟨M1, i, none⟩ v) (by simpa using n1), h.p2.kept (grown_setCellS w' ⟨M1, i, none⟩ v) (by simpa using n2)⟩
theorem SK.set2 {W : World} {M1 M2 : Nat} {c1 c2 : Nat → Value} {g1 g2 : Nat} {f : Nat → Nat} {w' : World} (h : SK W M1 M2 c1 c2 g1 g2 f w') (hne : M1 ≠ M2) (n1 : g1 ≠ M2) (n2 : g2 ≠ M2) (i : Nat) (hi : i < 64) (v : Value) : SK W M1 M2 c1 (upd c2 i v) g1 g2 f (w'.setCell ⟨M2, i, none⟩ v) :=
  ⟨h.j.set2 hne i hi v, h.p1.kept (grown_setCellS w' ⟨M2, i, none⟩ v) (by simpa using n1), h.p2.kept (grown_setCellS w' ⟨M2, i, none⟩ v) (by simpa using n2)⟩

/-! ### the walk -/
theorem shr_mod (x k : Nat) : ((x : Int) / 2 ^ k % 2) = ((x / 2 ^ k % 2 : Nat) : Int) := by simp
theorem shr_tmod (x k : Nat) : ((x : Int) / 2 ^ k).tmod 2 = (x : Int) / 2 ^ k % 2 := by
  have e : (x : Int) / 2 ^ k = ((x / 2 ^ k : Nat) : Int) := by simp
  rw [e]
  exact Int.tmod_eq_emod_of_nonneg (Int.natCast_nonneg _)
theorem bit_eq0 (x k : Nat) : (((x : Int) / 2 ^ k % 2) == 0) = !bitB x k := by
  rw [shr_mod]
  have h : x / 2 ^ k % 2 = 0 ∨ x / 2 ^ k % 2 = 1 := by omega
  unfold bitB
  rcases h with e | e <;> rw [e] <;> rfl
theorem bit_eq1 (x k : Nat) : (((x : Int) / 2 ^ k % 2) == 1) = bitB x k := by
  rw [shr_mod]
  have h : x / 2 ^ k % 2 = 0 ∨ x / 2 ^ k % 2 = 1 := by omega
  unfold bitB
  rcases h with e | e <;> rw [e] <;> rfl
set_option maxHeartbeats 4000000 in
theorem some_in (here wt : Nat) (ap aq : Option Addr) (np nq cp cq : Nat) (fp fq : Nat → Nat) (hfp : ∀ i, fp i < 256) (hfq : ∀ i, fq i < 256) (hnp : np ≤ 256) (hnq : nq ≤ 256) (w : World) (hp : BytesAt w ap np fp) (hq : BytesAt w aq nq fq) :
    Calls Tryd.prog 14 #[.int .u32 here, .int .u32 wt, .slice ap np cp, .slice aq nq cq] w fun e w' =>
      ∃ L1 L2, e = .returned (.tuple #[.pointer (some ⟨L1.M, 0, none⟩), .pointer (some ⟨L2.M, 0, none⟩)]) ∧ SI w w' L1 L2 (svM here wt np nq fp fq 32) := by
  have HP := Lib.hid (fun w' (hb : Below w.heap.size w w') => hp.kept hb)
  have HQ := Lib.hid (fun w' (hb : Below w.heap.size w w') => hq.kept hb)
  have HSI := Lib.hid (si_start w here wt np nq fp fq hfp hfq)
  have HFP := Lib.hid hfp
  have HFQ := Lib.hid hfq
  have hmk : ∀ U : World, (Instr.makeSlice 28 (.int .i64 256) (.int .i64 256)).run Tryd.prog U = .ok (.slice (some ⟨U.heap.size, 0, none⟩) 256 256) (U.alloc (.cells (rowV (fun _ => 0) 256).toArray 5)) := fun U => make_run U 256 (by decide)
  have HB := Lib.hid builtZ
  clear hp hq hfp hfq
  go_enter Tryd.func14, Tryd.ntmps14
  go_wp2_with (refine wpList_build rfl 47 #[] rfl (by simp [HB.out]) ?_; simp only [List.map_toArray, List.map_nil, HB.out, Option.getD_some])
  go_loopw [12, 13] (fun i x wr => ∃ (k : Nat) (L1 L2 : Ly), k ≤ 32 ∧ i = .int .i64 k ∧ SI w wr L1 L2 (svM here wt np nq fp fq k)) (fun i _ _ => 32 - (intOf i).toNat)
  case atStart => exact ⟨0, _, _, by omega, rfl, HSI.out⟩
  case round =>
    obtain ⟨k, L1, L2, hk, rfl, hI⟩ := hrel
    have HI := Lib.hid hI
    by_cases hlt : k < 32
    · have hlt' : (k : Int) < 32 := by omega
      have hsz := hI.bel.size
      have hl2 : w.heap.size + 2 ≤ wr.heap.size := by have := hI.m2.lt; have := hI.e2; omega
      have J0 : Hid (SJ wr w.heap.size (w.heap.size + 1) (memC L1 (svM here wt np nq fp fq k)) (memC L2 (svM here wt np nq fp fq k)) wr) := Lib.hid (by
        have := hI.sj
        rw [hI.e1, hI.e2] at this
        exact this)
      clear hI
      have z := bit_eq0 here k
      rw [← shr_tmod] at z
      cases hb : bitB here k
      · rw [hb] at z; simp only [Bool.not_false] at z
        have HS := Lib.hid ((HI.out).skip hb)
        go_wp2
        go_roundw
        case rel => exact ⟨k + 1, L1, L2, by omega, by go_num, HS.out⟩
        case measure => simp [intOf]; omega
      · rw [hb] at z; simp only [Bool.not_true] at z
        by_cases he : k % 2 = 0
        · have z2 : ((k : Int) % 2 == 0) = true := by simp; omega
          have HPk := Lib.hid (HP.out _ (below_up (HI.out).bel (below_new wr (.cells (rowV (fun _ => 0) 256).toArray 5))))
          go_wp2_with (refine wpList_put rfl (.tmp 31) (.tmp 32) _ _ rfl _ und8 one8 (some ⟨wr.heap.size, 0, none⟩) ap 256 256 np cp rfl rfl wr.heap.size 0 np 256 (fun _ => 0) fp (Row.new wr _ _) (Nat.min_eq_left hnp).symm (by omega) (fun _ => rfl) HPk.out ?_
                       intro w2 hrow hg2
                       have J2 := ((J0.out).kept (grown_of_below (below_new wr (.cells (rowV (fun _ => 0) 256).toArray 5))) (fun g e => by cases e)).kept hg2 (fun g e => by injection e with e; omega)
                       have q1 := J2.k1 k (by omega)
                       have u1 := J2.f1 k)
          have hpg : Pg w2 wr.heap.size ((svM here wt np nq fp fq (k + 1)).bt k) := Row.pg hrow (fun j hj => by
            show putF (fun _ => 0) 0 np fp j = (if k % 2 = 0 then padF fp np j else padF fq nq j)
            rw [if_pos he]
            unfold putF padF
            by_cases hj2 : j < np
            · rw [if_pos (by omega), if_pos hj2, Nat.sub_zero]
            · rw [if_neg (by omega), if_neg hj2])
          have hn1 : wr.heap.size ≠ w.heap.size := by omega
          have J3 := J2.set1 (by omega) k (by omega) (.slice (some ⟨wr.heap.size, 0, none⟩) 256 256)
          have hpg3 := hpg.kept (grown_setCellS w2 ⟨w.heap.size, k, none⟩ (.slice (some ⟨wr.heap.size, 0, none⟩) 256 256)) (by simpa using hn1)
          have hpgb : BytesAt (w2.setCell ⟨w.heap.size, k, none⟩ (.slice (some ⟨wr.heap.size, 0, none⟩) 256 256)) (some ⟨wr.heap.size, 0, none⟩) 256 ((svM here wt np nq fp fq (k + 1)).bt k) := fun i hi => ⟨_, _, rfl, by rw [Nat.zero_add]; exact hpg3.c i hi⟩
          have H3 := Lib.hid J3
          have HP3 := Lib.hid hpg3
          have HB3 := Lib.hid hpgb
          clear J2 J3 hpg hpg3 hpgb hrow hg2 q1 u1 HPk
          generalize w2.setCell ⟨w.heap.size, k, none⟩ (.slice (some ⟨wr.heap.size, 0, none⟩) 256 256) = w3 at *
          generalize hF : (svM here wt np nq fp fq (k + 1)).bt k = F at *
          go_wp2_with fail
          go_region_law (refine step_app256 rfl _ (.tmp 45) rfl rfl (some ⟨wr.heap.size, 0, none⟩) 256 F rfl HB3.out ?_
                         intro r7 c7 w7 hp7 hl7 hc7 hg7
                         have x7 := ((H3.out).kept (W2 := w7) ⟨hg7.os, hg7.tape, hg7.output, hg7.size, hg7.block⟩ (fun g e => by cases e)).k2 k (by omega)
                         have f7 := ((H3.out).kept (W2 := w7) ⟨hg7.os, hg7.tape, hg7.output, hg7.size, hg7.block⟩ (fun g e => by cases e)).f2 k)
          have J7 := ((H3.out).kept (W2 := w7) ⟨hg7.os, hg7.tape, hg7.output, hg7.size, hg7.block⟩ (fun g e => by cases e)).set2 (by omega) k (by omega) (.slice (some ⟨r7, 0, none⟩) 256 c7)
          have p17 := ((HP3.out).kept (w' := w7) (row := none) ⟨hg7.os, hg7.tape, hg7.output, hg7.size, hg7.block⟩ (by simp)).kept (grown_setCellS w7 ⟨w.heap.size + 1, k, none⟩ (.slice (some ⟨r7, 0, none⟩) 256 c7)) (by simp; omega)
          have hr7 : wr.heap.size < r7 := Nat.lt_of_lt_of_le (HP3.out).lt hl7
          have p27 := hp7.kept (grown_setCellS w7 ⟨w.heap.size + 1, k, none⟩ (.slice (some ⟨r7, 0, none⟩) 256 c7)) (by simp; omega)
          have S8 := Lib.hid (SK.mk J7 p17 p27)
          clear J7 p17 p27 x7 f7 hp7 hg7 H3 HP3 HB3 J0
          generalize w7.setCell ⟨w.heap.size + 1, k, none⟩ (.slice (some ⟨r7, 0, none⟩) 256 c7) = w8 at *
          have zw := bit_eq1 wt k
          rw [← shr_tmod] at zw
          go_wp2_with fail
          have n1 : wr.heap.size ≠ w.heap.size := by omega
          have n2 : r7 ≠ w.heap.size := by omega
          have n3 : wr.heap.size ≠ w.heap.size + 1 := by omega
          have n4 : r7 ≠ w.heap.size + 1 := by omega
          have n5 : w.heap.size ≠ w.heap.size + 1 := by omega
          have hk64 : 32 + k < 64 := by omega
          have HFIN : Hid (∀ w', SK wr w.heap.size (w.heap.size + 1) (upd (upd (memC L1 (svM here wt np nq fp fq k)) k (.slice (some ⟨wr.heap.size, 0, none⟩) 256 256)) (32 + k) (.bool (bitB wt k))) (upd (upd (memC L2 (svM here wt np nq fp fq k)) k (.slice (some ⟨r7, 0, none⟩) 256 c7)) (32 + k) (.bool (bitB wt k))) wr.heap.size r7 F w' →
              SI w w' (addL L1 k wr.heap.size 256) (addL L2 k r7 c7) (svM here wt np nq fp fq (k + 1))) := Lib.hid (fun w' h => by
            refine SI.next HI.out hlt hb HFP.out HFQ.out wr.heap.size r7 c7 (Nat.le_refl _) (by omega) (by omega) hc7 ?_ ?_ ?_
            · rw [(HI.out).e1, (HI.out).e2]; exact h.j
            · rw [hF]; exact h.p1
            · rw [hF]; exact h.p2)
          generalize upd (memC L1 (svM here wt np nq fp fq k)) k (.slice (some ⟨wr.heap.size, 0, none⟩) 256 256) = c1 at *
          generalize upd (memC L2 (svM here wt np nq fp fq k)) k (.slice (some ⟨r7, 0, none⟩) 256 c7) = c2 at *
          generalize bitB wt k = wb at *
          refine ZR.wp_region_C (fun j w' => SK wr w.heap.size (w.heap.size + 1) (match j with | 0 => c1 | _ => upd c1 (32 + k) (.bool wb)) c2 wr.heap.size r7 F w') (fun i => [10].contains i) (by kernel_rfl) (by kernel_rfl) (by kernel_rfl) (by kernel_rfl) ((S8.out).drewN 1) ?_
          iterate 7 (refine RQ.wpT_reads rfl (fun K hK => ?_); go_simp; refine ⟨_, fun _ _ _ => rfl, hK _ ?_⟩; clear hK K)
          iterate 3 (refine RQ.wpT_reads rfl (fun K hK => ?_); go_simp; refine ⟨_, fun _ _ _ => rfl, hK _ ?_⟩; clear hK K)
          refine RQ.wpT_turns rfl rfl _ (ZR.turnsC_st ⟨w.heap.size, 32 + k, none⟩ (.bool wb) (fun w' h' => ZR.run_st1 4 (.tmp 59) (.tmp 56) rfl _ _ rfl rfl (stb (h'.j.k1 (32 + k) hk64) (h'.j.f1 _))) (fun w' h' => h'.set1 n5 n1 n2 (32 + k) hk64 (.bool wb))) ?_
          refine RQ.wpT_nil ?_
          intro w9 h9
          go_simp
          have S9 : Hid (SK wr w.heap.size (w.heap.size + 1) (upd c1 (32 + k) (.bool wb)) c2 wr.heap.size r7 F w9) := Lib.hid h9
          clear h9 S8
          go_wp2_with fail
          refine ZR.wp_region_C (fun j w' => SK wr w.heap.size (w.heap.size + 1) (upd c1 (32 + k) (.bool wb)) (match j with | 0 => c2 | _ => upd c2 (32 + k) (.bool wb)) wr.heap.size r7 F w') (fun i => [11].contains i) (by kernel_rfl) (by kernel_rfl) (by kernel_rfl) (by kernel_rfl) ((S9.out).drewN 1) ?_
          iterate 7 (refine RQ.wpT_reads rfl (fun K hK => ?_); go_simp; refine ⟨_, fun _ _ _ => rfl, hK _ ?_⟩; clear hK K)
          refine ZR.valC rfl rfl (.bool wb) (fun j w' h' => ZR.run_ld1 4 (.tmp 66) rfl _ _ rfl (ldb (by have := h'.j.k1 (32 + k) hk64; unfold upd at this; rw [if_pos rfl] at this; exact this))) ?_
          go_simp
          iterate 3 (refine RQ.wpT_reads rfl (fun K hK => ?_); go_simp; refine ⟨_, fun _ _ _ => rfl, hK _ ?_⟩; clear hK K)
          refine RQ.wpT_turns rfl rfl _ (ZR.turnsC_st ⟨w.heap.size + 1, 32 + k, none⟩ (.bool wb) (fun w' h' => ZR.run_st1 4 (.tmp 70) (.tmp 67) rfl _ _ rfl rfl (stb (h'.j.k2 (32 + k) hk64) (h'.j.f2 _))) (fun w' h' => h'.set2 n5 n3 n4 (32 + k) hk64 (.bool wb))) ?_
          refine RQ.wpT_nil ?_
          intro w10 h10
          go_simp
          have S10 := Lib.hid (HFIN.out w10 h10)
          clear h10 S9 HFIN
          go_wp2
          go_roundw
          case rel => exact ⟨k + 1, _, _, by omega, by go_num, S10.out⟩
          case measure => simp [intOf]; omega
        · have z2 : ((k : Int) % 2 == 0) = false := by simp; omega
          have HPk := Lib.hid (HQ.out _ (below_up (HI.out).bel (below_new wr (.cells (rowV (fun _ => 0) 256).toArray 5))))
          go_wp2_with (refine wpList_put rfl (.tmp 34) (.tmp 35) _ _ rfl _ und8 one8 (some ⟨wr.heap.size, 0, none⟩) aq 256 256 nq cq rfl rfl wr.heap.size 0 nq 256 (fun _ => 0) fq (Row.new wr _ _) (Nat.min_eq_left hnq).symm (by omega) (fun _ => rfl) HPk.out ?_
                       intro w2 hrow hg2
                       have J2 := ((J0.out).kept (grown_of_below (below_new wr (.cells (rowV (fun _ => 0) 256).toArray 5))) (fun g e => by cases e)).kept hg2 (fun g e => by injection e with e; omega)
                       have q1 := J2.k1 k (by omega)
                       have u1 := J2.f1 k)
          have hpg : Pg w2 wr.heap.size ((svM here wt np nq fp fq (k + 1)).bt k) := Row.pg hrow (fun j hj => by
            show putF (fun _ => 0) 0 nq fq j = (if k % 2 = 0 then padF fp np j else padF fq nq j)
            rw [if_neg he]
            unfold putF padF
            by_cases hj2 : j < nq
            · rw [if_pos (by omega), if_pos hj2, Nat.sub_zero]
            · rw [if_neg (by omega), if_neg hj2])
          have hn1 : wr.heap.size ≠ w.heap.size := by omega
          have J3 := J2.set1 (by omega) k (by omega) (.slice (some ⟨wr.heap.size, 0, none⟩) 256 256)
          have hpg3 := hpg.kept (grown_setCellS w2 ⟨w.heap.size, k, none⟩ (.slice (some ⟨wr.heap.size, 0, none⟩) 256 256)) (by simpa using hn1)
          have hpgb : BytesAt (w2.setCell ⟨w.heap.size, k, none⟩ (.slice (some ⟨wr.heap.size, 0, none⟩) 256 256)) (some ⟨wr.heap.size, 0, none⟩) 256 ((svM here wt np nq fp fq (k + 1)).bt k) := fun i hi => ⟨_, _, rfl, by rw [Nat.zero_add]; exact hpg3.c i hi⟩
          have H3 := Lib.hid J3
          have HP3 := Lib.hid hpg3
          have HB3 := Lib.hid hpgb
          clear J2 J3 hpg hpg3 hpgb hrow hg2 q1 u1 HPk
          generalize w2.setCell ⟨w.heap.size, k, none⟩ (.slice (some ⟨wr.heap.size, 0, none⟩) 256 256) = w3 at *
          generalize hF : (svM here wt np nq fp fq (k + 1)).bt k = F at *
          go_wp2_with fail
          go_region_law (refine step_app256 rfl _ (.tmp 45) rfl rfl (some ⟨wr.heap.size, 0, none⟩) 256 F rfl HB3.out ?_
                         intro r7 c7 w7 hp7 hl7 hc7 hg7
                         have x7 := ((H3.out).kept (W2 := w7) ⟨hg7.os, hg7.tape, hg7.output, hg7.size, hg7.block⟩ (fun g e => by cases e)).k2 k (by omega)
                         have f7 := ((H3.out).kept (W2 := w7) ⟨hg7.os, hg7.tape, hg7.output, hg7.size, hg7.block⟩ (fun g e => by cases e)).f2 k)
          have J7 := ((H3.out).kept (W2 := w7) ⟨hg7.os, hg7.tape, hg7.output, hg7.size, hg7.block⟩ (fun g e => by cases e)).set2 (by omega) k (by omega) (.slice (some ⟨r7, 0, none⟩) 256 c7)
          have p17 := ((HP3.out).kept (w' := w7) (row := none) ⟨hg7.os, hg7.tape, hg7.output, hg7.size, hg7.block⟩ (by simp)).kept (grown_setCellS w7 ⟨w.heap.size + 1, k, none⟩ (.slice (some ⟨r7, 0, none⟩) 256 c7)) (by simp; omega)
          have hr7 : wr.heap.size < r7 := Nat.lt_of_lt_of_le (HP3.out).lt hl7
          have p27 := hp7.kept (grown_setCellS w7 ⟨w.heap.size + 1, k, none⟩ (.slice (some ⟨r7, 0, none⟩) 256 c7)) (by simp; omega)
          have S8 := Lib.hid (SK.mk J7 p17 p27)
          clear J7 p17 p27 x7 f7 hp7 hg7 H3 HP3 HB3 J0
          generalize w7.setCell ⟨w.heap.size + 1, k, none⟩ (.slice (some ⟨r7, 0, none⟩) 256 c7) = w8 at *
          have zw := bit_eq1 wt k
          rw [← shr_tmod] at zw
          go_wp2_with fail
          have n1 : wr.heap.size ≠ w.heap.size := by omega
          have n2 : r7 ≠ w.heap.size := by omega
          have n3 : wr.heap.size ≠ w.heap.size + 1 := by omega
          have n4 : r7 ≠ w.heap.size + 1 := by omega
          have n5 : w.heap.size ≠ w.heap.size + 1 := by omega
          have hk64 : 32 + k < 64 := by omega
          have HFIN : Hid (∀ w', SK wr w.heap.size (w.heap.size + 1) (upd (upd (memC L1 (svM here wt np nq fp fq k)) k (.slice (some ⟨wr.heap.size, 0, none⟩) 256 256)) (32 + k) (.bool (bitB wt k))) (upd (upd (memC L2 (svM here wt np nq fp fq k)) k (.slice (some ⟨r7, 0, none⟩) 256 c7)) (32 + k) (.bool (bitB wt k))) wr.heap.size r7 F w' →
              SI w w' (addL L1 k wr.heap.size 256) (addL L2 k r7 c7) (svM here wt np nq fp fq (k + 1))) := Lib.hid (fun w' h => by
            refine SI.next HI.out hlt hb HFP.out HFQ.out wr.heap.size r7 c7 (Nat.le_refl _) (by omega) (by omega) hc7 ?_ ?_ ?_
            · rw [(HI.out).e1, (HI.out).e2]; exact h.j
            · rw [hF]; exact h.p1
            · rw [hF]; exact h.p2)
          generalize upd (memC L1 (svM here wt np nq fp fq k)) k (.slice (some ⟨wr.heap.size, 0, none⟩) 256 256) = c1 at *
          generalize upd (memC L2 (svM here wt np nq fp fq k)) k (.slice (some ⟨r7, 0, none⟩) 256 c7) = c2 at *
          generalize bitB wt k = wb at *
          refine ZR.wp_region_C (fun j w' => SK wr w.heap.size (w.heap.size + 1) (match j with | 0 => c1 | _ => upd c1 (32 + k) (.bool wb)) c2 wr.heap.size r7 F w') (fun i => [10].contains i) (by kernel_rfl) (by kernel_rfl) (by kernel_rfl) (by kernel_rfl) ((S8.out).drewN 1) ?_
          iterate 7 (refine RQ.wpT_reads rfl (fun K hK => ?_); go_simp; refine ⟨_, fun _ _ _ => rfl, hK _ ?_⟩; clear hK K)
          iterate 3 (refine RQ.wpT_reads rfl (fun K hK => ?_); go_simp; refine ⟨_, fun _ _ _ => rfl, hK _ ?_⟩; clear hK K)
          refine RQ.wpT_turns rfl rfl _ (ZR.turnsC_st ⟨w.heap.size, 32 + k, none⟩ (.bool wb) (fun w' h' => ZR.run_st1 4 (.tmp 59) (.tmp 56) rfl _ _ rfl rfl (stb (h'.j.k1 (32 + k) hk64) (h'.j.f1 _))) (fun w' h' => h'.set1 n5 n1 n2 (32 + k) hk64 (.bool wb))) ?_
          refine RQ.wpT_nil ?_
          intro w9 h9
          go_simp
          have S9 : Hid (SK wr w.heap.size (w.heap.size + 1) (upd c1 (32 + k) (.bool wb)) c2 wr.heap.size r7 F w9) := Lib.hid h9
          clear h9 S8
          go_wp2_with fail
          refine ZR.wp_region_C (fun j w' => SK wr w.heap.size (w.heap.size + 1) (upd c1 (32 + k) (.bool wb)) (match j with | 0 => c2 | _ => upd c2 (32 + k) (.bool wb)) wr.heap.size r7 F w') (fun i => [11].contains i) (by kernel_rfl) (by kernel_rfl) (by kernel_rfl) (by kernel_rfl) ((S9.out).drewN 1) ?_
          iterate 7 (refine RQ.wpT_reads rfl (fun K hK => ?_); go_simp; refine ⟨_, fun _ _ _ => rfl, hK _ ?_⟩; clear hK K)
          refine ZR.valC rfl rfl (.bool wb) (fun j w' h' => ZR.run_ld1 4 (.tmp 66) rfl _ _ rfl (ldb (by have := h'.j.k1 (32 + k) hk64; unfold upd at this; rw [if_pos rfl] at this; exact this))) ?_
          go_simp
          iterate 3 (refine RQ.wpT_reads rfl (fun K hK => ?_); go_simp; refine ⟨_, fun _ _ _ => rfl, hK _ ?_⟩; clear hK K)
          refine RQ.wpT_turns rfl rfl _ (ZR.turnsC_st ⟨w.heap.size + 1, 32 + k, none⟩ (.bool wb) (fun w' h' => ZR.run_st1 4 (.tmp 70) (.tmp 67) rfl _ _ rfl rfl (stb (h'.j.k2 (32 + k) hk64) (h'.j.f2 _))) (fun w' h' => h'.set2 n5 n3 n4 (32 + k) hk64 (.bool wb))) ?_
          refine RQ.wpT_nil ?_
          intro w10 h10
          go_simp
          have S10 := Lib.hid (HFIN.out w10 h10)
          clear h10 S9 HFIN
          go_wp2
          go_roundw
          case rel => exact ⟨k + 1, _, _, by omega, by go_num, S10.out⟩
          case measure => simp [intOf]; omega
    · obtain rfl : k = 32 := by omega
      have e1 := (HI.out).e1
      have e2 := (HI.out).e2
      go_wp2
      go_ret2
      exact ⟨L1, L2, by rw [e1, e2]; rfl, HI.out⟩
end Go.Proofs.YtpbjfjedgcabhaaDoor
