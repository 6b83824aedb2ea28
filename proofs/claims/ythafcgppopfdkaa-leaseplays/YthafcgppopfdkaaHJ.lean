/-
  The walk of LeaseBack.
-/
import Derived.Test.YthafcgppopfdkaaHI
namespace Go.Proofs.Ythafcgppopfdkaa
open Go.ChangeShapes Go.WideShapes Go.ChangeAt Go.RowKit
set_option maxRecDepth 100000
set_option linter.unusedVariables false

/-- A list of acts that came in. -/
def ActL (w : World) (a : Option Addr) (len : Nat) : Prop :=
  ∀ i, i < len → ∃ b off, a = some ⟨b, off, none⟩ ∧ b < w.heap.size ∧ ∃ (K : Nat) (N : Int) (VM : Int) (P : Int) (To : Int) (W : Bool),
    w.cell? ⟨b, off + i * 6 + 0, none⟩ = some (.int .u8 K) ∧ w.cell? ⟨b, off + i * 6 + 1, none⟩ = some (.int .i64 N) ∧ w.cell? ⟨b, off + i * 6 + 2, none⟩ = some (.int .i64 VM) ∧ w.cell? ⟨b, off + i * 6 + 3, none⟩ = some (.int .i64 P) ∧ w.cell? ⟨b, off + i * 6 + 4, none⟩ = some (.int .i64 To) ∧ w.cell? ⟨b, off + i * 6 + 5, none⟩ = some (.bool W) ∧
    K < 256 ∧ (-9223372036854775808 ≤ N ∧ N ≤ 9223372036854775807) ∧ (-9223372036854775808 ≤ VM ∧ VM ≤ 9223372036854775807) ∧ (-9223372036854775808 ≤ P ∧ P ≤ 9223372036854775807) ∧ (-9223372036854775808 ≤ To ∧ To ≤ 9223372036854775807)
/-- What isn't on is noughts. -/
def Cl (b : Nat → LsV) : Prop := ∀ i, (b i).on = false → b i = LsV.zero
theorem cl_zero : Cl zB := fun _ _ => rfl
theorem Cl.on {b : Nat → LsV} (h : Cl b) (j : Nat) (v : LsV) (hv : v.on = true) : Cl (updA b j v) := by
  intro i hi
  by_cases e : i = j
  · rw [e, updA_same] at hi; rw [hv] at hi; cases hi
  · rw [updA_other _ _ _ _ e] at hi ⊢; exact h i hi
theorem Cl.off {b : Nat → LsV} (h : Cl b) (j : Nat) : Cl (updA b j LsV.zero) := by
  intro i hi
  by_cases e : i = j
  · rw [e, updA_same]
  · rw [updA_other _ _ _ _ e] at hi ⊢; exact h i hi
theorem Cl.offer {b : Nat → LsV} (h : Cl b) (f p t : Int) (wr : Bool) : Cl (offB b f p t wr) := by
  unfold offB
  split
  · exact h.on _ _ rfl
  · exact h
theorem updA_twice {α : Type} (b : Nat → α) (j : Nat) (x y : α) : updA (updA b j x) j y = updA b j y := by
  funext i
  by_cases e : i = j
  · rw [e, updA_same, updA_same]
  · rw [updA_other _ _ _ _ e, updA_other _ _ _ _ e, updA_other _ _ _ _ e]
theorem updA_back {α : Type} (b : Nat → α) (j : Nat) (x : α) (h : b j = x) : updA b j x = b := by
  funext i
  by_cases e : i = j
  · rw [e, updA_same, h]
  · rw [updA_other _ _ _ _ e]
theorem okB_put (b : Nat → LsV) (j : Nat) (hj : j < 16) (x : LsV) (hx : x.on = true) : okB (updA b j x) j = true := by
  unfold okB
  rw [decide_eq_true ⟨by omega, by omega⟩, Int.toNat_natCast, updA_same, hx]; rfl
/-- What follows an offer that holds: accepted, left, withdrawn. -/
theorem back_calls {b : Nat → LsV} {f p t q : Int} {wr_ : Bool} {j : Nat} (hj : j < 16) (hc : Cl b) (hfree : (b j).on = false) (hq : 0 ≤ q ∧ q < 32) :
    ∃ c d : Nat → LsV, updA b j (newLs f p t wr_) = c ∧
      (∀ w, Calls Try.prog 22 #[.agg (BKA c), .int .i64 j, .int .i64 t, .int .i64 q] w fun e w' => e = .returned (.tuple #[.agg (BKA d), .int .i64 0]) ∧ Below w.heap.size w w') ∧
      (∀ w, Calls Try.prog 20 #[.agg (BKA d), .int .i64 j, .int .i64 t] w fun e w' => e = .returned (.tuple #[.agg (BKA c), .int .i64 0]) ∧ Below w.heap.size w w') ∧
      (∀ w, Calls Try.prog 21 #[.agg (BKA c), .int .i64 j, .int .i64 f] w fun e w' => e = .returned (.tuple #[.agg (BKA b), .int .i64 0]) ∧ Below w.heap.size w w') ∧
      ∃ n : Nat, ∀ w, Calls Try.prog 24 #[.agg (BKA d), .int .i64 t, .int .i64 q] w fun e w' => e = .returned (.int .i64 (n : Nat)) ∧ Below w.heap.size w w' := by
  refine ⟨_, updA b j { newLs f p t wr_ with at_ := q }, rfl, fun w => ?_, fun w => ?_, fun w => ?_, ?_⟩
  · have e1 : accE (updA b j (newLs f p t wr_)) j t q = 0 := by
      rw [accE_at, if_neg (by rw [okB_put b j hj _ rfl]; simp), updA_same, if_neg (fun h => h rfl), if_neg (by show ¬ (0 : Int) ≤ -1; omega), if_neg (fun h => h hq)]
    have e2 : accB (updA b j (newLs f p t wr_)) j t q = updA b j { newLs f p t wr_ with at_ := q } := by
      rw [accB_at, e1, if_pos rfl, updA_same, updA_twice]
    have h := accept_in (updA b j (newLs f p t wr_)) j t q w
    rw [e1, e2] at h
    exact h
  · have e1 : leaE (updA b j { newLs f p t wr_ with at_ := q }) j t = 0 := by
      rw [leaE_at, if_neg (by rw [okB_put b j hj _ rfl]; simp), updA_same, if_neg (fun h => h rfl), if_neg (by show ¬ q < 0; omega)]
    have e2 : leaB (updA b j { newLs f p t wr_ with at_ := q }) j t = updA b j (newLs f p t wr_) := by
      rw [leaB_at, e1, if_pos rfl, updA_same, updA_twice]; rfl
    have h := leave_in (updA b j { newLs f p t wr_ with at_ := q }) j t w
    rw [e1, e2] at h
    exact h
  · have e1 : witE (updA b j (newLs f p t wr_)) j f = 0 := by
      rw [witE_at, if_neg (by rw [okB_put b j hj _ rfl]; simp), updA_same, if_neg (fun h => h rfl), if_neg (by show ¬ (0 : Int) ≤ -1; omega)]
    have e2 : witB (updA b j (newLs f p t wr_)) j f = b := by
      rw [witB_at, e1, if_pos rfl, updA_twice, updA_back _ _ _ (hc j hfree)]
    have h := withdraw_in (updA b j (newLs f p t wr_)) j f w
    rw [e1, e2] at h
    exact h
  · rcases fstB_spec (fun i => atP t q (updA b j { newLs f p t wr_ with at_ := q } i)) 16 with ⟨_, g⟩ | ⟨n, _, g, _, _⟩
    · have := g j hj
      simp only [updA_same] at this
      have hh := atP_hit (vm := t) (pg := q) (v := { newLs f p t wr_ with at_ := q }) rfl rfl hq.1 rfl
      rw [hh] at this
      cases this
    · refine ⟨n, fun w => ?_⟩
      have h := at_in (updA b j { newLs f p t wr_ with at_ := q }) t q w
      rw [g] at h
      exact h
set_option maxHeartbeats 4000000 in
theorem leaseBack_long (from_ to_ pg at_ : Nat) (wr_ : Bool) (a : Option Addr) (len cap : Nat) (hlen : 20 < len) (w : World) :
    Calls Try.prog 10 #[.int .u8 from_, .int .u8 to_, .int .u8 pg, .int .u8 at_, .bool wr_, .slice a len cap] w fun e w' => e = .returned (.bool true) ∧ Below w.heap.size w w' := by
  have HA := Lib.hid awake14_in
  have h2 : (20 : Int) < (len : Int) := by omega
  go_enter Try.func10, Try.ntmps10
  go_wp2_with fail
  refine (HA.out _).mono ?_
  rintro e w1 ⟨rfl, b1⟩
  go_wp2_with fail
  refine (HA.out _).mono ?_
  rintro e w2 ⟨rfl, b2⟩
  go_wp2
  go_ret
  exact ⟨rfl, below_up b1 b2⟩
set_option maxHeartbeats 4000000 in
theorem leaseBack_core (from_ to_ pg at_ : Nat) (h1 : from_ < 256) (h2 : to_ < 256) (h3 : pg < 256) (h4 : at_ < 256) (wr_ : Bool) (a : Option Addr) (len cap : Nat) (hlen : len ≤ 20) (w : World) (ha : ActL w a len) :
    Calls Try.prog 10 #[.int .u8 from_, .int .u8 to_, .int .u8 pg, .int .u8 at_, .bool wr_, .slice a len cap] w fun e w' => e = .returned (.bool true) ∧ Below w.heap.size w w' := by
  have HZ := zeroB_run
  have HA := Lib.hid awake14_in
  have HACT := Lib.hid ha
  have HO := Lib.hid offer_in
  rw [zB_is] at HZ
  have hl2 : ¬ (20 : Int) < (len : Int) := by omega
  clear ha
  go_enter Try.func10, Try.ntmps10
  go_wp2_with fail
  refine (HA.out _).mono ?_
  rintro e w1 ⟨rfl, b1⟩
  have o1 := Lib.hid (ob_new b1 44 (BKA zB))
  clear b1
  go_upto_region 4 with fail
  generalize w1.alloc (.cells (BKA zB) 44) = V at *
  generalize w1.heap.size = B at *
  go_wp2_with fail
  go_loopw [14, 15, 16, 17, 18] (fun i _ _ _ _ wr => ∃ (k : Nat) (b : Nat → LsV), k ≤ len ∧ i = .int .i64 k ∧ Cl b ∧ OB w wr B 44 (BKA b)) (fun i _ _ _ _ _ => len - (intOf i).toNat)
  case atStart => exact ⟨0, _, by omega, rfl, cl_zero, o1.out⟩
  case round =>
    clear o1
    obtain ⟨k, b, hk, rfl, hc, h0⟩ := hrel
    have H0 := Lib.hid h0
    have HC := Lib.hid hc
    clear h0 hc
    by_cases hlt : k < len
    · have k1 : (k : Int) < (len : Int) := by omega
      obtain ⟨bb, off, rfl, hbl, K, N, VM, P, To, W, x0, x1, x2, x3, x4, x5, _, _, q2, q3, q4⟩ := (HACT.out) k hlt
      have hbw := (H0.out).bel
      have y0 := (hbw.cell (p := ⟨bb, off + k * 6 + 0, none⟩) hbl).trans x0
      have y1 := (hbw.cell (p := ⟨bb, off + k * 6 + 1, none⟩) hbl).trans x1
      have y2 := (hbw.cell (p := ⟨bb, off + k * 6 + 2, none⟩) hbl).trans x2
      have y3 := (hbw.cell (p := ⟨bb, off + k * 6 + 3, none⟩) hbl).trans x3
      have y4 := (hbw.cell (p := ⟨bb, off + k * 6 + 4, none⟩) hbl).trans x4
      have y5 := (hbw.cell (p := ⟨bb, off + k * 6 + 5, none⟩) hbl).trans x5
      rw [Nat.add_zero] at y0
      clear hbw x0 x1 x2 x3 x4 x5
      have H1 := Lib.hid ((H0.out).below (below_new wr (.cells #[.int .u8 K, .int .i64 N, .int .i64 VM, .int .i64 P, .int .i64 To, .bool W] 46)))
      have A1 := Lib.hid (bl_new wr 46 #[.int .u8 K, .int .i64 N, .int .i64 VM, .int .i64 P, .int .i64 To, .bool W])
      go_upto_region 8 with fail
      clear y0 y1 y2 y3 y4 y5
      have c2 := (A1.out).cell 2
      have c3 := (A1.out).cell 3
      have c4 := (A1.out).cell 4
      have c5 := (A1.out).cell 5
      generalize wr.alloc (.cells #[.int .u8 K, .int .i64 N, .int .i64 VM, .int .i64 P, .int .i64 To, .bool W] 46) = V1 at *
      replace c2 : V1.cell? ⟨wr.heap.size, 2, none⟩ = some (.int .i64 VM) := c2
      replace c3 : V1.cell? ⟨wr.heap.size, 3, none⟩ = some (.int .i64 P) := c3
      replace c4 : V1.cell? ⟨wr.heap.size, 4, none⟩ = some (.int .i64 To) := c4
      replace c5 : V1.cell? ⟨wr.heap.size, 5, none⟩ = some (.bool W) := c5
      generalize wr.heap.size = X at *
      clear A1 H0
      go_wp2_with (refine wpList_ldB rfl (.tmp 13) rfl B rfl 44 b (H1.out).bl ?_)
      refine (HO.out _ _ _ _ _ _).mono ?_
      rintro e w2 ⟨rfl, b2⟩
      generalize wrap64 ((IntKind.u64.wrap VM).tmod 6) = f1
      generalize wrap64 ((IntKind.u64.wrap P).tmod 32) = p1
      generalize wrap64 ((IntKind.u64.wrap To).tmod 6) = t1
      have HC2 := Lib.hid ((HC.out).offer f1 p1 t1 W)
      have H2 := Lib.hid ((H1.out).below b2)
      generalize offN b f1 p1 t1 = n1
      generalize offE b f1 p1 t1 = e1
      generalize offB b f1 p1 t1 W = b' at *
      have H3 := Lib.hid ((H2.out).below (lay_below w2 44 (BKA zB) (BKA b')))
      have N3 := Lib.hid (ob_lay (H2.out).bel 44 (BKA zB) (BKA b'))
      have Z3 := Lib.hid (bl_new w2 44 (BKA zB))
      have H4 := Lib.hid ((H3.out).put (BKA b'))
      clear H1 H2 b2 c2 c3 c4 c5 q2 q3 q4
      cases he : (e1 == 0)
      · go_wp2_with (refine wpList_stB rfl (.tmp 16) (.tmp 68) rfl w2.heap.size rfl 44 zB b' rfl Z3.out ?_)
        go_roundw
        case rel => exact ⟨k + 1, b, by omega, by go_num, HC.out, H3.out⟩
        case measure => simp [intOf]; omega
      · go_wp2_with (first
          | (refine wpList_stB rfl (.tmp 16) (.tmp 68) rfl w2.heap.size rfl 44 zB b' rfl Z3.out ?_)
          | (refine wpList_ldB rfl (.tmp 16) rfl w2.heap.size rfl 44 b' (N3.out).bl ?_)
          | (refine wpList_stB rfl (.tmp 13) (.tmp 73) rfl B rfl 44 b b' rfl (H3.out).bl ?_))
        go_roundw
        case rel => exact ⟨k + 1, b', by omega, by go_num, HC2.out, H4.out⟩
        case measure => simp [intOf]; omega
    · obtain rfl : k = len := by omega
      obtain ⟨f, hf⟩ : ∃ v : Nat, from_ % 6 = v := ⟨_, rfl⟩
      have hfi : (from_ : Int) % 6 = (f : Nat) := by omega
      have f6 : 0 ≤ (f : Int) ∧ (f : Int) < 6 := by omega
      obtain ⟨t, ht⟩ : ∃ v : Nat, to_ % 6 = v := ⟨_, rfl⟩
      have hti : (to_ : Int) % 6 = (t : Nat) := by omega
      have t6 : 0 ≤ (t : Int) ∧ (t : Int) < 6 := by omega
      have HFI := Lib.hid hfi
      have HTI := Lib.hid hti
      have p32 : 0 ≤ (pg : Int) % 32 ∧ (pg : Int) % 32 < 32 := by omega
      have HP32 := Lib.hid p32
      have HF6 := Lib.hid f6
      have HT6 := Lib.hid t6
      clear hf ht hfi hti p32 f6 t6 HACT
      go_upto_region 13 with fail
      rw [HFI.out, HTI.out]
      clear h1 h2
      go_wp2_with (refine wpList_ldB rfl (.tmp 13) rfl B rfl 44 b (H0.out).bl ?_)
      obtain ⟨p, hp⟩ : ∃ p, (pg : Int) % 32 = p := ⟨_, rfl⟩
      rw [hp] at HP32 ⊢
      clear hp
      by_cases hft : (f : Int) = t
      · have HK := Lib.hid (offer_bad b f p t wr_ (by unfold badO; rw [decide_eq_true hft]; simp))
        have z1 : ((f : Int) == (t : Int)) = true := by simp; omega
        clear hft HO
        refine (HK.out _).mono ?_
        rintro e w2 ⟨rfl, b2⟩
        have Z3 := Lib.hid (bl_new w2 44 (BKA zB))
        have H2 := Lib.hid (((H0.out).below b2).below (lay_below w2 44 (BKA zB) (BKA b)))
        clear b2
        go_wp2_with (refine wpList_stB rfl (.tmp 21) (.tmp 89) rfl w2.heap.size rfl 44 zB b rfl Z3.out ?_)
        go_ret
        exact ⟨rfl, (H2.out).bel⟩
      have hbad : badO f p t = false := badO_no HF6.out HT6.out HP32.out hft
      have z1 : ((f : Int) == (t : Int)) = false := by simp; omega
      rcases fstB_spec (freeB b) 16 with ⟨hfst, _⟩ | ⟨j, hj, hfst, hfr, _⟩
      · have HK := Lib.hid (offer_full b f p t wr_ hbad hfst)
        clear hft HO hfst hbad
        refine (HK.out _).mono ?_
        rintro e w2 ⟨rfl, b2⟩
        have Z3 := Lib.hid (bl_new w2 44 (BKA zB))
        have H2 := Lib.hid (((H0.out).below b2).below (lay_below w2 44 (BKA zB) (BKA b)))
        clear b2
        go_wp2_with (refine wpList_stB rfl (.tmp 21) (.tmp 89) rfl w2.heap.size rfl 44 zB b rfl Z3.out ?_)
        go_ret
        exact ⟨rfl, (H2.out).bel⟩
      have HK := Lib.hid (offer_yes b f p t wr_ hbad hj hfst)
      have hfree : (b j).on = false := by unfold freeB at hfr; simpa using hfr
      have hq : 0 ≤ (at_ : Int) % 32 ∧ (at_ : Int) % 32 < 32 := by omega
      obtain ⟨c, d, ecd, hA1, hL1, hW1, n, hT1⟩ := back_calls (b := b) (f := f) (p := p) (t := t) (q := (at_ : Int) % 32) (wr_ := wr_) hj (HC.out) hfree hq
      rw [ecd] at HK
      have KA := Lib.hid hA1
      have KL := Lib.hid hL1
      have KW := Lib.hid hW1
      have KT := Lib.hid hT1
      have HQ := Lib.hid hq
      clear hft HO hfst hbad hfr hfree ecd hA1 hL1 hW1 hT1 hq
      refine (HK.out _).mono ?_
      rintro e w2 ⟨rfl, b2⟩
      have H2 := Lib.hid ((H0.out).below b2)
      have H3 := Lib.hid ((H2.out).below (lay_below w2 44 (BKA zB) (BKA c)))
      have N3 := Lib.hid (ob_lay (H2.out).bel 44 (BKA zB) (BKA c))
      have Z3 := Lib.hid (bl_new w2 44 (BKA zB))
      have l3 := (H2.out).bl.lt
      clear b2 H2 H0 HK
      go_wp2_with (first
        | (refine wpList_stB rfl (.tmp 21) (.tmp 89) rfl w2.heap.size rfl 44 zB c rfl Z3.out ?_)
        | (refine wpList_ldB rfl (.tmp 21) rfl w2.heap.size rfl 44 c (N3.out).bl ?_))
      refine (KA.out _).mono ?_
      rintro e w3 ⟨rfl, b3⟩
      have H4 := Lib.hid (((H3.out).below b3).below (lay_below w3 44 (BKA zB) (BKA d)))
      have C4 := Lib.hid (((N3.out).below b3).below (lay_below w3 44 (BKA zB) (BKA d)))
      have N4 := Lib.hid (ob_lay ((N3.out).below b3).bel 44 (BKA zB) (BKA d))
      have Z4 := Lib.hid (bl_new w3 44 (BKA zB))
      clear b3 H3 N3 Z3 KA l3
      go_wp2_with (first
        | (refine wpList_stB rfl (.tmp 24) (.tmp 113) rfl w3.heap.size rfl 44 zB d rfl Z4.out ?_)
        | (refine wpList_ldB rfl (.tmp 24) rfl w3.heap.size rfl 44 d (N4.out).bl ?_))
      refine (KL.out _).mono ?_
      rintro e w4 ⟨rfl, b4⟩
      have H5 := Lib.hid (((H4.out).below b4).below (lay_below w4 44 (BKA zB) (BKA c)))
      have C5 := Lib.hid (((C4.out).below b4).below (lay_below w4 44 (BKA zB) (BKA c)))
      have D5 := Lib.hid (((N4.out).below b4).below (lay_below w4 44 (BKA zB) (BKA c)))
      have N5 := Lib.hid (ob_lay ((N4.out).below b4).bel 44 (BKA zB) (BKA c))
      have Z5 := Lib.hid (bl_new w4 44 (BKA zB))
      clear b4 H4 C4 N4 Z4 KL
      go_wp2_with (first
        | (refine wpList_stB rfl (.tmp 26) (.tmp 120) rfl w4.heap.size rfl 44 zB c rfl Z5.out ?_)
        | (refine wpList_ldB rfl (.tmp 26) rfl w4.heap.size rfl 44 c (N5.out).bl ?_))
      refine (KW.out _).mono ?_
      rintro e w5 ⟨rfl, b5⟩
      have H6 := Lib.hid (((H5.out).below b5).below (lay_below w5 44 (BKA zB) (BKA b)))
      have C6 := Lib.hid (((C5.out).below b5).below (lay_below w5 44 (BKA zB) (BKA b)))
      have D6 := Lib.hid (((D5.out).below b5).below (lay_below w5 44 (BKA zB) (BKA b)))
      have X6 := Lib.hid (((N5.out).below b5).below (lay_below w5 44 (BKA zB) (BKA b)))
      have Y6 := Lib.hid (ob_lay ((N5.out).below b5).bel 44 (BKA zB) (BKA b))
      have Z6 := Lib.hid (bl_new w5 44 (BKA zB))
      clear b5 H5 C5 D5 N5 Z5 KW
      go_wp2_with (first
        | (refine wpList_stB rfl (.tmp 28) (.tmp 127) rfl w5.heap.size rfl 44 zB b rfl Z6.out ?_)
        | (refine wpList_ldB rfl (.tmp 26) rfl w4.heap.size rfl 44 c (X6.out).bl ?_)
        | (refine wpList_ldB rfl (.tmp 21) rfl w2.heap.size rfl 44 c (C6.out).bl ?_)
        | (refine wpList_ldB rfl (.tmp 28) rfl w5.heap.size rfl 44 b (Y6.out).bl ?_)
        | (refine wpList_ldB rfl (.tmp 13) rfl B rfl 44 b (H6.out).bl ?_)
        | (refine wpList_ldB rfl (.tmp 24) rfl w3.heap.size rfl 44 d (D6.out).bl ?_)
        | (refine wpList_eqB rfl (.tmp 140) (.tmp 141) rfl c rfl rfl ?_)
        | (refine wpList_eqB rfl (.tmp 145) (.tmp 146) rfl b rfl rfl ?_))
      refine (KT.out _).mono ?_
      rintro e w6 ⟨rfl, b6⟩
      have H7 := Lib.hid ((H6.out).below b6)
      have n0 : (0 : Int) ≤ (n : Int) := by omega
      clear b6
      go_wp2
      go_ret
      exact ⟨rfl, (H7.out).bel⟩
end Go.Proofs.Ythafcgppopfdkaa
