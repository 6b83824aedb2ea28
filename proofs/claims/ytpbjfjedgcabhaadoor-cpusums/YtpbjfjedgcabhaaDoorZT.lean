/-
  The walk of CpuSums.
-/
import Derived.Test.YtpbjfjedgcabhaaDoorZS
namespace Go.Proofs.YtpbjfjedgcabhaaDoor
open Go.ChangeShapes Go.WideShapes Go.ChangeAt Go.RowKit
open WM CM
set_option maxRecDepth 100000
set_option linter.unusedVariables false

theorem refline_shut {S : SV} (ho : S.op = false) (w : World) : Calls Tryd.prog 17 #[S.agg] w fun e w' => e = .returned (.int .i64 (-1)) ∧ Below w.heap.size w w' := by
  have hl := ls_new w S
  have c1 := hl.op'
  rw [ho] at c1
  have HB := Lib.hid (below_new w (.cells S.cells 26))
  clear hl ho
  unfold SV.agg
  go_enter Tryd.func17, Tryd.ntmps17
  go_wp2
  generalize w.alloc (.cells S.cells 26) = W at *
  go_loop [3] (fun i => i = .int .i64 0) (fun _ => 0)
  case atStart => rfl
  case round =>
    obtain rfl := hrel
    go_wp2
    go_ret
    exact ⟨rfl, HB.out⟩
/-- append, as one step of a region that draws its order. -/
theorem step_appN {ops : Array Oper} {o : Oper} {a : Act} {w : World} {K : Act → World → Prop} {Q : Exit → Act → World → Prop} {E : Prop} (hgd : o.guard = none) (s x : Operand)
    (ho : o.op = .call { callee := .builtin .append, args := #[s, x], argTypes := #[28, 28] }) (base : Nat) (v : Value) (n : Nat) (f : Nat → Nat) (hs : a.eval s = v) (hown : Own w base v n f)
    (A : Option Addr) (m c : Nat) (p : Nat → Nat) (hx : a.eval x = .slice A m c) (hb : BytesAt w A m p) (hm : 0 < m) (h63 : n + m ≤ 1000000000) (hbase : base ≤ w.heap.size)
    (h : ∀ v' w', Own w' base v' (n + m) (putF f n m p) → w.grownBy w' v.ownBlock → K (a.put o.dst v') w') :
    if Region.wanted o (yielded ops a.tmps) = true then Oper.wp Tryd.prog o a w K Q else E := by
  have hw : Region.wanted o (yielded ops a.tmps) = true := by simp [Region.wanted, hgd]
  rw [if_pos hw]
  have hu : Tryd.prog.underlying 28 = some (.slice 5) := by kernel_rfl
  have hi : (Tryd.prog.info? 5).map (fun i => (i.zero, i.size, i.bytes)) = some (some (.int .u8 0), 1, 1) := by kernel_rfl
  obtain ⟨i, hi, hz, h1, h2⟩ := info_parts hi
  obtain ⟨b, off, rfl, _⟩ := hb 0 hm
  have hsrc : ∀ j u, (rowV p m)[j]? = some u → w.cell? ((⟨b, off, none⟩ : Addr).add j) = some u := by
    intro j u hj
    obtain ⟨hjm, rfl⟩ := rowV_some hj
    obtain ⟨b', off', e, hc⟩ := hb j hjm
    injection e with e
    injection e with e1 e2
    subst e1 e2
    rw [← hc]
    congr 1
    unfold Addr.add
    split <;> simp_all
  obtain ⟨v', w', hrun, h3, h4, _, h5⟩ := run_append_own_at (P := Tryd.prog) w base 28 o.type 5 i (.int .u8 0) 1 1 hu hi hz h1 h2 rfl (by omega) v n (rowV f n) hown ⟨b, off, none⟩ m c (rowV p m) (by rw [rowV_length]; omega) hsrc (rowV_one p m) (by unfold maxLen; omega) (by omega) hbase
  unfold Oper.wp execOp
  simp only [ho, resolve, invoke, builtin, Sem.run_bind, Sem.run_pure, Result.andThen_ok, List.map_toArray, List.map_cons, List.map_nil, hs, hx, hrun]
  rw [row_app] at h3
  exact h v' w' h3 h4
def suA (fr : Int) (k : Nat) : Array Value := #[.int .u32 (wordN 1 1 0 0 0 : Nat), .int .u32 (wordN 1 2 0 0 fr : Nat), .int .u32 (wordN 1 3 0 0 k : Nat), .int .u32 (wordN 14 3 0 0 5 : Nat), .int .u32 (wordN 3 1 1 2 0 : Nat), .int .u32 (wordN 11 2 2 0 1 : Nat), .int .u32 (wordN 11 3 3 0 (-1) : Nat), .int .u32 (wordN 14 10 10 0 (-4) : Nat), .int .u32 (wordN 21 0 0 0 0 : Nat)]
theorem suA_at (fr : Int) (k i : Nat) (hi : i < 9) : (suA fr k)[i]? = some (.int .u32 (suL fr k i : Nat)) := by
  have h : i = 0 ∨ i = 1 ∨ i = 2 ∨ i = 3 ∨ i = 4 ∨ i = 5 ∨ i = 6 ∨ i = 7 ∨ i = 8 := by omega
  rcases h with rfl | rfl | rfl | rfl | rfl | rfl | rfl | rfl | rfl <;> rfl
theorem bytes4 (w : World) (v0 v1 v2 v3 : Int) (x : Nat) (h0 : v0 = ((byteN x 0 : Nat) : Int)) (h1 : v1 = ((byteN x 1 : Nat) : Int)) (h2 : v2 = ((byteN x 2 : Nat) : Int)) (h3 : v3 = ((byteN x 3 : Nat) : Int)) :
    BytesAt (w.alloc (.cells #[.int .u8 v0, .int .u8 v1, .int .u8 v2, .int .u8 v3] 5)) (some ⟨w.heap.size, 0, none⟩) 4 (byteN x) := by
  subst h0 h1 h2 h3
  intro i hi
  refine ⟨_, _, rfl, ?_⟩
  rw [Nat.zero_add, cell_of (heap_alloc_new w _)]
  have h : i = 0 ∨ i = 1 ∨ i = 2 ∨ i = 3 := by omega
  rcases h with rfl | rfl | rfl | rfl <;> rfl
theorem own_congr {w : World} {base n : Nat} {v : Value} {f g : Nat → Nat} (h : Own w base v n f) (he : ∀ i, i < n → f i = g i) : Own w base v n g := by
  unfold Own at *
  rw [← rowV_congr f g n he]
  exact h
set_option maxHeartbeats 40000000 in
theorem cpuSums_core (n : Nat) (fr : Int) (hn : n < 256) (hf : -32768 ≤ fr ∧ fr ≤ 32767) (w : World) (hT : TabAt w) :
    Calls Tryd.prog 8 #[.int .u8 n, .int .i16 fr] w fun e w' => e = .returned (.bool true) ∧ Below w.heap.size w w' := by
  have HA := Lib.hid (fun U (h : TabAt U) => awake12_in U h)
  have HT := Lib.hid hT
  have HZ := zeroS_run
  unfold SV.agg at HZ
  obtain ⟨k, hk⟩ : ∃ k, n % 50 = k := ⟨_, rfl⟩
  have hk50 : k < 50 := by omega
  have HK := Lib.hid (show ((n : Int) % 50) = (k : Int) by omega)
  have hkk : (k : Int) < 50 := by omega
  have H0 := Lib.hid (fun U => refword_in 1 1 0 0 0 U (by decide) (by decide) (by decide) (by decide))
  have H1 := Lib.hid (fun U => refword_in 1 2 0 0 fr U (by decide) (by decide) (by decide) (by decide))
  have H2 := Lib.hid (fun U => refword_in 1 3 0 0 k U (by decide) (by decide) (by decide) (by decide))
  have H3 := Lib.hid (fun U => refword_in 14 3 0 0 5 U (by decide) (by decide) (by decide) (by decide))
  have H4 := Lib.hid (fun U => refword_in 3 1 1 2 0 U (by decide) (by decide) (by decide) (by decide))
  have H5 := Lib.hid (fun U => refword_in 11 2 2 0 1 U (by decide) (by decide) (by decide) (by decide))
  have H6 := Lib.hid (fun U => refword_in 11 3 3 0 (-1) U (by decide) (by decide) (by decide) (by decide))
  have H7 := Lib.hid (fun U => refword_in 14 10 10 0 (-4) U (by decide) (by decide) (by decide) (by decide))
  have H8 := Lib.hid (fun U => refword_in 21 0 0 0 0 U (by decide) (by decide) (by decide) (by decide))
  clear hT
  go_enter Tryd.func8, Tryd.ntmps8
  go_wp2_with fail
  refine (HA.out _ HT.out).mono ?_
  rintro e w1 ⟨rfl, b1⟩
  go_wp2_with fail
  refine (H0.out _).mono ?_
  rintro e x0 ⟨rfl, c0⟩
  go_wp2_with fail
  refine (H1.out _).mono ?_
  rintro e x1 ⟨rfl, c1⟩
  go_wp2_with fail
  rw [HK.out]
  refine (H2.out _).mono ?_
  rintro e x2 ⟨rfl, c2⟩
  go_wp2_with fail
  refine (H3.out _).mono ?_
  rintro e x3 ⟨rfl, c3⟩
  go_wp2_with fail
  refine (H4.out _).mono ?_
  rintro e x4 ⟨rfl, c4⟩
  go_wp2_with fail
  refine (H5.out _).mono ?_
  rintro e x5 ⟨rfl, c5⟩
  go_wp2_with fail
  refine (H6.out _).mono ?_
  rintro e x6 ⟨rfl, c6⟩
  go_wp2_with fail
  refine (H7.out _).mono ?_
  rintro e x7 ⟨rfl, c7⟩
  go_wp2_with fail
  refine (H8.out _).mono ?_
  rintro e x8 ⟨rfl, c8⟩
  have B8 := Lib.hid (below_up (below_up (below_up (below_up (below_up (below_up (below_up (below_up (below_up b1 c0) c1) c2) c3) c4) c5) c6) c7) c8)
  clear b1 c0 c1 c2 c3 c4 c5 c6 c7 c8 H0 H1 H2 H3 H4 H5 H6 H7 H8
  go_wp2_with (refine wpList_buildSlice rfl 56 24 9 _ rfl (suA fr k) _ _ Tryd.underlying56 rfl rfl (by decide) (by decide) (by kernel_rfl) ?_)
  have HQ : Hid (∀ i, i < 9 → (x8.alloc (.cells (suA fr k) 24)).cell? ⟨x8.heap.size, i, none⟩ = some (.int .u32 (suL fr k i : Nat))) := Lib.hid (fun i hi => by rw [cell_of (heap_alloc_new x8 (.cells (suA fr k) 24))]; exact suA_at fr k i hi)
  have hqW : x8.heap.size < (x8.alloc (.cells (suA fr k) 24)).heap.size := by simp
  have B9 := Lib.hid (below_more B8.out (.cells (suA fr k) 24))
  clear B8
  generalize x8.alloc (.cells (suA fr k) 24) = W at *
  generalize x8.heap.size = q at *
  obtain ⟨B0, hB0⟩ : ∃ B0, W.heap.size = B0 := ⟨_, rfl⟩
  go_loopw [6, 7] (fun p i wr => ∃ j : Nat, j ≤ 9 ∧ i = .int .i64 j ∧ Own wr B0 p (4 * j) (suF fr k) ∧ Below B0 W wr) (fun _ i _ => 9 - (intOf i).toNat)
  case atStart => exact ⟨0, by omega, rfl, Own.nil _ _ _, Below.refl _ _⟩
  case round =>
    obtain ⟨j, hj, rfl, hown, hbl⟩ := hrel
    by_cases hlt : j < 9
    · have hlt' : (j : Int) < 9 := by omega
      have hc : wr.cell? ⟨q, j, none⟩ = some (.int .u32 (suL fr k j : Nat)) := (hbl.cell (p := ⟨q, j, none⟩) (by rw [← hB0]; exact hqW)).trans (HQ.out j hlt)
      have hx := suL_lt fr k j
      have hbase : B0 ≤ wr.heap.size := by rw [← hB0]; exact hbl.size
      obtain ⟨x, hxx⟩ : ∃ x, suL fr k j = x := ⟨_, rfl⟩
      rw [hxx] at hc hx
      have HXX := Lib.hid hxx
      have HOWN : Hid (∀ w', Below wr.heap.size wr w' → Own w' B0 u6 (4 * j) (suF fr k)) := Lib.hid (fun w' hb => hown.kept (grown_of_below hb) (by cases hv : Value.ownBlock u6 <;> simp))
      have HLT : Hid (∀ g, Value.ownBlock u6 = some g → B0 ≤ g) := Lib.hid (fun g hg => (World.ownsRow.lt hown g hg).1)
      have HBL := Lib.hid hbl
      clear hown hbl hxx
      go_wp2_with fail
      go_region_law (refine step_appN rfl _ (.tmp 62) rfl B0 u6 (4 * j) (suF fr k) rfl (HOWN.out _ (by first | exact (below_draws (Below.refl _ _) 1).alloc (Nat.le_refl _) _ | exact below_draws (below_new _ _) 1)) (some ⟨wr.heap.size, 0, none⟩) 4 4 (byteN x) rfl
                       (bytes4 _ _ _ _ _ x (by rw [IntKind.wrap_u8']; unfold byteN; simp <;> omega) (by rw [IntKind.wrap_u8']; unfold byteN; simp <;> omega) (by rw [IntKind.wrap_u8']; unfold byteN; simp <;> omega) (by rw [IntKind.wrap_u8']; unfold byteN; simp <;> omega)) (by omega) (by omega) (by simp; omega) ?_
                     intro v' w' hown' hg')
      all_goals
        have hf4 : Own w' B0 v' (4 * (j + 1)) (suF fr k) := by
          rw [show 4 * (j + 1) = 4 * j + 4 by omega]
          refine own_congr hown' (fun i hi => ?_)
          unfold putF
          by_cases h4 : 4 * j ≤ i ∧ i < 4 * j + 4
          · rw [if_pos h4]
            unfold suF
            rw [show i / 4 = j by omega, HXX.out, show i % 4 = i - 4 * j by omega]
          · rw [if_neg h4]
        have hb4 := ((HBL.out).alloc hbase (.cells #[.int .u8 (IntKind.u8.wrap (x : Int)), .int .u8 (IntKind.u8.wrap ((x : Int) / 256)), .int .u8 (IntKind.u8.wrap ((x : Int) / 65536)), .int .u8 (IntKind.u8.wrap ((x : Int) / 16777216))] 5))
        have hb5 := (below_draws hb4 1).grown hg' (by simp [World.drewN]; omega) HLT.out
        have H4 := Lib.hid hf4
        have H5 := Lib.hid hb5
        clear hf4 hb4 hb5 hown' hg'
        go_wp2
        go_roundw
        case rel => exact ⟨j + 1, by omega, by go_num, H4.out, H5.out⟩
        case measure => simp [intOf]; omega
    · obtain rfl : j = 9 := by omega
      obtain ⟨A, cap, rfl, hby⟩ := Own.form hown
      have HBY := Lib.hid hby
      have hB0w : w.heap.size ≤ B0 := by rw [← hB0]; exact (B9.out).size
      have B5 : Hid (Below w.heap.size w wr) := Lib.hid ((B9.out).trans (hbl.mono hB0w))
      clear hown hbl hby B9 HQ hqW
      go_wp2_with fail
      refine (some_in 1 0 A none 36 0 cap 0 (suF fr k) (fun _ => 0) (suF_lt fr k) (fun _ => by omega) (by omega) (by omega) wr HBY.out (BytesAt.none_ _ _ _)).mono ?_
      rintro e w5 ⟨L1, L2, rfl, hI⟩
      have B6 := Lib.hid (below_up B5.out hI.bel)
      have HI := Lib.hid hI
      have hsz := (B5.out).size
      clear hI HBY
      have hbu : Below w5.heap.size w5 ((w5.alloc (.cells SV.zero.cells 26)).setRow w5.heap.size SV.zero.cells) := (below_new w5 _).grown (grown_setRowS _ _ _) (by simp) (fun j hj => by injection hj with hj; omega)
      have hpg : ¬ pgS L1 (suM fr k) w5.heap.size := pg_new (HI.out).m1 (Nat.le_refl _)
      have hlm := (HI.out).m1.lt
      have hne : w5.heap.size ≠ L1.M := by omega
      have hb1 : Hid (∀ i, pgS L1 (suM fr k) i → w.heap.size ≤ i) := Lib.hid (by
        rintro i ⟨qq, hq, hh, rfl⟩
        have h1 := (HI.out).b1 qq hq hh
        omega)
      have hbs : Hid (w.heap.size ≤ w5.heap.size) := Lib.hid (B6.out).size
      have HST0 : Hid (LS ((w5.alloc (.cells SV.zero.cells 26)).setRow w5.heap.size SV.zero.cells) w5.heap.size (suAt fr k 0) ∧ Mm ((w5.alloc (.cells SV.zero.cells 26)).setRow w5.heap.size SV.zero.cells) L1 (suM fr k) ∧ Below w.heap.size w ((w5.alloc (.cells SV.zero.cells 26)).setRow w5.heap.size SV.zero.cells)) :=
        Lib.hid ⟨(ls_new w5 SV.zero).put SV.zero, (HI.out).m1.below hbu, below_up B6.out hbu⟩
      have HSTEP : Hid (∀ U j (q : Int), suGood fr k (suAt fr k j) q → LS U w5.heap.size (suAt fr k j) → Mm U L1 (suM fr k) → Below w.heap.size w U →
          Calls Tryd.prog 16 #[.pointer (some ⟨w5.heap.size, 0, none⟩), .iface 54 (.agg #[.pointer (some ⟨L1.M, 0, none⟩)]), .int .u64 0, .int .i64 0] U fun e w' => e = .returned (.agg #[.int .u8 q, .int .u64 0]) ∧ (LS w' w5.heap.size (suAt fr k (j + 1)) ∧ Mm w' L1 (suM fr k) ∧ Below w.heap.size w w')) := Lib.hid (by
        intro U j q hg hl hm hb
        have h := step_in hl hm hg.2 ((HT.out).below hb) hne hpg 0 0 (by decide)
        rw [hg.1] at h
        refine h.mono ?_
        rintro e w' ⟨rfl, hA⟩
        exact ⟨rfl, hA.ls, hA.mm, hA.tr.to_below hb hb.size (fun i hi => by rcases hi with rfl | hi; exact hbs.out; exact hb1.out i hi)⟩)
      clear HI hpg hlm hb1 hbu B5 B6
      generalize hC : w5.heap.size = C at *
      go_wp2_with (first
        | (refine wpList_bd0 rfl rfl ?_; unfold SV.agg)
        | (refine wpList_stS rfl (.tmp 10) (.tmp 69) rfl C rfl SV.zero SV.zero rfl (by rw [← hC]; exact ls_new w5 _) ?_))
      rw [HK.out]
      have HST1 := HST0.out
      have HL0 := Lib.hid HST1.1
      have HM0 := Lib.hid HST1.2.1
      have HBB0 := Lib.hid HST1.2.2
      clear HST0 HST1
      generalize (w5.alloc (.cells SV.zero.cells 26)).setRow C SV.zero.cells = U at *
      have HXS : Hid (∀ t : Nat, IntKind.u64.wrap ((suX fr t : Int) + IntKind.u64.wrap (IntKind.u64.wrap fr + (t : Int))) = ((suX fr (t + 1) : Nat) : Int)) := Lib.hid (fun t => by
        show _ = (((suX fr t + (kN fr + t) % 18446744073709551616) % 18446744073709551616 : Nat) : Int)
        unfold kN
        rw [IntKind.wrap_u64, IntKind.wrap_u64, IntKind.wrap_u64]
        omega)
      go_loop [12, 13] (fun v i => ∃ t : Nat, t ≤ k ∧ i = .int .i64 t ∧ v = .int .u64 (suX fr t : Nat)) (fun _ i => k - (intOf i).toNat)
      case atStart => exact ⟨0, by omega, rfl, rfl⟩
      case round =>
        obtain ⟨t, ht, rfl, rfl⟩ := hrel
        by_cases htk : t < k
        · have htk' : (t : Int) < k := by omega
          have ht50 : (t : Int) < 50 := by omega
          go_wp2
          go_round
          case rel => exact ⟨t + 1, by omega, by go_num, by rw [← HXS.out t]⟩
          case measure => simp [intOf]; omega
        · obtain rfl : k = t := by omega
          have hk250 : (k : Int) ≤ 49 := by omega
          go_wp2_with fail
          go_loopw [14, 15] (fun i x wr => ∃ j : Nat, j ≤ 5 + 5 * k ∧ i = .int .i64 j ∧ LS wr C (suAt fr k j) ∧ Mm wr L1 (suM fr k) ∧ Below w.heap.size w wr) (fun i _ _ => 5 + 5 * k - (intOf i).toNat)
          case atStart => exact ⟨0, by omega, rfl, HL0.out, HM0.out, HBB0.out⟩
          case round =>
            obtain ⟨j, hj, rfl, hl, hm, hb⟩ := hrel
            by_cases hjk : j < 5 + 5 * k
            · have hjk' : (j : Int) < 5 + 5 * (k : Int) := by omega
              by_cases hlast : j < 4 + 5 * k
              · have HG := Lib.hid (HSTEP.out wr j 0 (suAt_good fr k hf hk50 j hlast) hl hm hb)
                clear hl hm hb
                have hjl : (j : Int) < 4 + 5 * (k : Int) := by omega
                go_wp2_with fail
                refine (HG.out).mono ?_
                rintro e w6 ⟨rfl, hl, hm, hb⟩
                have hbe := below_new w6 (.cells #[.int .u8 0, .int .u64 0] 50)
                have HL := Lib.hid (hl.below hbe)
                have HM := Lib.hid (hm.below hbe)
                have HB := Lib.hid (below_up hb hbe)
                clear hl hm hb hbe HG
                go_wp2
                go_roundw
                case rel => exact ⟨j + 1, by omega, by go_num, HL.out, HM.out, HB.out⟩
                case measure => simp [intOf]; omega
              · obtain rfl : j = 4 + 5 * k := by omega
                have HG := Lib.hid (HSTEP.out wr (4 + 5 * k) 3 (suAt_last fr k hf hk50).1 hl hm hb)
                clear hl hm hb
                have hjl : ¬ ((4 + 5 * k : Nat) : Int) < 4 + 5 * (k : Int) := by omega
                go_wp2_with fail
                refine (HG.out).mono ?_
                rintro e w6 ⟨rfl, hl, hm, hb⟩
                have hbe := below_new w6 (.cells #[.int .u8 3, .int .u64 0] 50)
                have HL := Lib.hid (hl.below hbe)
                have HM := Lib.hid (hm.below hbe)
                have HB := Lib.hid (below_up hb hbe)
                clear hl hm hb hbe HG
                go_wp2
                go_roundw
                case rel => exact ⟨4 + 5 * k + 1, by omega, by go_num, HL.out, HM.out, HB.out⟩
                case measure => simp [intOf]; omega
            · obtain rfl : j = 5 + 5 * k := by omega
              rw [(suAt_last fr k hf hk50).2] at hl
              have HB := Lib.hid hb
              have HL := Lib.hid hl
              have r1 : wr.cell? ⟨C, 1, none⟩ = some (.int .u64 (suX fr k : Nat)) := hl.reg 1 (by decide)
              have r2 : wr.cell? ⟨C, 23, none⟩ = some (.int .u8 1) := hl.st'
              have HRL := Lib.hid (refline_shut (S := { suS (suX fr k) ((kN fr + k) % 18446744073709551616) 0 36 with st := 1 }) rfl)
              clear hl hm hb HSTEP HL0 HM0 HBB0
              generalize ({ suS (suX fr k) ((kN fr + k) % 18446744073709551616) 0 36 with st := 1 } : SV) = Y at *
              unfold SV.agg at HRL
              go_wp2_with (refine wpList_ldS rfl (.tmp 10) rfl C rfl Y HL.out ?_; unfold SV.agg)
              refine (HRL.out _).mono ?_
              rintro e w7 ⟨rfl, hb7⟩
              have HB7 := Lib.hid (below_up HB.out hb7)
              go_wp2
              go_ret
              exact ⟨rfl, HB7.out⟩
end Go.Proofs.YtpbjfjedgcabhaaDoor
