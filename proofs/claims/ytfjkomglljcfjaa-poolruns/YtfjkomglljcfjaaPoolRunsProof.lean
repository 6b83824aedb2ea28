/-
  PROVED: for every number n and every list of bytes l the law PoolRuns returns true: so many frames at once, or none; what isn't enough takes nothing; and both arguments read as they did. No condition.
-/
import Derived.Test.YtfjkomglljcfjaaRows
import Derived.Test.YtfjkomglljcfjaaPM
import Derived.Test.YtfjkomglljcfjaaPN
import Derived.Test.YtfjkomglljcfjaaPW
import Derived.WalkKit
import Derived.ProofKit
import Derived.OpenShut
import Derived.ShutString
import Derived.ChangeOld
import Derived.Below
import Derived.Deep.CutBlock
import Derived.Deep.RegionHeld3
import Derived.Deep.Slices
import Derived.Deep.Fields
namespace Go.Proofs.Ytfjkomglljcfjaa.poolRuns
open Go.Proofs.Ytfjkomglljcfjaa Go.Proofs.Ytfjkomglljcfjaa.PM
open Go.ChangeShapes Go.WideShapes Go.ChangeAt Go.RowKit
open Go.ChangeMaps (open_string shut_string)
set_option linter.unusedVariables false
set_option maxRecDepth 100000

theorem own : ownKnob Try.prog.godebug = none := by kernel_rfl
theorem laidOut : laidOutB Try.prog = true := by kernel_rfl
theorem wf_u8 {a : Int} (h : (Lit.int .u8 a).wf = true) : ∃ n : Nat, a = n ∧ n < 256 := by
  simp only [Lit.wf, IntKind.min, IntKind.max, IntKind.signed, IntKind.bits, Bool.and_eq_true] at h
  simp at h
  exact ⟨a.toNat, by omega, by omega⟩
/-- What the walk is told of a slice of integers that came in: it is nil, or it leads to a row of as many cells as its capacity says. -/
def IsRow (k : IntKind) (w : World) (a : Option Addr) (len cap : Nat) (zs : List Int) : Prop :=
  (a = none ∧ len = 0 ∧ cap = 0 ∧ zs = []) ∨
  ∃ x, a = some x ∧ len ≤ cap ∧ cap ≤ maxLen ∧ zs.length = cap ∧ (∀ i, i < zs.length → w.cell? (x.add i) = some (.int k (zs.getD i 0))) ∧ ∀ n ∈ zs, (Lit.int k n).wf = true
theorem IsRow.u8s {w : World} {a : Option Addr} {len cap : Nat} {zs : List Int} (h : IsRow .u8 w a len cap zs) : len ≤ maxLen ∧ ∃ f : Nat → Nat, U8At w a len f ∧ (∀ i, f i < 256) := by
  rcases h with ⟨rfl, rfl, rfl, rfl⟩ | ⟨y, rfl, hl, hm, hz, hcell, hwz⟩
  · exact ⟨by omega, fun _ => 0, fun i hi => by omega, fun _ => (by decide : (0 : Nat) < 256)⟩
  · have key : ∀ i, i < len → ∃ n : Nat, zs.getD i 0 = n ∧ n < 256 := fun i hi =>
      of_u8 (hwz (zs.getD i 0) (by simp [List.getD_eq_getElem?_getD, List.getElem?_eq_getElem (show i < zs.length by omega)]))
    refine ⟨by omega, fun i => (zs.getD i 0).toNat % 256, fun i hi => ?_, fun i => Nat.mod_lt _ (by omega)⟩
    obtain ⟨b, off, spot⟩ := y
    have hc := hcell i (by omega)
    have hspot : spot = none := by simpa [Addr.add] using World.cell?_spot (hcell 0 (by omega))
    subst hspot
    obtain ⟨n, en, hn⟩ := key i hi
    have hc2 : w.cell? ⟨b, off + i, none⟩ = some (.int .u8 (((zs.getD i 0).toNat % 256 : Nat) : Int)) := by
      rw [en] at hc
      rw [en, Int.toNat_natCast, Nat.mod_eq_of_lt hn, ← hc]
      unfold Addr.add
      split <;> simp_all
    exact ⟨b, off, rfl, World.block_lt_of_cell? _ _ hc2, hc2⟩

/-! ### the walk -/
set_option maxRecDepth 100000
theorem long_in (n : Nat) (a : Option Addr) (len cap : Nat) (h : 30 < len) (w : World) :
    Calls Try.prog 7 #[.int .u8 n, .slice a len cap] w fun e w' => e = .returned (.bool true) ∧ Below w.heap.size w w' := by
  go_enter Try.func7, Try.ntmps7
  go_wp2_with fail
  refine (awake_in _).mono ?_
  rintro e w1 ⟨rfl, b1⟩
  go_wp2_with fail
  refine (awake_in _).mono ?_
  rintro e w2 ⟨rfl, b2⟩
  have B2 := Lib.hid (below_up b1 b2)
  clear b1 b2
  go_wp2
  go_ret
  exact ⟨rfl, B2.out⟩
theorem ge_base {w w1 : World} (h : Below w.heap.size w w1) : ∀ x, w1.heap.size ≤ x → w.heap.size ≤ x := fun x hx => Nat.le_trans h.size hx
/-- What stands before a round. -/
structure RI (w wr : World) (B n : Nat) (us : Nat → Bool) : Prop where
  pl : Pl wr B (fun x => w.heap.size ≤ x) n us (-1)
  bel : Below w.heap.size w wr
theorem rising_at {L : List Nat} (h : L.Pairwise (· < ·)) {j : Nat} (hj : j < L.length) (h0 : 0 < j) : at0 L (j - 1) < at0 L j := by
  have := List.pairwise_iff_getElem.1 h (j - 1) j (by omega) hj (by omega)
  unfold at0
  simpa [List.getD_eq_getElem?_getD, hj, show j - 1 < L.length by omega] using this
theorem cnt_tks {us : Nat → Bool} {k i : Nat} : i ≤ cnt us k → cnt (tks us (wl us k) i) k = cnt us k - i := by
  induction i with
  | zero => intro _; rw [tks_zero]; rfl
  | succ i ih =>
    intro h
    have hx := at0_get (L := wl us k) (j := i) (by rw [wl_length]; omega)
    rw [← tks_succ us _ i _ hx]
    have hm := (wl_mem us (at0 (wl us k) i) k).1 (List.mem_iff_getElem?.2 ⟨i, hx⟩)
    have hf : tks us (wl us k) i (at0 (wl us k) i) = false := by
      unfold tks
      have : at0 (wl us k) i ∉ (wl us k).take i := by
        intro hm2
        rw [List.mem_iff_getElem?] at hm2
        obtain ⟨j, hj⟩ := hm2
        rw [List.getElem?_take] at hj
        split at hj
        · rename_i hji
          have hl : i < (wl us k).length := by rw [wl_length]; omega
          have := List.pairwise_iff_getElem.1 (wl_rising us k) j i (by omega) hl hji
          rw [List.getElem?_eq_getElem (by omega)] at hj
          rw [List.getElem?_eq_getElem hl] at hx
          injection hj with hj
          injection hx with hx
          omega
        · cases hj
      simp [hm.2, this]
    have := cnt_take hm.1 hf
    have := ih (by omega)
    omega
set_option maxHeartbeats 2000000 in
theorem runs_in (n : Nat) (hn : n < 256) (a : Option Addr) (len cap : Nat) (f : Nat → Nat) (hf : ∀ i, f i < 256) (hlen : len ≤ 30) (w : World) (ha : U8At w a len f) :
    Calls Try.prog 7 #[.int .u8 n, .slice a len cap] w fun e w' => e = .returned (.bool true) ∧ Below w.heap.size w w' := by
  have HA := Lib.hid ha
  have HFB := Lib.hid hf
  clear ha hf
  go_enter Try.func7, Try.ntmps7
  go_wp2_with fail
  refine (awake_in _).mono ?_
  rintro e w1 ⟨rfl, b1⟩
  have B1 := Lib.hid b1
  clear b1
  go_wp2_with fail
  refine (new_mid (k := n) (by omega) w1).mono ?_
  rintro e w2 ⟨B, rfl, p2, b2⟩
  have R2 := Lib.hid (show RI w w2 B n (fun _ => false) from ⟨p2.mono (fun x _ h => ge_base B1.out x h), below_up B1.out b2⟩)
  clear p2 b2 B1
  go_wp2_with fail
  go_loopw [7, 6] (fun i lf wr => ∃ (j : Nat) (us : Nat → Bool), j ≤ len ∧ i = .int .i64 j ∧ lf = .int .i64 (cnt us n : Nat) ∧ RI w wr B n us) (fun i _ _ => (len - (intOf i).toNat))
  case atStart => exact ⟨0, fun _ => false, by omega, rfl, by rw [cnt_all], R2.out⟩
  case round =>
    obtain ⟨j, us, hj, rfl, rfl, r3⟩ := hrel
    clear R2
    have R3 := Lib.hid r3
    have hcn := cnt_le us n
    by_cases hjl : j < len
    · obtain ⟨b, off, rfl, hbl, hc⟩ := ((HA.out).kept r3.bel) j hjl
      have hfj := (HFB.out) j
      clear r3
      obtain ⟨x, hx⟩ : ∃ x, f j = x := ⟨_, rfl⟩
      rw [hx] at hc hfj
      clear hx
      obtain ⟨c, hcc⟩ : ∃ c, cnt us n = c := ⟨_, rfl⟩
      have HCC := Lib.hid hcc
      rw [hcc] at hcn ⊢
      clear hcc
      have hx40 : x % 40 < 40 := Nat.mod_lt _ (by omega)
      go_wp2_with fail
      obtain ⟨m, hm, hm40⟩ : ∃ m : Nat, (x : Int) % 40 = m ∧ m < 40 := ⟨x % 40, by omega, hx40⟩
      rw [hm]
      clear hm hx40 hc hfj
      by_cases hcan : m ≤ c
      · obtain ⟨d, rfl⟩ : ∃ d, c = m + d := ⟨c - m, by omega⟩
        refine (some_in (R3.out).pl m (by omega)).mono ?_
        rintro e w4 (⟨v, rfl, h1, _, p4, c4, i4⟩ | ⟨rfl, i, h1, h2, _, h4, _⟩)
        · have R4 := Lib.hid (show RI w w4 B n (tks us (wl us n) m) from ⟨by
            have := p4
            rw [show wellK (-1) m = -1 from rfl] at this
            exact this.mono (fun x _ h => h.1), ch_below c4 (R3.out).bel (fun x h => h.1)⟩)
          have hcn4 : cnt (tks us (wl us n) m) n = d := by rw [cnt_tks h1, HCC.out]; omega
          have HC4 := Lib.hid hcn4
          obtain ⟨av, capv, rfl, hcell⟩ := i4.ex
          have HV := Lib.hid hcell
          clear p4 c4 i4 hcell hcn4 h1 R3
          go_wp2_with fail
          go_loopw [11] (fun i2 wr2 => ∃ (j2 : Nat), j2 ≤ m ∧ i2 = .int .i64 j2 ∧ ∃ q, wr2 = w4.drewN q) (fun i2 _ => (m - (intOf i2).toNat))
          case atStart => exact ⟨0, by omega, rfl, 0, rfl⟩
          case round =>
            obtain ⟨j2, hj2, rfl, q, hW⟩ := hrel
            have HW := Lib.hid hW
            have R5 := Lib.hid (show RI w wr B n (tks us (wl us n) m) from by rw [HW.out]; exact ⟨(R4.out).pl.drewN q, below_draws (R4.out).bel q⟩)
            clear hW
            by_cases hjm : j2 < m
            · obtain ⟨g, rfl, _, hgl, c1'⟩ := (HV.out) j2 hjm
              have c1 : wr.cell? ⟨g, j2, none⟩ = some (.int .i64 (at0 (wl us n) j2 : Nat)) := by rw [HW.out]; exact c1'
              clear c1'
              have hlen2 : j2 < (wl us n).length := by rw [wl_length, HCC.out]; omega
              have hmem : at0 (wl us n) j2 ∈ (wl us n).take m := List.mem_iff_getElem?.2 ⟨j2, by rw [List.getElem?_take, if_pos hjm]; exact at0_get hlen2⟩
              have hxn := ((wl_mem us _ n).1 (List.mem_of_mem_take hmem)).1
              have hus : tks us (wl us n) m (at0 (wl us n) j2) = true := by unfold tks; simp [hmem]
              have HU := Lib.hid (fun q2 => used_eq ((R5.out).pl.drewN q2) (at0 (wl us n) j2) true hxn hus)
              by_cases h0 : j2 = 0
              · subst h0
                generalize at0 (wl us n) 0 = y at *
                clear hmem hus hlen2
                go_wp2
                go_quiet ((go_at_call 14; exact quiet_same ((HU.out) _)))
                go_wp2
                go_roundw
                case rel => exact ⟨1, by omega, by go_num, _, by rw [HW.out, World.drewN_drewN]⟩
                case measure => simp [intOf]; omega
              · obtain ⟨g2, eg, _, _, c2'⟩ := (HV.out) (j2 - 1) (by omega)
                injection eg with eg
                injection eg with eg
                subst eg
                have c2 : wr.cell? ⟨g, j2 - 1, none⟩ = some (.int .i64 (at0 (wl us n) (j2 - 1) : Nat)) := by rw [HW.out]; exact c2'
                clear c2'
                have hr := rising_at (wl_rising us n) hlen2 (by omega)
                generalize at0 (wl us n) j2 = y at *
                generalize at0 (wl us n) (j2 - 1) = z at *
                obtain ⟨j3, rfl⟩ : ∃ j3, j2 = j3 + 1 := ⟨j2 - 1, by omega⟩
                rw [show j3 + 1 - 1 = j3 by omega] at c2
                clear hmem hus hlen2
                go_wp2
                go_quiet ((go_at_call 14; exact quiet_same ((HU.out) _)))
                go_wp2
                go_roundw
                case rel => exact ⟨j3 + 1 + 1, by omega, by go_num, _, by rw [HW.out, World.drewN_drewN]⟩
                case measure => simp [intOf]; omega
            · obtain rfl : j2 = m := by omega
              go_wp2_with fail
              refine (left_eq (R5.out).pl HC4.out).mono ?_
              rintro e w5 ⟨rfl, rfl⟩
              go_wp2
              go_roundw
              case rel => exact ⟨j + 1, tks us (wl us n) j2, by omega, by go_num, by rw [HC4.out]; go_num, R5.out⟩
              case measure => simp [intOf]; omega
        · exfalso
          rw [HCC.out] at h4
          omega
      · refine (some_in (R3.out).pl m (by omega)).mono ?_
        rintro e w4 (⟨v, rfl, h1, _⟩ | ⟨rfl, i, h1, h2, _, h4, p4, c4⟩)
        · exfalso
          rw [HCC.out] at h1
          omega
        · have R4 := Lib.hid (show RI w w4 B n us from ⟨by
            have := p4
            rw [show wellK (-1) i = -1 from rfl] at this
            exact this.mono (fun x _ h => by
              rcases h with h | h
              · exact h.1
              · exact ge_base (R3.out).bel x h), ch_below c4 (R3.out).bel (fun x h => h.1)⟩)
          clear p4 c4 R3 h1 h2 h4
          go_wp2_with fail
          go_loopw [11] (fun i2 wr2 => i2 = .int .i64 0 ∧ wr2 = w4) (fun _ _ => 0)
          case atStart => exact ⟨rfl, rfl⟩
          case round =>
            obtain ⟨rfl, rfl⟩ := hrel
            go_wp2_with fail
            refine (left_eq (R4.out).pl HCC.out).mono ?_
            rintro e w5 ⟨rfl, rfl⟩
            go_wp2
            go_roundw
            case rel => exact ⟨j + 1, us, by omega, by go_num, by rw [HCC.out], R4.out⟩
            case measure => simp [intOf]; omega
    · clear r3
      go_wp2
      go_ret
      exact ⟨rfl, (R3.out).bel⟩
theorem walk (p_n : Nat) (hp_n : p_n < 256) (p_l : Option Addr) (p_l_len p_l_cap : Nat) (p_l_z : List Int) (w : World) (hp_l : IsRow .u8 w p_l p_l_len p_l_cap p_l_z) :
    Calls Try.prog 7 #[.int .u8 p_n, .slice p_l p_l_len p_l_cap] w fun e w' => e = .returned (.bool true) ∧ Below w.heap.size w w' := by
  obtain ⟨hm, f, hb, hf⟩ := hp_l.u8s
  by_cases h : 30 < p_l_len
  · exact long_in p_n p_l p_l_len p_l_cap h w
  · exact runs_in p_n hp_n p_l p_l_len p_l_cap f hf (by omega) w hb

/-! ### the row's step -/
set_option maxRecDepth 100000 in
theorem lifted (os : Os) (started : os.Started) (H : Type) (enc : TypeId × Value → H) :
    ReturnsInHanded {} Try.checked os 7 .any (Rows.poolRunsSpec.pre6 enc Try.prog Try.f7 Rows.poolRunsRow.domain false) (Rows.poolRunsSpec.post enc Try.prog Try.f7 false true false false) := by
  refine returnsInHanded_of_change (C := Try.checked) own started (by kernel_rfl) Try.func7
    (ChangeSpec.witness6 (enc := enc) (C := Try.checked) false ⟨#[], #[.int .u8 0, .slice none 0 0], []⟩ 8 (by kernel_rfl) (by kernel_rfl) (by kernel_rfl) (by kernel_rfl)) ?_
  intro W base args ds gs before hval0 hW hcnd _
  have hval : ∀ (j : Nat) t v, Try.f7.params[j]? = some t → args[j]? = some v → Value.okWide Try.prog W .any base t v := hval0
  have hW' := hW
  obtain ⟨p, q, hA0, hV, rfl, hfz, hnd⟩ := hW
  have hA : DataW.TrodAll enc Try.prog W 0 (fun _ => true) true Try.f7.params.toList args.toList ds p := hA0
  rw [Try.params7] at hA hval
  obtain ⟨v0, vs0, d0, ds0, p0, q0, hargs, rfl, rfl, h0, r0⟩ := trodAll_cons hA
  obtain ⟨v1, vs1, d1, ds1, p1, q1, rfl, rfl, rfl, h1, r1⟩ := trodAll_cons r0
  obtain ⟨rfl, rfl, rfl⟩ := trodAll_nil r1
  obtain rfl : args = #[v0, v1] := by cases args; simp_all
  obtain ⟨rfl, rfl⟩ := trodVars_none hV
  obtain ⟨a0, rfl, rfl, rfl, w0⟩ := open_int Try.underlying5 (hval 0 5 v0 rfl rfl) h0
  obtain ⟨n0, rfl, b0⟩ := wf_u8 w0
  obtain ⟨a1, len1, cap1, rfl⟩ := okWide_slice Try.underlying40 (hval 1 40 v1 rfl rfl)
  have k1 := h1
  have lt1 : ∀ x ∈ p1, x.block < W.heap.size := by obtain ⟨m, hm⟩ := k1; exact DataW.trod_lt m _ _ _ hm
  obtain ⟨z1, w1⟩ : ∃ zs, IsRow .u8 W a1 len1 cap1 zs := by
    obtain ⟨fuel, hf⟩ := h1
    rcases open_ints Try.underlying40 Try.underlying5 (by kernel_rfl) hf with ⟨hcs, _⟩ | ⟨x, l, c, zs, hcs, _, hl, hm, hz, _, hcell, hwz⟩
    · simp [Value.cells] at hcs
      obtain ⟨rfl, rfl, rfl⟩ := hcs
      exact ⟨[], .inl ⟨rfl, rfl, rfl, rfl⟩⟩
    · simp [Value.cells] at hcs
      obtain ⟨rfl, rfl, rfl⟩ := hcs
      exact ⟨zs, .inr ⟨_, rfl, hl, hm, by simpa using hz, hcell, hwz⟩⟩
  clear hA0 hval0
  refine (walk n0 b0 a1 len1 cap1 z1 W w1).mono fun e W' ⟨he, bel⟩ => ?_
  subst he
  exact ⟨_, rfl, _, _, _, [], _, [], hW', trodAll_mk1 (shut_bool Try.underlying4 _), (trodAll_cons_mk (shut_int Try.underlying5 w0) (trodAll_cons_mk (Below.trod laidOut (by kernel_rfl) (of_decide_eq_true (by kernel_rfl)) k1 bel lt1) trodAll_mk0)), rfl, bel.frame _, fun h => by cases h⟩

theorem over : Rows.poolRunsRow.holds Try.pinned (OpenSpec.ofChange Rows.poolRunsSpec) :=
  OpenClaim.holds_of_wide 7 Try.f7 rfl rfl rfl rfl rfl rfl rfl ⟨rfl, rfl, rfl, rfl, rfl⟩ rfl rfl rfl rfl rfl (by kernel_rfl) Try.func7 (by kernel_rfl)
    (of_decide_eq_true (by kernel_rfl)) (by unfold Func.isWrapper; first | (rw [if_pos (by decide +kernel)]; kernel_rfl) | (rw [if_neg (by decide +kernel)]; exact ⟨rfl, rfl⟩))
    (fun os started H enc _ => lifted os started H enc)

/-- THE STATEMENT -/
theorem proved : Rows.PoolRunsSaid := over
#print axioms proved
end Go.Proofs.Ytfjkomglljcfjaa.poolRuns
