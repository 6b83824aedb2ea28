/-
  PROVED: for every list of bytes the law PoolBack returns true: frames that are given back in any order come rising again; and the list reads as it did. No condition.
-/
import Derived.Test.YtfjkomglljcfjaaRows
import Derived.Test.YtfjkomglljcfjaaPM
import Derived.Test.YtfjkomglljcfjaaPN
import Derived.Test.YtfjkomglljcfjaaPW
import Derived.WalkKit
import Derived.ProofKit
import Derived.OpenShut
import Derived.ShutString
import Derived.ChangeOld
import Derived.Below
import Derived.Deep.CutBlock
import Derived.Deep.RegionHeld3
import Derived.Deep.Slices
import Derived.Deep.Fields
namespace Go.Proofs.Ytfjkomglljcfjaa.poolBack
open Go.Proofs.Ytfjkomglljcfjaa Go.Proofs.Ytfjkomglljcfjaa.PM
open Go.ChangeShapes Go.WideShapes Go.ChangeAt Go.RowKit
open Go.ChangeMaps (open_string shut_string)
set_option linter.unusedVariables false
set_option maxRecDepth 100000

theorem own : ownKnob Try.prog.godebug = none := by kernel_rfl
theorem laidOut : laidOutB Try.prog = true := by kernel_rfl
/-- What the walk is told of a slice of integers that came in: it is nil, or it leads to a row of as many cells as its capacity says. -/
def IsRow (k : IntKind) (w : World) (a : Option Addr) (len cap : Nat) (zs : List Int) : Prop :=
  (a = none ∧ len = 0 ∧ cap = 0 ∧ zs = []) ∨
  ∃ x, a = some x ∧ len ≤ cap ∧ cap ≤ maxLen ∧ zs.length = cap ∧ (∀ i, i < zs.length → w.cell? (x.add i) = some (.int k (zs.getD i 0))) ∧ ∀ n ∈ zs, (Lit.int k n).wf = true
theorem IsRow.u8s {w : World} {a : Option Addr} {len cap : Nat} {zs : List Int} (h : IsRow .u8 w a len cap zs) : len ≤ maxLen ∧ ∃ f : Nat → Nat, U8At w a len f ∧ (∀ i, f i < 256) := by
  rcases h with ⟨rfl, rfl, rfl, rfl⟩ | ⟨y, rfl, hl, hm, hz, hcell, hwz⟩
  · exact ⟨by omega, fun _ => 0, fun i hi => by omega, fun _ => (by decide : (0 : Nat) < 256)⟩
  · have key : ∀ i, i < len → ∃ n : Nat, zs.getD i 0 = n ∧ n < 256 := fun i hi =>
      of_u8 (hwz (zs.getD i 0) (by simp [List.getD_eq_getElem?_getD, List.getElem?_eq_getElem (show i < zs.length by omega)]))
    refine ⟨by omega, fun i => (zs.getD i 0).toNat % 256, fun i hi => ?_, fun i => Nat.mod_lt _ (by omega)⟩
    obtain ⟨b, off, spot⟩ := y
    have hc := hcell i (by omega)
    have hspot : spot = none := by simpa [Addr.add] using World.cell?_spot (hcell 0 (by omega))
    subst hspot
    obtain ⟨n, en, hn⟩ := key i hi
    have hc2 : w.cell? ⟨b, off + i, none⟩ = some (.int .u8 (((zs.getD i 0).toNat % 256 : Nat) : Int)) := by
      rw [en] at hc
      rw [en, Int.toNat_natCast, Nat.mod_eq_of_lt hn, ← hc]
      unfold Addr.add
      split <;> simp_all
    exact ⟨b, off, rfl, World.block_lt_of_cell? _ _ hc2, hc2⟩

/-! ### the walk -/
set_option maxRecDepth 100000
theorem zero256 (W : World) : (zeroValue 41).run Try.prog W = .ok (.agg (vl (bv (fun _ => false)) 256).toArray) W := by kernel_rfl
/-- not here, or below i. -/
def nh (here : Nat → Bool) (i : Nat) : Nat → Bool := fun x => !here x || decide (x < i)
theorem nh_give (here : Nat → Bool) (x : Nat) : upd (nh here 0) x false = nh (upd here x true) 0 := by
  funext y; unfold upd nh
  by_cases e : y = x <;> simp [e]
theorem nh_same (here : Nat → Bool) (x : Nat) (h : here x = true) : upd here x true = here := by
  funext y; unfold upd
  by_cases e : y = x
  · simp [e, h]
  · simp [e]
theorem nh_take (here : Nat → Bool) (i : Nat) : upd (nh here i) i true = nh here (i + 1) := by
  funext y; unfold upd nh
  by_cases e : y = i
  · simp [e]
  · have : decide (y < i + 1) = decide (y < i) := by congr 1; apply propext; omega
    simp [e, this]
theorem nh_pass (here : Nat → Bool) (i : Nat) (h : here i = false) : nh here i = nh here (i + 1) := by
  funext y; unfold nh
  by_cases e : y = i
  · simp [e, h]
  · have : decide (y < i + 1) = decide (y < i) := by congr 1; apply propext; omega
    simp [this]
theorem long_in (a : Option Addr) (len cap : Nat) (h : 100 < len) (w : World) :
    Calls Try.prog 5 #[.slice a len cap] w fun e w' => e = .returned (.bool true) ∧ Below w.heap.size w w' := by
  go_enter Try.func5, Try.ntmps5
  go_wp2_with fail
  refine (awake_in _).mono ?_
  rintro e w1 ⟨rfl, b1⟩
  go_wp2_with fail
  refine (awake_in _).mono ?_
  rintro e w2 ⟨rfl, b2⟩
  have B2 := Lib.hid (below_up b1 b2)
  clear b1 b2
  go_wp2
  go_ret
  exact ⟨rfl, B2.out⟩
/-- What stands before a round: the frames that aren't here are used. -/
structure BI (w wr : World) (B H : Nat) (us : Nat → Bool) (here : Nat → Bool) : Prop where
  pl : Pl wr B (fun x => w.heap.size ≤ x ∧ x ≠ H) 256 us (-1)
  hr : VR wr H 41 (bv here) 256 256
  h0 : w.heap.size ≤ H
  bel : Below w.heap.size w wr
theorem BI.lt {w wr : World} {B H : Nat} {us here : Nat → Bool} (h : BI w wr B H us here) : H < wr.heap.size := h.hr.lt
set_option maxHeartbeats 2000000 in
theorem back_in (a : Option Addr) (len cap : Nat) (f : Nat → Nat) (hf : ∀ i, f i < 256) (hlen : len ≤ 100) (w : World) (ha : U8At w a len f) :
    Calls Try.prog 5 #[.slice a len cap] w fun e w' => e = .returned (.bool true) ∧ Below w.heap.size w w' := by
  have HA := Lib.hid ha
  have HFB := Lib.hid hf
  clear ha hf
  have hal := zero256
  have HVN := Lib.hid (fun W => VR.new W 41 (bv (fun _ => false)) 256 (by omega))
  generalize (vl (bv (fun _ => false)) 256).toArray = A256 at *
  go_enter Try.func5, Try.ntmps5
  go_wp2_with fail
  refine (awake_in _).mono ?_
  rintro e w1 ⟨rfl, b1⟩
  have B1 := Lib.hid b1
  clear b1
  go_wp2_with fail
  refine (new_in 256 w1).mono ?_
  rintro e w2 ⟨B, rfl, p2, b2⟩
  rw [show clampN 256 = 256 by decide] at p2
  have P2 := Lib.hid p2
  have B2 := Lib.hid (below_up B1.out b2)
  clear p2 b2
  go_wp2_with fail
  refine (some_in P2.out 256 (by omega)).mono ?_
  rintro e w3 (⟨v, rfl, h1, _, p3, c3, i3⟩ | ⟨rfl, i, h1, h2, _, h4, _⟩)
  · rw [cnt_all] at h1
    have hcn3 : cnt (tks (fun _ => false) (wl (fun _ => false) 256) 256) 256 = 0 := by rw [cnt_tks (by rw [cnt_all]; omega), cnt_all]
    have P3 := Lib.hid (show Pl w3 B (fun x => w.heap.size ≤ x ∧ x < w2.heap.size) 256 (fun _ => true) (-1) from
      ((show Pl w3 B _ 256 _ (-1) from p3).congr (fun x hx => cnt_zero hcn3 x hx)).mono (fun x _ h => ⟨ge_base B1.out x h.1, h.2⟩))
    have B3 := Lib.hid (ch_below c3 B2.out (fun x h => ge_base B1.out x h.1))
    have hs23 := c3.size
    obtain ⟨av, capv, rfl, _⟩ := i3.ex
    clear p3 c3 i3 hcn3
    have R3 := Lib.hid (show BI w (w3.alloc (.cells A256 41)) B w3.heap.size (nh (fun _ => false) 0) (fun _ => false) from
      ⟨(((P3.out).below (below_new w3 _)).mono (fun x _ h => ⟨h.1, by omega⟩)).congr (fun x _ => by simp [nh]), (HVN.out) w3, (B3.out).size, below_more B3.out _⟩)
    obtain ⟨H, hH⟩ : ∃ H, w3.heap.size = H := ⟨_, rfl⟩
    have HH := Lib.hid hH
    clear hH
    rename_i right
    clear right h1
    go_wp2_with fail
    go_loopw [7] (fun i wr => ∃ (j : Nat) (here : Nat → Bool), j ≤ len ∧ i = .int .i64 j ∧ BI w wr B w3.heap.size (nh here 0) here) (fun i _ => (len - (intOf i).toNat))
    case atStart => exact ⟨0, fun _ => false, by omega, rfl, R3.out⟩
    case round =>
      obtain ⟨j, here, hj, rfl, r4⟩ := hrel
      clear R3 HVN P2 P3 B1 B2 B3 hal hs23
      have R4 := Lib.hid r4
      by_cases hjl : j < len
      · obtain ⟨b, off, rfl, hbl, hc⟩ := ((HA.out).kept r4.bel) j hjl
        have hfj := (HFB.out) j
        obtain ⟨x, hx⟩ : ∃ x, f j = x := ⟨_, rfl⟩
        rw [hx] at hc hfj
        have hh : wr.cell? ⟨w3.heap.size, x, none⟩ = some (.bool (here x)) := r4.hr.cell x (by omega)
        have HXF := Lib.hid hx
        have hcA := Lib.hid hc
        clear hx r4
        cases hb : here x
        · have HB := Lib.hid hb
          rw [hb] at hh
          clear hb
          have HHH := Lib.hid hh
          clear hh
          go_wp2_with fail
          refine (give_in (R4.out).pl x (by omega) (by simp [nh, HB.out])).mono ?_
          rintro e w5 ⟨rfl, p5, c5⟩
          have hr5 := (R4.out).hr.ch c5 (by simp)
          have b5 := ch_below c5 (R4.out).bel (fun x h => h.1)
          have hc5 := (HA.out).kept b5 j hjl
          obtain ⟨b', off', e1, _, hc5⟩ := hc5
          injection e1 with e1
          injection e1 with e1 e2
          subst e1 e2
          rw [HXF.out] at hc5
          have hh5 : w5.cell? ⟨w3.heap.size, x, none⟩ = some (.bool (here x)) := hr5.cell x (by omega)
          have hf5 : w5.frozen? ⟨w3.heap.size, x, none⟩ = false := hr5.frozen x
          rw [HB.out] at hh5
          have R5 := Lib.hid (show BI w (w5.setCell ⟨w3.heap.size, x, none⟩ (.bool true)) B w3.heap.size (nh (upd here x true) 0) (upd here x true) from
            ⟨by
              rw [← nh_give]
              have hlt := (R4.out).lt
              have p6 := p5.mono (G := fun x => w.heap.size ≤ x ∧ x ≠ w3.heap.size) (fun y _ h => by
                rcases h with h | h
                · exact h
                · exact ⟨by have := (R4.out).bel.size; omega, by omega⟩)
              exact p6.keep (Ch.of_grown (grown_setCell _ _ _)) (fun y _ h h2 => by injection h2 with h2; exact h.2 h2),
            by have := hr5.set x (.bool true); rw [bv_upd] at this; exact this, (R4.out).h0, b5.grown (grown_setCell _ _ _) b5.size (fun y hy => by injection hy with hy; rw [← hy]; exact (R4.out).h0)⟩)
          clear p5 c5 hr5 b5 hc
          go_wp2
          go_roundw
          case rel => exact ⟨j + 1, upd here x true, by omega, by go_num, R5.out⟩
          case measure => simp [intOf]; omega
        · have HB := Lib.hid hb
          rw [hb] at hh
          clear hb
          have hf5 : wr.frozen? ⟨w3.heap.size, x, none⟩ = false := (R4.out).hr.frozen x
          have R5 := Lib.hid (show BI w (wr.setCell ⟨w3.heap.size, x, none⟩ (.bool true)) B w3.heap.size (nh here 0) here from
            ⟨(R4.out).pl.keep (Ch.of_grown (grown_setCell _ _ _)) (fun y _ h h2 => by injection h2 with h2; exact h.2 h2),
            by have := (R4.out).hr.set x (.bool true); rw [bv_upd, nh_same here x HB.out] at this; exact this, (R4.out).h0, (R4.out).bel.grown (grown_setCell _ _ _) (R4.out).bel.size (fun y hy => by injection hy with hy; rw [← hy]; exact (R4.out).h0)⟩)
          go_wp2_with fail
          refine (give_used (R4.out).pl x (by omega) (by simp [nh, HB.out])).mono ?_
          rintro e w5 ⟨rfl, rfl⟩
          go_wp2
          go_roundw
          case rel => exact ⟨j + 1, here, by omega, by go_num, R5.out⟩
          case measure => simp [intOf]; omega
      · clear r4
        go_wp2_with fail
        go_loopw [9] (fun i wr => ∃ (j2 : Nat), j2 ≤ 256 ∧ i = .int .i64 j2 ∧ BI w wr B w3.heap.size (nh here j2) here) (fun i _ => (256 - (intOf i).toNat))
        case atStart => exact ⟨0, by omega, rfl, R4.out⟩
        case round =>
          obtain ⟨j2, hj2, rfl, r6⟩ := hrel
          clear R4
          have R6 := Lib.hid r6
          by_cases hj6 : j2 < 256
          · have hh : wr.cell? ⟨w3.heap.size, j2, none⟩ = some (.bool (here j2)) := r6.hr.cell j2 (by omega)
            clear r6
            cases hb : here j2
            · rw [hb] at hh
              have R7 := Lib.hid (show BI w wr B w3.heap.size (nh here (j2 + 1)) here from by rw [← nh_pass here j2 hb]; exact R6.out)
              clear hb
              go_wp2
              go_roundw
              case rel => exact ⟨j2 + 1, by omega, by go_num, R7.out⟩
              case measure => simp [intOf]; omega
            · rw [hb] at hh
              have HB := Lib.hid hb
              clear hb
              go_wp2_with fail
              refine (take_at (R6.out).pl j2 hj6 (by simp [nh, HB.out]) (fun y hy => by simp [nh, hy]) (by omega)).mono ?_
              rintro e w7 ⟨rfl, p7, c7⟩
              rw [wellN_neg, nh_take] at p7
              have R7 := Lib.hid (show BI w w7 B w3.heap.size (nh here (j2 + 1)) here from ⟨p7, (R6.out).hr.ch c7 (by simp), (R6.out).h0, ch_below c7 (R6.out).bel (fun x h => h.1)⟩)
              clear p7 c7
              go_wp2
              go_roundw
              case rel => exact ⟨j2 + 1, by omega, by go_num, R7.out⟩
              case measure => simp [intOf]; omega
          · clear r6
            obtain rfl : j2 = 256 := by omega
            go_wp2_with fail
            refine (left_eq (R6.out).pl (n := 0) (cnt_full (fun x hx => by simp [nh, hx]))).mono ?_
            rintro e w8 ⟨rfl, rfl⟩
            go_wp2
            go_ret
            exact ⟨rfl, (R6.out).bel⟩
  · exfalso
    rw [cnt_all] at h4
    omega
theorem walk (p_order : Option Addr) (p_order_len p_order_cap : Nat) (p_order_z : List Int) (w : World) (hp_order : IsRow .u8 w p_order p_order_len p_order_cap p_order_z) :
    Calls Try.prog 5 #[.slice p_order p_order_len p_order_cap] w fun e w' => e = .returned (.bool true) ∧ Below w.heap.size w w' := by
  obtain ⟨hm, f, hb, hf⟩ := hp_order.u8s
  by_cases h : 100 < p_order_len
  · exact long_in p_order p_order_len p_order_cap h w
  · exact back_in p_order p_order_len p_order_cap f hf (by omega) w hb

/-! ### the row's step -/
set_option maxRecDepth 100000 in
theorem lifted (os : Os) (started : os.Started) (H : Type) (enc : TypeId × Value → H) :
    ReturnsInHanded {} Try.checked os 5 .any (Rows.poolBackSpec.pre6 enc Try.prog Try.f5 Rows.poolBackRow.domain false) (Rows.poolBackSpec.post enc Try.prog Try.f5 false true false false) := by
  refine returnsInHanded_of_change (C := Try.checked) own started (by kernel_rfl) Try.func5
    (ChangeSpec.witness6 (enc := enc) (C := Try.checked) false ⟨#[], #[.slice none 0 0], []⟩ 8 (by kernel_rfl) (by kernel_rfl) (by kernel_rfl) (by kernel_rfl)) ?_
  intro W base args ds gs before hval0 hW hcnd _
  have hval : ∀ (j : Nat) t v, Try.f5.params[j]? = some t → args[j]? = some v → Value.okWide Try.prog W .any base t v := hval0
  have hW' := hW
  obtain ⟨p, q, hA0, hV, rfl, hfz, hnd⟩ := hW
  have hA : DataW.TrodAll enc Try.prog W 0 (fun _ => true) true Try.f5.params.toList args.toList ds p := hA0
  rw [Try.params5] at hA hval
  obtain ⟨v0, vs0, d0, ds0, p0, q0, hargs, rfl, rfl, h0, r0⟩ := trodAll_cons hA
  obtain ⟨rfl, rfl, rfl⟩ := trodAll_nil r0
  obtain rfl : args = #[v0] := by cases args; simp_all
  obtain ⟨rfl, rfl⟩ := trodVars_none hV
  obtain ⟨a0, len0, cap0, rfl⟩ := okWide_slice Try.underlying40 (hval 0 40 v0 rfl rfl)
  have k0 := h0
  have lt0 : ∀ x ∈ p0, x.block < W.heap.size := by obtain ⟨m, hm⟩ := k0; exact DataW.trod_lt m _ _ _ hm
  obtain ⟨z0, w0⟩ : ∃ zs, IsRow .u8 W a0 len0 cap0 zs := by
    obtain ⟨fuel, hf⟩ := h0
    rcases open_ints Try.underlying40 Try.underlying5 (by kernel_rfl) hf with ⟨hcs, _⟩ | ⟨x, l, c, zs, hcs, _, hl, hm, hz, _, hcell, hwz⟩
    · simp [Value.cells] at hcs
      obtain ⟨rfl, rfl, rfl⟩ := hcs
      exact ⟨[], .inl ⟨rfl, rfl, rfl, rfl⟩⟩
    · simp [Value.cells] at hcs
      obtain ⟨rfl, rfl, rfl⟩ := hcs
      exact ⟨zs, .inr ⟨_, rfl, hl, hm, by simpa using hz, hcell, hwz⟩⟩
  clear hA0 hval0
  refine (walk a0 len0 cap0 z0 W w0).mono fun e W' ⟨he, bel⟩ => ?_
  subst he
  exact ⟨_, rfl, _, _, _, [], _, [], hW', trodAll_mk1 (shut_bool Try.underlying4 _), (trodAll_cons_mk (Below.trod laidOut (by kernel_rfl) (of_decide_eq_true (by kernel_rfl)) k0 bel lt0) trodAll_mk0), rfl, bel.frame _, fun h => by cases h⟩

theorem over : Rows.poolBackRow.holds Try.pinned (OpenSpec.ofChange Rows.poolBackSpec) :=
  OpenClaim.holds_of_wide 5 Try.f5 rfl rfl rfl rfl rfl rfl rfl ⟨rfl, rfl, rfl, rfl, rfl⟩ rfl rfl rfl rfl rfl (by kernel_rfl) Try.func5 (by kernel_rfl)
    (of_decide_eq_true (by kernel_rfl)) (by unfold Func.isWrapper; first | (rw [if_pos (by decide +kernel)]; kernel_rfl) | (rw [if_neg (by decide +kernel)]; exact ⟨rfl, rfl⟩))
    (fun os started H enc _ => lifted os started H enc)

/-- THE STATEMENT -/
theorem proved : Rows.PoolBackSaid := over
#print axioms proved
end Go.Proofs.Ytfjkomglljcfjaa.poolBack
