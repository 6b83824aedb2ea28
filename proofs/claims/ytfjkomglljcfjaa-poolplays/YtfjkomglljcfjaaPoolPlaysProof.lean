/-
  PROVED: for every number n and every list of acts the law PoolPlays returns true: frames that are taken, and given, one by one and several, with takes that fail, are as a list of truths; and both arguments read as they did. No condition.
-/
import Derived.Test.YtfjkomglljcfjaaRows
import Derived.Test.YtfjkomglljcfjaaLT
import Derived.Test.YtfjkomglljcfjaaPM
import Derived.Test.YtfjkomglljcfjaaPA
import Derived.Test.YtfjkomglljcfjaaPB
import Derived.Test.YtfjkomglljcfjaaPC
import Derived.Test.YtfjkomglljcfjaaPD
import Derived.Test.YtfjkomglljcfjaaPE
import Derived.Test.YtfjkomglljcfjaaPN
import Derived.Test.YtfjkomglljcfjaaPW
import Derived.Test.YtfjkomglljcfjaaPT
import Derived.WalkKit
import Derived.ProofKit
import Derived.OpenShut
import Derived.ShutString
import Derived.ChangeOld
import Derived.Below
import Derived.Deep.CutBlock
import Derived.Deep.RegionHeld3
import Derived.Deep.Slices
import Derived.Deep.Fields
namespace Go.Proofs.Ytfjkomglljcfjaa.poolPlays
open Go.Proofs.Ytfjkomglljcfjaa Go.Proofs.Ytfjkomglljcfjaa.PM
open Go.ChangeShapes Go.WideShapes Go.ChangeAt Go.RowKit
open Go.ChangeMaps (open_string shut_string)
set_option linter.unusedVariables false
set_option maxRecDepth 100000

theorem own : ownKnob Try.prog.godebug = none := by kernel_rfl
theorem laidOut : laidOutB Try.prog = true := by kernel_rfl
theorem wf_u8 {a : Int} (h : (Lit.int .u8 a).wf = true) : ∃ n : Nat, a = n ∧ n < 256 := by
  simp only [Lit.wf, IntKind.min, IntKind.max, IntKind.signed, IntKind.bits, Bool.and_eq_true] at h
  simp at h
  exact ⟨a.toNat, by omega, by omega⟩
theorem wf_i64 {a : Int} (h : (Lit.int .i64 a).wf = true) : -9223372036854775808 ≤ a ∧ a ≤ 9223372036854775807 := by
  simp only [Lit.wf, IntKind.min, IntKind.max, IntKind.signed, IntKind.bits, Bool.and_eq_true, decide_eq_true_eq] at h
  simp at h
  omega
/-- What the walk is told of a slice of structs that came in: for each of its elements the fields' cells. -/
def IsS22 (w : World) (a : Option Addr) (len : Nat) : Prop :=
  len ≤ maxLen ∧ ∀ i, i < len → ∃ b off, a = some ⟨b, off, none⟩ ∧ b < w.heap.size ∧ ∃ (K : Nat) (N : Int), w.cell? ⟨b, off + i * 2 + 0, none⟩ = some (.int .u8 K) ∧ w.cell? ⟨b, off + i * 2 + 1, none⟩ = some (.int .i64 N) ∧ K < 256 ∧ (-9223372036854775808 ≤ N ∧ N ≤ 9223372036854775807)
theorem add_two (b off i j : Nat) : ((⟨b, off, none⟩ : Addr).add i).add j = ⟨b, off + i + j, none⟩ := by
  unfold Addr.add
  split <;> split <;> simp_all
theorem openS22 {H : Type} {enc : TypeId × Value → H} {w : World} {base : Nat} {a : Option Addr} {len cap : Nat} {d : DataW H} {p : List MemPlace}
    (h : DataW.Trod enc Try.prog w base (fun _ => true) true 22 (.slice a len cap) d p) : IsS22 w a len := by
  obtain ⟨fuel, hf⟩ := h
  rcases Go.Deep.open_slice Try.underlying22 hf with ⟨hcs, _⟩ | ⟨x, l, c, m, n, D, Pl, hcs, _, hl, hm, hmm, _, hi⟩
  · simp [Value.cells] at hcs
    obtain ⟨rfl, rfl, rfl⟩ := hcs
    exact ⟨by unfold maxLen; omega, fun i hi => by omega⟩
  · simp [Value.cells] at hcs
    obtain ⟨rfl, rfl, rfl⟩ := hcs
    refine ⟨by omega, fun i hil => ?_⟩
    have hC : Try.prog.cellsOf 29 = 2 := by kernel_rfl
    have hlm : len ≤ m := by rw [hmm]; split <;> omega
    obtain ⟨b, off, spot⟩ := x
    have hspot : spot = none := by
      obtain ⟨cs0, hc0, _⟩ := hi 0 (by omega)
      obtain ⟨_, hl0, hat0⟩ := World.cells?_some hc0
      rw [hC] at hl0 hat0
      have h0 := hat0 0 (by decide)
      rw [List.getElem?_eq_getElem (by omega)] at h0
      simpa [Addr.add] using World.cell?_spot h0
    subst hspot
    obtain ⟨cs', hc, ht'⟩ := hi i (by omega)
    obtain ⟨_, hcl, hat⟩ := World.cells?_some hc
    obtain ⟨xs, n', _, _, _, hxl, hfs⟩ := DataW.trod_struct Try.underlying29 ht'
    rw [hC] at hcl hat
    obtain ⟨y0, hy0⟩ : ∃ y, xs[0]? = some y := ⟨_, List.getElem?_eq_getElem (by rw [hxl]; decide)⟩
    have t0 := (hfs 0 _ rfl).trans hy0
    have e0 : (cs'.drop 0).take (Try.prog.cellsOf 5) = [cs'[0]'(by omega)] := by
      rw [show Try.prog.cellsOf 5 = 1 from by kernel_rfl, List.drop_eq_getElem_cons (by omega)]; rfl
    have q0 := hat 0 (by decide)
    rw [List.getElem?_eq_getElem (by omega), add_two] at q0
    replace t0 : DataW.trod enc Try.prog w base (fun _ => true) true n' 5 [cs'[0]'(by omega)] = some y0 := by rw [← e0]; exact t0
    obtain ⟨z0, k0, _, w0⟩ := DataW.trod_int Try.underlying5 t0
    rw [List.cons.injEq] at k0
    rw [k0.1] at q0
    obtain ⟨n0, rfl, b0⟩ := wf_u8 w0
    obtain ⟨y1, hy1⟩ : ∃ y, xs[1]? = some y := ⟨_, List.getElem?_eq_getElem (by rw [hxl]; decide)⟩
    have t1 := (hfs 1 _ rfl).trans hy1
    have e1 : (cs'.drop 1).take (Try.prog.cellsOf 3) = [cs'[1]'(by omega)] := by
      rw [show Try.prog.cellsOf 3 = 1 from by kernel_rfl, List.drop_eq_getElem_cons (by omega)]; rfl
    have q1 := hat 1 (by decide)
    rw [List.getElem?_eq_getElem (by omega), add_two] at q1
    replace t1 : DataW.trod enc Try.prog w base (fun _ => true) true n' 3 [cs'[1]'(by omega)] = some y1 := by rw [← e1]; exact t1
    obtain ⟨z1, k1, _, w1⟩ := DataW.trod_int Try.underlying3 t1
    rw [List.cons.injEq] at k1
    rw [k1.1] at q1
    have b1 := wf_i64 w1
    exact ⟨b, off, rfl, World.block_lt_of_cell? _ _ q0, n0, z1, q0, q1, b0, b1⟩

/-! ### the walk -/
set_option maxRecDepth 100000
theorem long_in (n : Nat) (a : Option Addr) (len cap : Nat) (h : 60 < len) (w : World) :
    Calls Try.prog 3 #[.int .u8 n, .slice a len cap] w fun e w' => e = .returned (.bool true) ∧ Below w.heap.size w w' := by
  go_enter Try.func3, Try.ntmps3
  go_wp2_with fail
  refine (awake_in _).mono ?_
  rintro e w1 ⟨rfl, b1⟩
  go_wp2_with fail
  refine (awake_in _).mono ?_
  rintro e w2 ⟨rfl, b2⟩
  have B2 := Lib.hid (below_up b1 b2)
  clear b1 b2
  go_wp2
  go_ret
  exact ⟨rfl, B2.out⟩
/-- What stands before a round: the pool beside the list of truths. -/
structure YI (w wr : World) (B U k : Nat) (us : Nat → Bool) (well : Int) : Prop where
  pl : Pl wr B (fun x => w.heap.size ≤ x ∧ x ≠ U) k us well
  ur : VR wr U 4 (bv us) k k
  u0 : w.heap.size ≤ U
  bel : Below w.heap.size w wr
  we : -1 ≤ well ∧ well ≤ 7
/-- .. and the frames that are free, as far as f. -/
structure WI (w wr : World) (M B U k : Nat) (us : Nat → Bool) (well : Int) (v : Value) (f : Nat) : Prop where
  pl : Pl wr B (fun x => (w.heap.size ≤ x ∧ x ≠ U) ∧ x < M) k us well
  ur : VR wr U 4 (bv us) k k
  u0 : w.heap.size ≤ U
  uM : U < M
  bel : Below w.heap.size w wr
  own : Ints wr M v (cnt us f) (wl us k)
  m1 : M ≤ wr.heap.size
  we : -1 ≤ well ∧ well ≤ 7
theorem YI.start {w wr : World} {B U k : Nat} {us : Nat → Bool} {well : Int} (h : YI w wr B U k us well) : WI w wr wr.heap.size B U k us well (.slice none 0 0) 0 :=
  ⟨h.pl.exact, h.ur, h.u0, h.ur.lt, h.bel, Ints.nil _ _ _, Nat.le_refl _, h.we⟩
theorem wl_at {us : Nat → Bool} {f : Nat} : ∀ {k : Nat}, f < k → us f = false → (wl us k)[cnt us f]? = some f
  | 0, h, _ => by omega
  | k + 1, h, hu => by
    unfold wl
    rw [List.getElem?_append, wl_length]
    by_cases e : f = k
    · subst e
      rw [if_neg (by omega), hu]
      simp
    · have h1 := wl_at (k := k) (by omega) hu
      have h2 := (List.getElem?_eq_some_iff.1 h1).1
      rw [wl_length] at h2
      rw [if_pos h2, h1]
theorem cnt_succ_free {us : Nat → Bool} {f : Nat} (h : us f = false) : cnt us (f + 1) = cnt us f + 1 := by
  show cnt us f + (if us f = true then 0 else 1) = _
  rw [h]; rfl
theorem cnt_succ_used {us : Nat → Bool} {f : Nat} (h : us f = true) : cnt us (f + 1) = cnt us f := by
  show cnt us f + (if us f = true then 0 else 1) = _
  rw [h]; rfl
theorem cnt_mono (us : Nat → Bool) : ∀ {a b : Nat}, a ≤ b → cnt us a ≤ cnt us b := by
  intro a b h
  induction b with
  | zero => rw [show a = 0 by omega]; exact Nat.le_refl _
  | succ b ih =>
    by_cases e : a = b + 1
    · rw [e]; exact Nat.le_refl _
    · have := ih (by omega)
      show _ ≤ cnt us b + _
      omega
theorem WI.pass {w wr : World} {M B U k : Nat} {us : Nat → Bool} {well : Int} {v : Value} {f : Nat} (h : WI w wr M B U k us well v f) (hu : us f = true) : WI w wr M B U k us well v (f + 1) :=
  ⟨h.pl, h.ur, h.u0, h.uM, h.bel, by rw [cnt_succ_used hu]; exact h.own, h.m1, h.we⟩
/-- One more that is free. -/
theorem WI.more {w wr w' : World} {M B U k : Nat} {us : Nat → Bool} {well : Int} {v : Value} {f g' cap' : Nat} (h : WI w wr M B U k us well v f) (hf : f < k) (hu : us f = false)
    (k1 : VR w' g' 3 (iv (upd (at0 (wl us k)) (cnt us f) f)) (cnt us f + 1) cap') (k2 : (wr.alloc (.cells #[.int .i64 (f : Nat)] 3)).grownBy w' v.ownBlock) (k4 : M ≤ g') : WI w w' M B U k us well (.slice (some ⟨g', 0, none⟩) (cnt us f + 1) cap') (f + 1) := by
  have hc : Ch (fun y => M ≤ y) wr w' := (Ch.of_below (below_new wr _) _).grown k2 (fun y hy _ => by
    have := World.ownsRow.lt (show Ints wr M v (cnt us f) (wl us k) from h.own) y hy
    omega)
  refine ⟨h.pl.keep hc (fun x _ h1 h2 => by omega), h.ur.ch hc (by have := h.uM; omega), h.u0, h.uM, hc.to_below h.bel h.bel.size (fun x hx h2 => by have := h.u0; have := h.uM; omega), ?_, Nat.le_trans h.m1 hc.size, h.we⟩
  rw [cnt_succ_free hu]
  rw [at0_upd (wl_at hf hu)] at k1
  obtain ⟨q1, q2⟩ := k1.owns
  refine ⟨q1, ?_⟩
  rcases q2 with q2 | ⟨g2, cap2, cur2, q2, _, q3⟩
  · exact .inl q2
  · refine .inr ⟨g2, cap2, cur2, q2, ?_, q3⟩
    injection q2 with q2
    injection q2 with q2
    injection q2 with q2
    omega
theorem WI.toY {w wr : World} {M B U k : Nat} {us : Nat → Bool} {well : Int} {v : Value} {f : Nat} (h : WI w wr M B U k us well v f) : YI w wr B U k us well :=
  ⟨h.pl.mono (fun _ _ h => h.1), h.ur, h.u0, h.bel, h.we⟩
/-- One truth is turned, there and here. -/
theorem YI.put {w w5 : World} {B U k x : Nat} {us : Nat → Bool} {b : Bool} {well : Int} {G : Nat → Prop} (p : Pl w5 B G k (upd us x b) well) (hG : ∀ y, y < w5.heap.size → G y → w.heap.size ≤ y ∧ y ≠ U) (ur : VR w5 U 4 (bv us) k k) (u0 : w.heap.size ≤ U) (bel : Below w.heap.size w w5) (we : -1 ≤ well ∧ well ≤ 7) :
    YI w (w5.setCell ⟨U, x, none⟩ (.bool b)) B U k (upd us x b) well := by
  refine ⟨(p.mono hG).keep (Ch.of_grown (grown_setCell _ _ _)) (fun y _ h h2 => by injection h2 with h2; exact h.2 h2), ?_, u0, bel.grown (grown_setCell _ _ _) bel.size (fun y hy => by injection hy with hy; rw [← hy]; exact u0), we⟩
  have := ur.set x (.bool b)
  rw [bv_upd] at this
  exact this
theorem _root_.Go.Proofs.Ytfjkomglljcfjaa.VR.out {w w' : World} {M U k : Nat} {us : Nat → Bool} (h : VR w U 4 (bv us) k k) {b : Nat} (c : Ch (fun x => (b ≤ x ∧ x ≠ U) ∧ x < M) w w') : VR w' U 4 (bv us) k k := h.ch c (by simp)
/-- A slice that is read: not the list of truths. -/
def Rd (w : World) (U : Nat) (a : Option Addr) (n : Nat) (L : List Nat) : Prop := ∀ j, j < n → ∃ g, a = some ⟨g, 0, none⟩ ∧ g ≠ U ∧ w.cell? ⟨g, j, none⟩ = some (.int .i64 (at0 L j : Nat))
theorem Rd.set {w : World} {U : Nat} {a : Option Addr} {n : Nat} {L : List Nat} (h : Rd w U a n L) (x : Nat) (v : Value) : Rd (w.setCell ⟨U, x, none⟩ v) U a n L := fun j hj => by
  obtain ⟨g, e, ne, hc⟩ := h j hj
  refine ⟨g, e, ne, ?_⟩
  rw [World.cell?_setCell_other _ _ _ _ (by simp)]; exact hc
theorem _root_.Go.Proofs.Ytfjkomglljcfjaa.Ints.rd {w w' : World} {M U n : Nat} {v : Value} {L : List Nat} (h : Ints w M v n L) (hU : U < M) {S : Nat → Prop} (c : Ch S w w') (hS : ∀ x, M ≤ x → ¬ S x) : ∃ a cap, v = .slice a n cap ∧ Rd w' U a n L := by
  obtain ⟨a, cap, e, hc⟩ := h.ex
  refine ⟨a, cap, e, fun j hj => ?_⟩
  obtain ⟨g, ea, hb, _, hcell⟩ := hc j hj
  exact ⟨g, ea, by omega, c.cell hcell (hS g hb)⟩
theorem head_is {us : Nat → Bool} {k x : Nat} (x1 : x < k) (x2 : us x = false) (x3 : ∀ y, y < k → us y = false → x ≤ y) : at0 (wl us k) 0 = x := by
  rw [wl_take x1 x2 (fun y hy => by
    cases e : us y
    · have := x3 y (by omega) e; omega
    · rfl)]
  rfl
/-- The list of truths under way behind Some. -/
structure LI (w wr : World) (B U k : Nat) (us : Nat → Bool) (well : Int) (la wa : Option Addr) (m c j : Nat) : Prop where
  pl : Pl wr B (fun x => w.heap.size ≤ x ∧ x ≠ U) k (tks us (wl us k) m) well
  ur : VR wr U 4 (bv (tks us (wl us k) j)) k k
  u0 : w.heap.size ≤ U
  bel : Below w.heap.size w wr
  we : -1 ≤ well ∧ well ≤ 7
  l : Rd wr U la m (wl us k)
  wt : Rd wr U wa c (wl us k)
theorem LI.step {w wr : World} {B U k : Nat} {us : Nat → Bool} {well : Int} {la wa : Option Addr} {m c j : Nat} (h : LI w wr B U k us well la wa m c j) (hj : j < (wl us k).length) : LI w (wr.setCell ⟨U, at0 (wl us k) j, none⟩ (.bool true)) B U k us well la wa m c (j + 1) := by
  refine ⟨h.pl.keep (Ch.of_grown (grown_setCell _ _ _)) (fun y _ h h2 => by injection h2 with h2; exact h.2 h2), ?_, h.u0, h.bel.grown (grown_setCell _ _ _) h.bel.size (fun y hy => by injection hy with hy; rw [← hy]; exact h.u0), h.we, h.l.set _ _, h.wt.set _ _⟩
  have := h.ur.set (at0 (wl us k) j) (.bool true)
  rw [bv_upd, tks_succ us _ j _ (at0_get hj)] at this
  exact this
theorem LI.drewN {w wr : World} {B U k : Nat} {us : Nat → Bool} {well : Int} {la wa : Option Addr} {m c j : Nat} (h : LI w wr B U k us well la wa m c j) (q : Nat) : LI w (wr.drewN q) B U k us well la wa m c j :=
  ⟨h.pl.drewN q, h.ur.drewN q, h.u0, below_draws h.bel q, h.we, h.l, h.wt⟩
theorem LI.done {w wr : World} {B U k : Nat} {us : Nat → Bool} {well : Int} {la wa : Option Addr} {m c : Nat} (h : LI w wr B U k us well la wa m c m) : YI w wr B U k (tks us (wl us k) m) well := ⟨h.pl, h.ur, h.u0, h.bel, h.we⟩
theorem YI.drewN {w wr : World} {B U k : Nat} {us : Nat → Bool} {well : Int} (h : YI w wr B U k us well) (q : Nat) : YI w (wr.drewN q) B U k us well := ⟨h.pl.drewN q, h.ur.drewN q, h.u0, below_draws h.bel q, h.we⟩
set_option maxHeartbeats 8000000 in
theorem plays_in (n : Nat) (hn : n < 256) (a : Option Addr) (len cap : Nat) (hlen : len ≤ 60) (w : World) (ha : IsS22 w a len) :
    Calls Try.prog 3 #[.int .u8 n, .slice a len cap] w fun e w' => e = .returned (.bool true) ∧ Below w.heap.size w w' := by
  have HA := Lib.hid ha
  clear ha
  go_enter Try.func3, Try.ntmps3
  go_wp2_with fail
  refine (awake_in _).mono ?_
  rintro e w1 ⟨rfl, b1⟩
  have B1 := Lib.hid b1
  clear b1
  go_wp2_with fail
  obtain ⟨k, hk, hk20⟩ : ∃ k : Nat, (n : Int) % 20 = k ∧ k < 20 := ⟨n % 20, by omega, by omega⟩
  rw [hk]
  clear hk
  refine (new_mid (k := k) (by omega) w1).mono ?_
  rintro e w2 ⟨B, rfl, p2, b2⟩
  have P2 := Lib.hid (p2.mono (G := fun x => w.heap.size ≤ x) (fun x _ h => ge_base B1.out x h))
  have B2 := Lib.hid (below_up B1.out b2)
  clear p2 b2 B1
  have hmk := make_bools k (by omega) w2
  have HVN := Lib.hid (VR.new w2 4 (bv (fun _ => false)) k (by omega))
  generalize (vl (bv (fun _ => false)) k).toArray = AK at *
  have R2 := Lib.hid (show YI w (w2.alloc (.cells AK 4)) B w2.heap.size k (fun _ => false) (-1) from
    ⟨((P2.out).exact.below (below_new w2 _)).mono (fun x _ h => ⟨h.1, by omega⟩), HVN.out, (B2.out).size, below_more B2.out _, by omega⟩)
  clear P2 HVN B2
  go_wp2_with fail
  clear hmk
  generalize w2.heap.size = U at *
  go_loopw [9, 8] (fun i fl wr => ∃ (j : Nat) (us : Nat → Bool) (well : Int), j ≤ len ∧ i = .int .i64 j ∧ fl = .int .i64 well ∧ YI w wr B U k us well) (fun i _ _ => (len - (intOf i).toNat))
  case atStart => exact ⟨0, fun _ => false, -1, by omega, rfl, rfl, R2.out⟩
  case round =>
    obtain ⟨j, us, well, hj, rfl, rfl, r3⟩ := hrel
    clear R2
    have R3 := Lib.hid r3
    by_cases hjl : j < len
    · obtain ⟨b, off, rfl, hbl, K, N, q0, q1, bK, bN⟩ := (HA.out).2 j hjl
      have hwe := r3.we
      have W3 := Lib.hid r3.start
      clear r3
      generalize wr.heap.size = M at *
      have Q0 := Lib.hid q0
      have Q1 := Lib.hid q1
      clear q0 q1
      go_wp2_with fail
      go_loopw [12, 10, 11] (fun fi tv fre wr2 => ∃ (f : Nat), f ≤ k ∧ fi = .int .i64 f ∧ fre = .int .i64 (cnt us f : Nat) ∧ WI w wr2 M B U k us well tv f) (fun fi _ _ _ => (k - (intOf fi).toNat))
      case atStart => exact ⟨0, by omega, rfl, rfl, W3.out⟩
      case round =>
        obtain ⟨f, hf, rfl, rfl, r4⟩ := hrel
        clear W3
        have W4 := Lib.hid r4
        have hcf := cnt_le us f
        by_cases hfk : f < k
        · have hc : wr.cell? ⟨U, f, none⟩ = some (.bool (us f)) := r4.ur.cell f hfk
          clear r4
          cases hu : us f
          · rw [hu] at hc
            have HU := Lib.hid hu
            have HCS := Lib.hid (cnt_succ_free hu)
            clear hu
            obtain ⟨c, hcc⟩ : ∃ c, cnt us f = c := ⟨_, rfl⟩
            have HCC := Lib.hid hcc
            rw [hcc] at hcf ⊢
            clear hcc
            go_wp2_with (at_builtin
                         refine wpList_push rfl (.tmp 55) (.tmp 57) _ rfl und_ints M u10 c (at0 (wl us k)) rfl (by have := World.ownsRow.alloc (show Ints _ _ _ _ _ from (W4.out).own) (.cells #[.int .i64 (f : Nat)] 3); rw [HCC.out] at this; exact this) (by omega) (by have := (W4.out).m1; simp; omega) ⟨wr.heap.size, 0, none⟩ 1 f rfl (by simp) ?_
                         intro g' cap' w' k1 k2 k3 k4
                         have W5 := Lib.hid ((W4.out).more hfk HU.out (by rw [HCC.out]; exact k1) k2 k4)
                         clear k1 k2 k3 k4)
            go_roundw
            case rel => exact ⟨f + 1, by omega, by go_num, by rw [HCS.out, HCC.out]; go_num, by have := W5.out; rw [HCC.out] at this; exact this⟩
            case measure => simp [intOf]; omega
          · rw [hu] at hc
            have W5 := Lib.hid ((W4.out).pass hu)
            have HCS := Lib.hid (cnt_succ_used hu)
            clear hu
            obtain ⟨c, hcc⟩ : ∃ c, cnt us f = c := ⟨_, rfl⟩
            have HCC := Lib.hid hcc
            rw [hcc] at hcf ⊢
            clear hcc
            go_wp2
            go_roundw
            case rel => exact ⟨f + 1, by omega, by go_num, by rw [HCS.out, HCC.out], W5.out⟩
            case measure => simp [intOf]; omega
        · obtain rfl : f = k := by omega
          clear hfk r4
          have e0 := ((W4.out).bel.cell (p := ⟨b, off + j * 2 + 0, none⟩) hbl).trans Q0.out
          have e1 := ((W4.out).bel.cell (p := ⟨b, off + j * 2 + 1, none⟩) hbl).trans Q1.out
          simp only [Nat.add_zero] at e0
          obtain ⟨av, capv, hav, _⟩ := (W4.out).own.ex
          subst hav
          obtain ⟨c, hcc⟩ : ∃ c, cnt us f = c := ⟨_, rfl⟩
          have HCC := Lib.hid hcc
          rw [hcc] at hcf ⊢
          clear hcc
          go_upto_block 4 with fail
          obtain ⟨kk, hkk, hk6⟩ : ∃ kk : Nat, (K : Int) % 6 = kk ∧ kk < 6 := ⟨K % 6, by omega, by omega⟩
          rw [hkk]
          clear hkk
          go_cut [8, 13, 14, 15, 16, 17, 18, 19, 20, 21] from 39 to 286 (fun fl _ _ _ _ _ _ _ _ _ wx => ∃ us' well', fl = .int .i64 well' ∧ YI w wx B U f us' well')
          case first =>
            rcases (show kk = 0 ∨ kk = 1 ∨ kk = 2 ∨ kk = 3 ∨ kk = 4 ∨ kk = 5 by omega) with rfl | rfl | rfl | rfl | rfl | rfl
            --BEGIN T0
            · as_aux_lemma =>
                · by_cases h0 : c = 0
                  · have h00 : ((c : Int) == 0) = true := by simp; omega
                    have H0 := Lib.hid h0
                    clear h0
                    go_wp2_with fail
                    refine (take_full (W4.out).pl (.inl (by rw [HCC.out]; exact H0.out))).mono ?_
                    rintro e w5 ⟨rfl, rfl⟩
                    go_wp2
                    go_meet
                    exact ⟨us, well, rfl, (W4.out).toY⟩
                  · have h00 : ((c : Int) == 0) = false := by simp; omega
                    by_cases h1 : well = 0
                    · subst h1
                      go_wp2_with fail
                      refine (take_full (W4.out).pl (.inr rfl)).mono ?_
                      rintro e w5 ⟨rfl, rfl⟩
                      go_wp2
                      go_meet
                      exact ⟨us, 0, rfl, (W4.out).toY⟩
                    · have h11 : (well == 0) = false := by simpa using h1
                      go_wp2_with fail
                      refine (take_in (W4.out).pl (by rw [HCC.out]; exact h0) h1).mono ?_
                      rintro e w5 ⟨x, rfl, x1, x2, x3, p5, c5⟩
                      obtain ⟨av', capv', e', rd5⟩ := (W4.out).own.rd (W4.out).uM c5 (fun y hy h => by omega)
                      injection e' with e1 e2 e3
                      subst e1 e3
                      obtain ⟨g, eg, hgU, hw0⟩ := rd5 0 (by rw [HCC.out]; omega)
                      subst eg
                      rw [head_is x1 x2 x3] at hw0
                      have ur5 := (W4.out).ur.out c5
                      have hu5 : w5.cell? ⟨U, x, none⟩ = some (.bool (us x)) := ur5.cell x x1
                      have hf5 : w5.frozen? ⟨U, x, none⟩ = false := ur5.frozen x
                      by_cases hp : 0 < well
                      · have Y5 := Lib.hid (YI.put (b := true) (well := well - 1) (show Pl w5 B (fun x => (w.heap.size ≤ x ∧ x ≠ U) ∧ x < M) f (upd us x true) (well - 1) from by have := p5; unfold wellN at this; rw [if_pos hp] at this; exact this) (fun y _ h => h.1) ur5 (W4.out).u0 (ch_below c5 (W4.out).bel (fun x h => h.1.1)) (by omega))
                        clear p5 c5 rd5 ur5 x2 x3 hgU
                        go_wp2
                        go_meet
                        exact ⟨_, well - 1, by go_num, Y5.out⟩
                      · have Y5 := Lib.hid (YI.put (b := true) (well := well) (show Pl w5 B (fun x => (w.heap.size ≤ x ∧ x ≠ U) ∧ x < M) f (upd us x true) well from by have := p5; unfold wellN at this; rw [if_neg hp] at this; exact this) (fun y _ h => h.1) ur5 (W4.out).u0 (ch_below c5 (W4.out).bel (fun x h => h.1.1)) hwe)
                        clear p5 c5 rd5 ur5 x2 x3 hgU
                        go_wp2
                        go_meet
                        exact ⟨_, well, rfl, Y5.out⟩
            --END T0
            --BEGIN T1
            · as_aux_lemma =>
                · by_cases h0 : c = 0
                  · have h00 : ((c : Int) == 0) = true := by simp; omega
                    have H0 := Lib.hid h0
                    clear h0
                    go_wp2_with fail
                    refine (take_full (W4.out).pl (.inl (by rw [HCC.out]; exact H0.out))).mono ?_
                    rintro e w5 ⟨rfl, rfl⟩
                    go_wp2
                    go_meet
                    exact ⟨us, well, rfl, (W4.out).toY⟩
                  · have h00 : ((c : Int) == 0) = false := by simp; omega
                    by_cases h1 : well = 0
                    · subst h1
                      go_wp2_with fail
                      refine (take_full (W4.out).pl (.inr rfl)).mono ?_
                      rintro e w5 ⟨rfl, rfl⟩
                      go_wp2
                      go_meet
                      exact ⟨us, 0, rfl, (W4.out).toY⟩
                    · have h11 : (well == 0) = false := by simpa using h1
                      go_wp2_with fail
                      refine (take_in (W4.out).pl (by rw [HCC.out]; exact h0) h1).mono ?_
                      rintro e w5 ⟨x, rfl, x1, x2, x3, p5, c5⟩
                      obtain ⟨av', capv', e', rd5⟩ := (W4.out).own.rd (W4.out).uM c5 (fun y hy h => by omega)
                      injection e' with e1 e2 e3
                      subst e1 e3
                      obtain ⟨g, eg, hgU, hw0⟩ := rd5 0 (by rw [HCC.out]; omega)
                      subst eg
                      rw [head_is x1 x2 x3] at hw0
                      have ur5 := (W4.out).ur.out c5
                      have hu5 : w5.cell? ⟨U, x, none⟩ = some (.bool (us x)) := ur5.cell x x1
                      have hf5 : w5.frozen? ⟨U, x, none⟩ = false := ur5.frozen x
                      by_cases hp : 0 < well
                      · have Y5 := Lib.hid (YI.put (b := true) (well := well - 1) (show Pl w5 B (fun x => (w.heap.size ≤ x ∧ x ≠ U) ∧ x < M) f (upd us x true) (well - 1) from by have := p5; unfold wellN at this; rw [if_pos hp] at this; exact this) (fun y _ h => h.1) ur5 (W4.out).u0 (ch_below c5 (W4.out).bel (fun x h => h.1.1)) (by omega))
                        clear p5 c5 rd5 ur5 x2 x3 hgU
                        go_wp2
                        go_meet
                        exact ⟨_, well - 1, by go_num, Y5.out⟩
                      · have Y5 := Lib.hid (YI.put (b := true) (well := well) (show Pl w5 B (fun x => (w.heap.size ≤ x ∧ x ≠ U) ∧ x < M) f (upd us x true) well from by have := p5; unfold wellN at this; rw [if_neg hp] at this; exact this) (fun y _ h => h.1) ur5 (W4.out).u0 (ch_below c5 (W4.out).bel (fun x h => h.1.1)) hwe)
                        clear p5 c5 rd5 ur5 x2 x3 hgU
                        go_wp2
                        go_meet
                        exact ⟨_, well, rfl, Y5.out⟩
            --END T1
            --BEGIN G2
            · as_aux_lemma =>
                · by_cases h0 : N < 0
                  · go_wp2_with fail
                    refine (give_arg (W4.out).pl N (.inl h0)).mono ?_
                    rintro e w5 ⟨rfl, rfl⟩
                    go_wp2
                    go_meet
                    exact ⟨us, well, rfl, (W4.out).toY⟩
                  · have h00 : decide (N < 0) = false := by simp; omega
                    by_cases h1 : (f : Int) ≤ N
                    · go_wp2_with fail
                      refine (give_arg (W4.out).pl N (.inr h1)).mono ?_
                      rintro e w5 ⟨rfl, rfl⟩
                      go_wp2
                      go_meet
                      exact ⟨us, well, rfl, (W4.out).toY⟩
                    · obtain ⟨x, rfl⟩ := Int.eq_ofNat_of_zero_le (show 0 ≤ N by omega)
                      have x1 : x < f := by omega
                      have h11 : decide ((f : Int) ≤ (x : Int)) = false := by simp; omega
                      have hux : wr.cell? ⟨U, x, none⟩ = some (.bool (us x)) := (W4.out).ur.cell x x1
                      cases hb : us x
                      · rw [hb] at hux
                        have HB := Lib.hid hb
                        clear hb
                        go_wp2_with fail
                        refine (give_used (W4.out).pl x x1 HB.out).mono ?_
                        rintro e w5 ⟨rfl, rfl⟩
                        go_wp2
                        go_meet
                        exact ⟨us, well, rfl, (W4.out).toY⟩
                      · have HB := Lib.hid hb
                        clear hb hux
                        go_wp2_with fail
                        refine (give_in (W4.out).pl x x1 HB.out).mono ?_
                        rintro e w5 ⟨rfl, p5, c5⟩
                        have ur5 := (W4.out).ur.out c5
                        have hu5 : w5.cell? ⟨U, x, none⟩ = some (.bool (us x)) := ur5.cell x x1
                        rw [HB.out] at hu5
                        have hf5 : w5.frozen? ⟨U, x, none⟩ = false := ur5.frozen x
                        have Y5 := Lib.hid (YI.put (b := false) p5 (fun y _ h => by
                          rcases h with h | h
                          · exact h.1
                          · have := (W4.out).m1
                            have := (W4.out).uM
                            have := (W4.out).u0
                            exact ⟨by omega, by omega⟩) ur5 (W4.out).u0 (ch_below c5 (W4.out).bel (fun x h => h.1.1)) hwe)
                        clear p5 c5 ur5
                        go_wp2
                        go_meet
                        exact ⟨_, well, rfl, Y5.out⟩
            --END G2
            --BEGIN G3
            · as_aux_lemma =>
                · by_cases h0 : N < 0
                  · go_wp2_with fail
                    refine (give_arg (W4.out).pl N (.inl h0)).mono ?_
                    rintro e w5 ⟨rfl, rfl⟩
                    go_wp2
                    go_meet
                    exact ⟨us, well, rfl, (W4.out).toY⟩
                  · have h00 : decide (N < 0) = false := by simp; omega
                    by_cases h1 : (f : Int) ≤ N
                    · go_wp2_with fail
                      refine (give_arg (W4.out).pl N (.inr h1)).mono ?_
                      rintro e w5 ⟨rfl, rfl⟩
                      go_wp2
                      go_meet
                      exact ⟨us, well, rfl, (W4.out).toY⟩
                    · obtain ⟨x, rfl⟩ := Int.eq_ofNat_of_zero_le (show 0 ≤ N by omega)
                      have x1 : x < f := by omega
                      have h11 : decide ((f : Int) ≤ (x : Int)) = false := by simp; omega
                      have hux : wr.cell? ⟨U, x, none⟩ = some (.bool (us x)) := (W4.out).ur.cell x x1
                      cases hb : us x
                      · rw [hb] at hux
                        have HB := Lib.hid hb
                        clear hb
                        go_wp2_with fail
                        refine (give_used (W4.out).pl x x1 HB.out).mono ?_
                        rintro e w5 ⟨rfl, rfl⟩
                        go_wp2
                        go_meet
                        exact ⟨us, well, rfl, (W4.out).toY⟩
                      · have HB := Lib.hid hb
                        clear hb hux
                        go_wp2_with fail
                        refine (give_in (W4.out).pl x x1 HB.out).mono ?_
                        rintro e w5 ⟨rfl, p5, c5⟩
                        have ur5 := (W4.out).ur.out c5
                        have hu5 : w5.cell? ⟨U, x, none⟩ = some (.bool (us x)) := ur5.cell x x1
                        rw [HB.out] at hu5
                        have hf5 : w5.frozen? ⟨U, x, none⟩ = false := ur5.frozen x
                        have Y5 := Lib.hid (YI.put (b := false) p5 (fun y _ h => by
                          rcases h with h | h
                          · exact h.1
                          · have := (W4.out).m1
                            have := (W4.out).uM
                            have := (W4.out).u0
                            exact ⟨by omega, by omega⟩) ur5 (W4.out).u0 (ch_below c5 (W4.out).bel (fun x h => h.1.1)) hwe)
                        clear p5 c5 ur5
                        go_wp2
                        go_meet
                        exact ⟨_, well, rfl, Y5.out⟩
            --END G3
            --BEGIN S4
            · as_aux_lemma =>
                · obtain ⟨m, hm⟩ : ∃ m, N.tmod 8 = m := ⟨_, rfl⟩
                  have hm7 : -7 ≤ m ∧ m ≤ 7 := by
                    have h1 := Int.tmod_lt_of_pos N (show (0 : Int) < 8 by omega)
                    have h2 := Int.lt_tmod_of_pos N (show (0 : Int) < 8 by omega)
                    rw [hm] at h1 h2
                    omega
                  go_wp2_with fail
                  clear hm
                  by_cases hm0 : m ≤ 0
                  · as_aux_lemma =>
                      refine (some_zero (W4.out).pl m hm0).mono ?_
                      rintro e w5 ⟨rfl, rfl⟩
                      go_wp2_with fail
                      go_loopw [21] (fun i wx => i = .int .i64 0 ∧ wx = wr) (fun _ _ => 0)
                      case atStart => exact ⟨rfl, rfl⟩
                      case round =>
                        obtain ⟨rfl, rfl⟩ := hrel
                        go_wp2
                        go_meet
                        exact ⟨us, well, rfl, (W4.out).toY⟩
                  · obtain ⟨m, rfl⟩ := Int.eq_ofNat_of_zero_le (show 0 ≤ m by omega)
                    have hb0 : decide ((m : Int) ≤ 0) = false := by simp; omega
                    by_cases hcan : m ≤ c ∧ (0 ≤ well → (m : Int) ≤ well)
                    · have hlen4 : (wl us f).length = c := by rw [wl_length]; exact HCC.out
                      have HL4 := Lib.hid hlen4
                      clear hlen4
                      have hmc := hcan.1
                      by_cases hneg : well < 0
                      · have hbn : decide (well < 0) = true := by simp; omega
                        have hbp : decide (0 < well) = false := by simp; omega
                        refine (some_in (W4.out).pl m (by omega)).mono ?_
                        rintro e w5 (⟨v, rfl, k1, k2, p5, c5, i5⟩ | ⟨rfl, i, k1, k2, k3, k4, _⟩)
                        · as_aux_lemma =>
                            obtain ⟨av', capv', e', rdw⟩ := (W4.out).own.rd (W4.out).uM c5 (fun y hy h => by omega)
                            injection e' with e1 e2 e3
                            subst e1 e3
                            obtain ⟨la, lcap, rfl, rdl⟩ := i5.rd (U := U) (show U < wr.heap.size by have := (W4.out).m1; have := (W4.out).uM; omega) (Ch.refl (fun _ => False) w5) (fun _ _ h => h)
                            rw [HCC.out] at rdw
                            have hwk : -1 ≤ wellK well m ∧ wellK well m ≤ 7 := by unfold wellK; split <;> omega
                            have L5 := Lib.hid (show LI w w5 B U f us (wellK well m) la av m c 0 from ⟨p5.mono (fun y _ h => h.1.1), by rw [tks_zero]; exact (W4.out).ur.ch c5 (by simp), (W4.out).u0, ch_below c5 (W4.out).bel (fun x h => h.1.1.1), hwk, rdl, rdw⟩)
                            clear p5 c5 i5 rdw rdl hwk k1 k2
                            go_wp2_with fail
                            go_loopw [21] (fun i wx => ∃ (j3 : Nat), j3 ≤ m ∧ i = .int .i64 j3 ∧ LI w wx B U f us (wellK well m) la av m c j3) (fun i _ => (m - (intOf i).toNat))
                            case atStart => exact ⟨0, by omega, rfl, L5.out⟩
                            case round =>
                              obtain ⟨j3, hj3, rfl, l6⟩ := hrel
                              clear L5
                              have L6 := Lib.hid l6
                              by_cases hjm : j3 < m
                              · obtain ⟨g1, rfl, hg1, d1⟩ := l6.l j3 hjm
                                obtain ⟨g2, rfl, hg2, d2⟩ := l6.wt j3 (by omega)
                                have hl3 : j3 < (wl us f).length := by rw [HL4.out]; omega
                                have hx3 := ((wl_mem us (at0 (wl us f) j3) f).1 (List.mem_iff_getElem?.2 ⟨j3, at0_get hl3⟩)).1
                                have hu6 := l6.ur.cell _ hx3
                                have hf6 := l6.ur.frozen (at0 (wl us f) j3)
                                have L7 := Lib.hid (fun q => (l6.drewN q).step hl3)
                                clear l6
                                generalize hy : at0 (wl us f) j3 = y at *
                                clear hy
                                unfold bv at hu6
                                go_wp2
                                go_quiet (fail)
                                go_wp2
                                go_roundw
                                case rel => exact ⟨j3 + 1, by omega, by go_num, (L7.out) _⟩
                                case measure => simp [intOf]; omega
                              · obtain rfl : j3 = m := by omega
                                clear l6
                                have hwe2 : wellK well j3 = well := by unfold wellK; rw [if_neg (by omega)]
                                rw [hwe2] at L6
                                go_wp2
                                go_meet
                                exact ⟨_, well, rfl, (L6.out).done⟩
                        · exfalso
                          rw [HCC.out] at k4
                          omega
                      · have hbn : decide (well < 0) = false := by simp; omega
                        have hmw : (m : Int) ≤ well := hcan.2 (by omega)
                        have hbp : decide (0 < well) = true := by simp; omega
                        refine (some_in (W4.out).pl m (by omega)).mono ?_
                        rintro e w5 (⟨v, rfl, k1, k2, p5, c5, i5⟩ | ⟨rfl, i, k1, k2, k3, k4, _⟩)
                        · as_aux_lemma =>
                            obtain ⟨av', capv', e', rdw⟩ := (W4.out).own.rd (W4.out).uM c5 (fun y hy h => by omega)
                            injection e' with e1 e2 e3
                            subst e1 e3
                            obtain ⟨la, lcap, rfl, rdl⟩ := i5.rd (U := U) (show U < wr.heap.size by have := (W4.out).m1; have := (W4.out).uM; omega) (Ch.refl (fun _ => False) w5) (fun _ _ h => h)
                            rw [HCC.out] at rdw
                            have hwk : -1 ≤ wellK well m ∧ wellK well m ≤ 7 := by unfold wellK; split <;> omega
                            have L5 := Lib.hid (show LI w w5 B U f us (wellK well m) la av m c 0 from ⟨p5.mono (fun y _ h => h.1.1), by rw [tks_zero]; exact (W4.out).ur.ch c5 (by simp), (W4.out).u0, ch_below c5 (W4.out).bel (fun x h => h.1.1.1), hwk, rdl, rdw⟩)
                            clear p5 c5 i5 rdw rdl hwk k1 k2
                            go_wp2_with fail
                            go_loopw [21] (fun i wx => ∃ (j3 : Nat), j3 ≤ m ∧ i = .int .i64 j3 ∧ LI w wx B U f us (wellK well m) la av m c j3) (fun i _ => (m - (intOf i).toNat))
                            case atStart => exact ⟨0, by omega, rfl, L5.out⟩
                            case round =>
                              obtain ⟨j3, hj3, rfl, l6⟩ := hrel
                              clear L5
                              have L6 := Lib.hid l6
                              by_cases hjm : j3 < m
                              · obtain ⟨g1, rfl, hg1, d1⟩ := l6.l j3 hjm
                                obtain ⟨g2, rfl, hg2, d2⟩ := l6.wt j3 (by omega)
                                have hl3 : j3 < (wl us f).length := by rw [HL4.out]; omega
                                have hx3 := ((wl_mem us (at0 (wl us f) j3) f).1 (List.mem_iff_getElem?.2 ⟨j3, at0_get hl3⟩)).1
                                have hu6 := l6.ur.cell _ hx3
                                have hf6 := l6.ur.frozen (at0 (wl us f) j3)
                                have L7 := Lib.hid (fun q => (l6.drewN q).step hl3)
                                clear l6
                                generalize hy : at0 (wl us f) j3 = y at *
                                clear hy
                                unfold bv at hu6
                                go_wp2
                                go_quiet (fail)
                                go_wp2
                                go_roundw
                                case rel => exact ⟨j3 + 1, by omega, by go_num, (L7.out) _⟩
                                case measure => simp [intOf]; omega
                              · obtain rfl : j3 = m := by omega
                                clear l6
                                have hwe2 : wellK well j3 = well - j3 := by unfold wellK; rw [if_pos (by omega)]
                                rw [hwe2] at L6
                                go_wp2
                                go_meet
                                exact ⟨_, well - j3, by go_num, (L6.out).done⟩
                        · exfalso
                          rw [HCC.out] at k4
                          omega
                    · refine (some_in (W4.out).pl m (by omega)).mono ?_
                      rintro e w5 (⟨v, rfl, k1, k2, p5, c5, i5⟩ | ⟨rfl, i, k1, k2, k3, k4, p5, c5⟩)
                      · exfalso
                        rw [HCC.out] at k1
                        exact hcan ⟨k1, k2⟩
                      · rw [HCC.out] at k2 k4
                        have ur5 := (W4.out).ur.ch c5 (by simp)
                        have hwk : -1 ≤ wellK well i ∧ wellK well i ≤ 7 := by unfold wellK; split <;> omega
                        have Y5 := Lib.hid (show YI w w5 B U f us (wellK well i) from ⟨p5.mono (fun y _ h => by
                          rcases h with h | h
                          · exact h.1.1
                          · have := (W4.out).m1
                            have := (W4.out).uM
                            have := (W4.out).u0
                            exact ⟨by omega, by omega⟩), ur5, (W4.out).u0, ch_below c5 (W4.out).bel (fun x h => h.1.1.1), hwk⟩)
                        clear p5 c5 ur5 hwk
                        by_cases hcm : c < m
                        · as_aux_lemma =>
                            have hb1 : decide ((m : Int) ≤ (c : Int)) = false := by simp; omega
                            by_cases hp : 0 < well
                            · as_aux_lemma =>
                                have hbp : decide (0 < well) = true := by simp; omega
                                have hmin : min (c : Int) well = (i : Int) := by omega
                                have hwe2 : wellK well i = well - i := by unfold wellK; rw [if_pos hp]
                                rw [hwe2] at Y5
                                go_wp2_with fail
                                go_loopw [21] (fun i wx => i = .int .i64 0 ∧ wx = w5) (fun _ _ => 0)
                                case atStart => exact ⟨rfl, rfl⟩
                                case round =>
                                  obtain ⟨rfl, rfl⟩ := hrel
                                  go_wp2
                                  all_goals
                                    go_meet
                                    exact ⟨us, well - i, by go_num, Y5.out⟩
                            · as_aux_lemma =>
                                have hbp : decide (0 < well) = false := by simp; omega
                                have hwe2 : wellK well i = well := by unfold wellK; rw [if_neg hp]
                                rw [hwe2] at Y5
                                go_wp2_with fail
                                go_loopw [21] (fun i wx => i = .int .i64 0 ∧ wx = w5) (fun _ _ => 0)
                                case atStart => exact ⟨rfl, rfl⟩
                                case round =>
                                  obtain ⟨rfl, rfl⟩ := hrel
                                  go_wp2
                                  go_meet
                                  exact ⟨us, well, rfl, Y5.out⟩
                        · as_aux_lemma =>
                            have hb1 : decide ((m : Int) ≤ (c : Int)) = true := by simp; omega
                            have hb2 : decide (well < 0) = false := by
                              simp
                              by_cases h : 0 ≤ well
                              · exact h
                              · exact absurd ⟨by omega, fun h2 => absurd h2 h⟩ hcan
                            have hb2' : 0 ≤ well := by simpa using hb2
                            have hb3 : decide ((m : Int) ≤ well) = false := by
                              simp
                              by_cases h : well < (m : Int)
                              · exact h
                              · exact absurd ⟨by omega, fun _ => by omega⟩ hcan
                            have hb3' : well < (m : Int) := by simpa using hb3
                            by_cases hp : 0 < well
                            · as_aux_lemma =>
                                have hbp : decide (0 < well) = true := by simp; omega
                                have hmin : min (c : Int) well = (i : Int) := by omega
                                have hwe2 : wellK well i = well - i := by unfold wellK; rw [if_pos hp]
                                rw [hwe2] at Y5
                                go_wp2_with fail
                                go_loopw [21] (fun i wx => i = .int .i64 0 ∧ wx = w5) (fun _ _ => 0)
                                case atStart => exact ⟨rfl, rfl⟩
                                case round =>
                                  obtain ⟨rfl, rfl⟩ := hrel
                                  go_wp2
                                  all_goals
                                    go_meet
                                    exact ⟨us, well - i, by go_num, Y5.out⟩
                            · as_aux_lemma =>
                                have hbp : decide (0 < well) = false := by simp; omega
                                have hwe2 : wellK well i = well := by unfold wellK; rw [if_neg hp]
                                rw [hwe2] at Y5
                                go_wp2_with fail
                                go_loopw [21] (fun i wx => i = .int .i64 0 ∧ wx = w5) (fun _ _ => 0)
                                case atStart => exact ⟨rfl, rfl⟩
                                case round =>
                                  obtain ⟨rfl, rfl⟩ := hrel
                                  go_wp2
                                  go_meet
                                  exact ⟨us, well, rfl, Y5.out⟩
            --END S4
            --BEGIN F5
            · as_aux_lemma =>
                · obtain ⟨m, hm⟩ : ∃ m, N.tmod 8 = m := ⟨_, rfl⟩
                  have hm7 : -7 ≤ m ∧ m ≤ 7 := by
                    have h1 := Int.tmod_lt_of_pos N (show (0 : Int) < 8 by omega)
                    have h2 := Int.lt_tmod_of_pos N (show (0 : Int) < 8 by omega)
                    rw [hm] at h1 h2
                    omega
                  go_upto_region 20 with fail
                  clear hm
                  by_cases hm0 : m < 0
                  · go_wp2_with fail
                    refine (fail_in (W4.out).pl (-1) (by omega)).mono ?_
                    rintro e w5 ⟨rfl, p5, c5⟩
                    have Y5 := Lib.hid (show YI w w5 B U f us (-1) from ⟨p5.mono (fun y _ h => h.1), (W4.out).ur.out c5, (W4.out).u0, ch_below c5 (W4.out).bel (fun x h => h.1.1), by omega⟩)
                    clear p5 c5
                    go_wp2
                    go_meet
                    exact ⟨us, -1, rfl, Y5.out⟩
                  · go_wp2_with fail
                    refine (fail_in (W4.out).pl m (by omega)).mono ?_
                    rintro e w5 ⟨rfl, p5, c5⟩
                    have Y5 := Lib.hid (show YI w w5 B U f us m from ⟨p5.mono (fun y _ h => h.1), (W4.out).ur.out c5, (W4.out).u0, ch_below c5 (W4.out).bel (fun x h => h.1.1), by omega⟩)
                    clear p5 c5
                    go_wp2
                    go_meet
                    exact ⟨us, m, rfl, Y5.out⟩
            --END F5
          case rest =>
            --BEGIN R
            as_aux_lemma =>
              obtain ⟨us', well', rfl, y6⟩ := hcut
              have Y6 := Lib.hid y6
              clear y6 W4 HCC
              go_wp2_with fail
              go_loopw [23, 22] (fun i lf wx => ∃ (j4 : Nat), j4 ≤ f ∧ i = .int .i64 j4 ∧ lf = .int .i64 (cnt us' j4 : Nat) ∧ ∃ q, wx = wc.drewN q) (fun i _ _ => (f - (intOf i).toNat))
              case atStart => exact ⟨0, by omega, rfl, rfl, 0, rfl⟩
              case round =>
                obtain ⟨j4, hj4, rfl, rfl, q, hW⟩ := hrel
                have HW := Lib.hid hW
                have Y7 := Lib.hid (show YI w wr B U f us' well' from by rw [HW.out]; exact (Y6.out).drewN q)
                have hc4 := cnt_le us' j4
                clear hW
                by_cases hj4f : j4 < f
                · have hc : wr.cell? ⟨U, j4, none⟩ = some (.bool (us' j4)) := (Y7.out).ur.cell j4 hj4f
                  cases hu : us' j4
                  · have HU := Lib.hid (fun q2 => used_eq ((Y7.out).pl.drewN q2) j4 false hj4f hu)
                    have HCS := Lib.hid (cnt_succ_free hu)
                    rw [hu] at hc
                    clear hu
                    obtain ⟨c4, hcc⟩ : ∃ c4, cnt us' j4 = c4 := ⟨_, rfl⟩
                    have HC4 := Lib.hid hcc
                    rw [hcc] at hc4 ⊢
                    clear hcc
                    go_wp2
                    go_quiet ((go_at_call 14; exact quiet_same ((HU.out) _)))
                    go_wp2
                    go_roundw
                    case rel => exact ⟨j4 + 1, by omega, by go_num, by rw [HCS.out, HC4.out]; go_num, _, by rw [HW.out, World.drewN_drewN]⟩
                    case measure => simp [intOf]; omega
                  · have HU := Lib.hid (fun q2 => used_eq ((Y7.out).pl.drewN q2) j4 true hj4f hu)
                    have HCS := Lib.hid (cnt_succ_used hu)
                    rw [hu] at hc
                    clear hu
                    obtain ⟨c4, hcc⟩ : ∃ c4, cnt us' j4 = c4 := ⟨_, rfl⟩
                    have HC4 := Lib.hid hcc
                    rw [hcc] at hc4 ⊢
                    clear hcc
                    go_wp2
                    go_quiet ((go_at_call 14; exact quiet_same ((HU.out) _)))
                    go_wp2
                    go_roundw
                    case rel => exact ⟨j4 + 1, by omega, by go_num, by rw [HCS.out, HC4.out], _, by rw [HW.out, World.drewN_drewN]⟩
                    case measure => simp [intOf]; omega
                · obtain rfl : j4 = f := by omega
                  obtain ⟨c4, hcc⟩ : ∃ c4, cnt us' j4 = c4 := ⟨_, rfl⟩
                  have HC4 := Lib.hid hcc
                  rw [hcc]
                  clear hcc
                  go_wp2_with fail
                  refine (left_eq (Y7.out).pl HC4.out).mono ?_
                  rintro e w8 ⟨rfl, rfl⟩
                  go_wp2
                  go_roundw
                  case rel => exact ⟨j + 1, us', well', by omega, by go_num, rfl, Y7.out⟩
                  case measure => simp [intOf]; omega
            --END R
    · clear r3
      go_wp2
      go_ret
      exact ⟨rfl, (R3.out).bel⟩
theorem walk (p_n : Nat) (hp_n : p_n < 256) (p_acts : Option Addr) (p_acts_len p_acts_cap : Nat) (w : World) (hp_acts : IsS22 w p_acts p_acts_len) :
    Calls Try.prog 3 #[.int .u8 p_n, .slice p_acts p_acts_len p_acts_cap] w fun e w' => e = .returned (.bool true) ∧ Below w.heap.size w w' := by
  by_cases h : 60 < p_acts_len
  · exact long_in p_n p_acts p_acts_len p_acts_cap h w
  · exact plays_in p_n hp_n p_acts p_acts_len p_acts_cap (by omega) w hp_acts

/-! ### the row's step -/
set_option maxRecDepth 100000 in
theorem lifted (os : Os) (started : os.Started) (H : Type) (enc : TypeId × Value → H) :
    ReturnsInHanded {} Try.checked os 3 .any (Rows.poolPlaysSpec.pre6 enc Try.prog Try.f3 Rows.poolPlaysRow.domain false) (Rows.poolPlaysSpec.post enc Try.prog Try.f3 false true false false) := by
  refine returnsInHanded_of_change (C := Try.checked) own started (by kernel_rfl) Try.func3
    (ChangeSpec.witness6 (enc := enc) (C := Try.checked) false ⟨#[], #[.int .u8 0, .slice none 0 0], []⟩ 8 (by kernel_rfl) (by kernel_rfl) (by kernel_rfl) (by kernel_rfl)) ?_
  intro W base args ds gs before hval0 hW hcnd _
  have hval : ∀ (j : Nat) t v, Try.f3.params[j]? = some t → args[j]? = some v → Value.okWide Try.prog W .any base t v := hval0
  have hW' := hW
  obtain ⟨p, q, hA0, hV, rfl, hfz, hnd⟩ := hW
  have hA : DataW.TrodAll enc Try.prog W 0 (fun _ => true) true Try.f3.params.toList args.toList ds p := hA0
  rw [Try.params3] at hA hval
  obtain ⟨v0, vs0, d0, ds0, p0, q0, hargs, rfl, rfl, h0, r0⟩ := trodAll_cons hA
  obtain ⟨v1, vs1, d1, ds1, p1, q1, rfl, rfl, rfl, h1, r1⟩ := trodAll_cons r0
  obtain ⟨rfl, rfl, rfl⟩ := trodAll_nil r1
  obtain rfl : args = #[v0, v1] := by cases args; simp_all
  obtain ⟨rfl, rfl⟩ := trodVars_none hV
  obtain ⟨a0, rfl, rfl, rfl, w0⟩ := open_int Try.underlying5 (hval 0 5 v0 rfl rfl) h0
  obtain ⟨n0, rfl, b0⟩ := wf_u8 w0
  obtain ⟨a1, len1, cap1, rfl⟩ := okWide_slice Try.underlying22 (hval 1 22 v1 rfl rfl)
  have k1 := h1
  have lt1 : ∀ x ∈ p1, x.block < W.heap.size := by obtain ⟨m, hm⟩ := k1; exact DataW.trod_lt m _ _ _ hm
  have w1 := openS22 h1
  clear hA0 hval0
  refine (walk n0 b0 a1 len1 cap1 W w1).mono fun e W' ⟨he, bel⟩ => ?_
  subst he
  exact ⟨_, rfl, _, _, _, [], _, [], hW', trodAll_mk1 (shut_bool Try.underlying4 _), (trodAll_cons_mk (shut_int Try.underlying5 w0) (trodAll_cons_mk (Below.trod laidOut (by kernel_rfl) (of_decide_eq_true (by kernel_rfl)) k1 bel lt1) trodAll_mk0)), rfl, bel.frame _, fun h => by cases h⟩

theorem over : Rows.poolPlaysRow.holds Try.pinned (OpenSpec.ofChange Rows.poolPlaysSpec) :=
  OpenClaim.holds_of_wide 3 Try.f3 rfl rfl rfl rfl rfl rfl rfl ⟨rfl, rfl, rfl, rfl, rfl⟩ rfl rfl rfl rfl rfl (by kernel_rfl) Try.func3 (by kernel_rfl)
    (of_decide_eq_true (by kernel_rfl)) (by unfold Func.isWrapper; first | (rw [if_pos (by decide +kernel)]; kernel_rfl) | (rw [if_neg (by decide +kernel)]; exact ⟨rfl, rfl⟩))
    (fun os started H enc _ => lifted os started H enc)

/-- THE STATEMENT -/
theorem proved : Rows.PoolPlaysSaid := over
#print axioms proved
end Go.Proofs.Ytfjkomglljcfjaa.poolPlays
