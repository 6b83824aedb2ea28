/-
  Contract of table.Make that is done: the frames are cleared, the root is written.
-/
import Derived.Test.YtepcijkmecoofaaEN
namespace Go.Proofs.Ytepcijkmecoofaa
open Go.ChangeShapes Go.WideShapes Go.ChangeAt Go.RowKit
open WM EM
set_option maxRecDepth 100000

/-- The bytes when the first k of the frames l are cleared. -/
def clearF (f : Nat → Nat) (l : Nat → Nat) : Nat → Nat → Nat
  | 0 => f
  | k + 1 => putF (clearF f l k) (l k * 256) 256 (fun _ => 0)
/-- The bytes when k words of the root are written. -/
def saveF (f : Nat → Nat) (form : Nat) (l : Nat → Nat) : Nat → Nat → Nat
  | 0 => f
  | k + 1 => putF (saveF f form l k) (l 0 * 256 + k * 8) 8 (byteN (pk form (l (k + 1)) true))

theorem below_drew {w w5 : World} (b5 : Below w.drew.heap.size w.drew w5) : Below w.heap.size w w5 := below_up (below_draws (Below.refl _ w) 1) b5
/-- What stands in Make's loops. -/
structure Mk (V : World) (wr : World) (s h n : Nat) (F : Nat → Nat) : Prop where
  st : St wr s h n F
  gr : V.grownBy wr (some h)
set_option maxHeartbeats 2000000 in
theorem make_ok {w : World} {s h n : Nat} {f : Nat → Nat} (H : St w s h n f) (form : Nat) (hform : form = 1 ∨ form = 2) (b off cap : Nat) (l : Nat → Nat) (hl : IntsAt w (some ⟨b, off, none⟩) 5 (fun i => (l i : Int))) (hcap : 5 ≤ cap) (hall : ∀ i, i < 5 → l i < n) (hbh : b ≠ h) :
    Calls Try.prog 18 #[.pointer (some ⟨s, 0, none⟩), .int .i64 form, .slice (some ⟨b, off, none⟩) 5 cap] w fun e w' => ∃ g' cap', e = .returned (.tuple #[.agg #[.int .i64 form, .slice (some ⟨g', 0, none⟩) 5 cap'], .int .i64 0]) ∧
      w.heap.size ≤ g' ∧ IntsAt w' (some ⟨g', 0, none⟩) 5 (fun i => (l i : Int)) ∧ St w' s h n (saveF (clearF f l 5) form l 4) ∧ w.grownBy w' (some h) := by
  have b1 := below_new w (.cells #[.int .i64 0, .slice none 0 0] 27)
  have l2 := l2_mk w (.int .i64 0) (.slice none 0 0) 27
  obtain ⟨p, q, r, t, hL⟩ := layout_any form (by omega)
  have HL := Lib.hid hL
  have HA := Lib.hid (fun W (hb : Below w.heap.size w W) => allIn_yes (H.below hb) (some ⟨b, off, none⟩) 5 cap (fun i => (l i : Int)) (hl.below hb) (by omega) (fun i hi => ⟨by omega, by have := hall i hi; omega⟩))
  have hhl := H.row.lt
  have hn512 := H.le
  have HP := Lib.hid (fun fr (hfr : fr < n) W => pack_in form fr true W hform (by omega))
  have H' := Lib.hid H
  have HIn := Lib.hid hl
  have HAll := Lib.hid hall
  clear hL hform H hl hall
  go_enter Try.func18, Try.ntmps18
  go_wp2_with fail
  refine (HL.out _).mono ?_
  rintro e W1 ⟨rfl, hb1⟩
  have b2 := below_more (below_up b1 hb1) (.cells #[.int .i64 p, .int .i64 q, .int .i64 r, .int .u64 t] 64)
  have HR2 := Lib.hid ((l2.later hb1).later (below_new W1 (.cells #[.int .i64 p, .int .i64 q, .int .i64 r, .int .u64 t] 64)))
  have HA' := Lib.hid ((HA.out) _ b2)
  clear hb1 b1 l2
  go_wp2_with (go_at_call 28; refine (HA'.out).mono ?_; rintro e w' ⟨rfl, rfl⟩)
  clear HA' HA
  generalize W1.alloc (.cells #[.int .i64 p, .int .i64 q, .int .i64 r, .int .u64 t] 64) = V at *
  have HB2 := Lib.hid b2
  clear b2
  go_loopw [35] (fun i wr => ∃ k : Nat, k ≤ 5 ∧ i = .int .i64 k ∧ Mk V wr s h n (clearF f l k)) (fun i _ => (5 - intOf i).toNat)
  case atStart => exact ⟨0, by omega, rfl, (H'.out).below HB2.out, World.grownBy.refl _ _⟩
  case round =>
    obtain ⟨k, hk, rfl, hM⟩ := hrel
    have HM := Lib.hid hM
    clear hM
    by_cases hlt : k < 5
    · obtain ⟨b', off', e, hbl, hc⟩ := (((HIn.out).below HB2.out).kept (HM.out).gr (by rintro b1 o1 e e2; injection e with e; injection e with e1; injection e2 with e2; omega)) k hlt
      injection e with e
      injection e with e1 e2
      subst e1 e2
      have k5 : (k : Int) < 5 := by omega
      have HC := Lib.hid (clear_ok (HM.out).st (l k) (HAll.out k hlt))
      go_wp2_with fail
      refine (HC.out).mono ?_
      rintro e w5 ⟨rfl, h5, g5⟩
      have HM5 : Hid (Mk V w5 s h n (clearF f l (k + 1))) := Lib.hid ⟨h5, (HM.out).gr.trans g5⟩
      clear h5 g5 hc HC
      go_wp2
      go_roundw
      case rel => exact ⟨k + 1, by omega, by go_num, HM5.out⟩
      case measure => simp [intOf]; omega
    · have k5 : ¬ (k : Int) < 5 := by omega
      have HM0 : Hid (Mk V wr s h n (clearF f l 5)) := Lib.hid (by have := HM.out; rw [show k = 5 by omega] at this; exact this)
      clear HM hlt
      go_wp2_with fail
      go_loopw [12, 13, 46] (fun _ _ i wr => ∃ k : Nat, k ≤ 4 ∧ i = .int .i64 k ∧ Mk V wr s h n (saveF (clearF f l 5) form l k)) (fun _ _ i _ => (4 - intOf i).toNat)
      case atStart => exact ⟨0, by omega, rfl, HM0.out⟩
      case round =>
        clear HM0
        obtain ⟨k, hk, rfl, hM⟩ := hrel
        have HM := Lib.hid hM
        clear hM
        by_cases hlt : k < 4
        · have hIn := ((HIn.out).below HB2.out).kept (HM.out).gr (by rintro b1 o1 e e2; injection e with e; injection e with e1; injection e2 with e2; omega)
          obtain ⟨b', off', e, hbl, hc⟩ := hIn (k + 1) (by omega)
          injection e with e
          injection e with e1 e2
          subst e1 e2
          rw [show off + (k + 1) = off + 1 + k by omega] at hc
          obtain ⟨b', off', e, _, hc0⟩ := hIn 0 (by omega)
          injection e with e
          injection e with e1 e2
          subst e1 e2
          rw [Nat.add_zero] at hc0
          clear hIn
          have k5 : (k : Int) < 4 := by omega
          obtain ⟨x, hx⟩ : ∃ x, l (k + 1) = x := ⟨_, rfl⟩
          obtain ⟨r0, hr0⟩ : ∃ x, l 0 = x := ⟨_, rfl⟩
          have HP' := Lib.hid (HP.out (l (k + 1)) (HAll.out _ (by omega)))
          have HS' := Lib.hid (fun W (hb : Below wr.heap.size wr W) => save_ok ((HM.out).st.below hb) (l 0) k (pk form (l (k + 1)) true) (HAll.out 0 (by omega)) (by omega))
          replace hc : wr.cell? ⟨b, off + 1 + k, none⟩ = some (.int .i64 (l (k + 1) : Nat)) := hc
          replace hc0 : wr.cell? ⟨b, off, none⟩ = some (.int .i64 (l 0 : Nat)) := hc0
          rw [hx] at HP' hc HS'
          rw [hr0] at HS' hc0
          have HX := Lib.hid (And.intro hx hr0)
          clear hx hr0
          have HK6 : Hid (∀ w5 w6 : World, Below wr.heap.size wr w5 → w5.grownBy w6 (some h) → w6.cell? ⟨b, off, none⟩ = some (.int .i64 (r0 : Nat)) ∧ wr.grownBy w6 (some h)) := Lib.hid (fun w5 w6 b5 g6 =>
            ⟨(World.cell?_of_block (a := ⟨b, off, none⟩) (g6.block b (Nat.lt_of_lt_of_le hbl b5.size) (by simpa using hbh))).trans ((b5.cell (p := ⟨b, off, none⟩) hbl).trans hc0), (World.grownBy.but (grown_of_below b5) (some h)).trans g6⟩)
          go_wp2_with fail
          go_region_held3 (fun w' => w'.cell? ⟨b, off, none⟩ = some (.int .i64 (r0 : Nat)))
            (first
              | go_keep
              | (rw [(bel.out).cell (p := ⟨b, off, none⟩) hbl]; assumption))
            (first
              | (go_at_call 15; with_reducible refine ((HP'.out) _).mono ?_; rintro e w5 ⟨rfl, b5⟩; have bel := Lib.hid (below_drew b5))
              | (go_at_call 30; with_reducible refine ((HS'.out) _ bel.out).mono ?_; rintro e w6 ⟨rfl, h6, g6⟩; obtain ⟨c6, g7⟩ := (HK6.out) w5 w6 bel.out g6))
          have HM6 : Hid (Mk V w6 s h n (saveF (clearF f l 5) form l (k + 1))) := Lib.hid ⟨by
            have e : saveF (clearF f l 5) form l (k + 1) = putF (saveF (clearF f l 5) form l k) (r0 * 256 + k * 8) 8 (byteN (pk form x true)) := by
              rw [← (HX.out).1, ← (HX.out).2]; rfl
            rw [e]; exact h6, (HM.out).gr.trans g7⟩
          clear h6 g6 c6 g7 bel hc hc0
          go_wp2
          go_roundw
          case rel => exact ⟨k + 1, by omega, by go_num, HM6.out⟩
          case measure => simp [intOf]; omega
        · obtain rfl : k = 4 := by omega
          clear hlt
          have hIn := ((HIn.out).below HB2.out).kept (HM.out).gr (by rintro b1 o1 e e2; injection e with e; injection e with e1; injection e2 with e2; omega)
          have HCl := Lib.hid (clone_in (cap := cap) hIn (by omega))
          have hlw := (HR2.out).lt
          have HR3 := Lib.hid ((HR2.out).kept (HM.out).gr (by intro e; injection e with e; omega))
          clear hIn
          go_wp2_with fail
          refine (HCl.out).mono ?_
          rintro e w7 ⟨g', cap', rfl, hg', hI7, b7⟩
          obtain ⟨e0, e1, el, ef⟩ := (HR3.out).later b7
          have HI7 := Lib.hid hI7
          have HS7 := Lib.hid ((HM.out).st.below b7)
          have hz1 := (HB2.out).size
          have hz2 := (HM.out).gr.size
          have HG7 : Hid (w.grownBy w7 (some h)) := Lib.hid (((World.grownBy.but (grown_of_below HB2.out) (some h)).trans (HM.out).gr).trans (World.grownBy.but (grown_of_below b7) (some h)))
          have hg2 : w.heap.size < g' := by omega
          clear hI7 b7 HR3 HCl hg'
          go_wp2
          have z0 : (w7.cell? ⟨w.heap.size, 0, none⟩).isSome = true := by rw [e0]; rfl
          have z1 : (w7.cell? ⟨w.heap.size, 1, none⟩).isSome = true := by rw [e1]; rfl
          have gA := grown_setCell w7 ⟨w.heap.size, 0, none⟩ (.int .i64 form)
          have gB := grown_setCell (w7.setCell ⟨w.heap.size, 0, none⟩ (.int .i64 form)) ⟨w.heap.size, 1, none⟩ (.slice (some ⟨g', 0, none⟩) 5 cap')
          have gC : w.grownBy ((w7.setCell ⟨w.heap.size, 0, none⟩ (.int .i64 form)).setCell ⟨w.heap.size, 1, none⟩ (.slice (some ⟨g', 0, none⟩) 5 cap')) (some h) :=
            ⟨gB.os.trans (gA.os.trans (HG7.out).os), gB.tape.trans (gA.tape.trans (HG7.out).tape), gB.output.trans (gA.output.trans (HG7.out).output), Nat.le_trans (HG7.out).size (Nat.le_trans gA.size gB.size),
              fun j hj hr => by
                have hj7 : j < w7.heap.size := Nat.lt_of_lt_of_le hj (HG7.out).size
                have hne : some j ≠ some w.heap.size := by intro e; injection e with e; omega
                rw [gB.block j (Nat.lt_of_lt_of_le hj7 gA.size) hne, gA.block j hj7 hne, (HG7.out).block j hj hr]⟩
          have hss := (H'.out).lt
          have hsA := ((HS7.out).kept gA (by intro e; injection e with e; simp at e; omega) (by intro e; injection e with e; simp at e; omega)).kept gB (by intro e; injection e with e; simp at e; omega) (by intro e; injection e with e; simp at e; omega)
          have hiA := ((HI7.out).kept gA (by intro b1 o1 e e2; injection e with e; injection e with e1; injection e2 with e2; simp at e2; omega)).kept gB (by intro b1 o1 e e2; injection e with e; injection e with e1; injection e2 with e2; simp at e2; omega)
          exact ret22 (hr := rfl) (hp := rfl) z0 z1 ⟨g', cap', rfl, by omega, hiA, hsA, gC⟩
end Go.Proofs.Ytepcijkmecoofaa
