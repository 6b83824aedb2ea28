/-
  Contracts of container/heap over package pool's numbers: up, down, Push, Pop.
-/
import Derived.Test.YtfjkomglljcfjaaPA
import Derived.LoopTactic
namespace Go.Proofs.Ytfjkomglljcfjaa
open Go.ChangeShapes Go.WideShapes Go.ChangeAt Go.RowKit
open PM
set_option maxRecDepth 100000

theorem load_hd {w : World} {P g n cap : Nat} (h : w.cell? ⟨P, 0, none⟩ = some (.slice (some ⟨g, 0, none⟩) n cap)) :
    (loadVar 46 ⟨P, 0, none⟩).run Try.prog w = .ok (.slice (some ⟨g, 0, none⟩) n cap) w := by
  have hagg : (isAgg 46).run Try.prog w = .ok false w := by
    unfold isAgg
    rw [Sem.run_bind, run_underlying und_frees w]
    rfl
  simp [loadVar, Sem.run_bind, hagg, h]
theorem met_val (w : World) (P g n cap : Nat) (h : w.cell? ⟨P, 0, none⟩ = some (.slice (some ⟨g, 0, none⟩) n cap)) (name : String) (f : FuncId) (F : Nat)
    (h1 : (Try.prog.info? 50).map (fun i => (i.methods.find? (·.name == name)).map (fun m => (m.path.toList, m.func))) = some (some ([], some (f, false))))
    (h2 : (Builtin.ssaWrapNilChk_ #[50] 50 #[.pointer (some ⟨P, 0, none⟩), strVal "", strVal ((name.splitOn ".").getLast?.getD name)]).run Try.prog w = .ok (.pointer (some ⟨P, 0, none⟩)) w) :
    (method (F + 1) 50 (.pointer (some ⟨P, 0, none⟩)) name).run Try.prog w = .ok (f, .slice (some ⟨g, 0, none⟩) n cap) w := by
  obtain ⟨i, hi, hm⟩ := Option.map_eq_some_iff.1 h1
  obtain ⟨m, hm, hp⟩ := Option.map_eq_some_iff.1 hm
  injection hp with hp hf
  have hp' : m.path = #[] := by rw [← Array.toList_inj, hp]
  have hu : Try.prog.underlying 50 = some (.pointer 46) := by kernel_rfl
  unfold method
  simp [typeInfo, hi, hm, hp', hf, follow, receiverAt, run_underlying hu, Place.get, h2, asAddr, load_hd h]
theorem met_less {w : World} {P g n cap : Nat} (h : w.cell? ⟨P, 0, none⟩ = some (.slice (some ⟨g, 0, none⟩) n cap)) :
    (method 179 50 (.pointer (some ⟨P, 0, none⟩)) "Less").run Try.prog w = .ok (42, .slice (some ⟨g, 0, none⟩) n cap) w :=
  met_val w P g n cap h "Less" _ _ (by kernel_rfl) (by kernel_rfl)
theorem met_swap {w : World} {P g n cap : Nat} (h : w.cell? ⟨P, 0, none⟩ = some (.slice (some ⟨g, 0, none⟩) n cap)) :
    (method 179 50 (.pointer (some ⟨P, 0, none⟩)) "Swap").run Try.prog w = .ok (43, .slice (some ⟨g, 0, none⟩) n cap) w :=
  met_val w P g n cap h "Swap" _ _ (by kernel_rfl) (by kernel_rfl)
theorem met_len {w : World} {P g n cap : Nat} (h : w.cell? ⟨P, 0, none⟩ = some (.slice (some ⟨g, 0, none⟩) n cap)) :
    (method 179 50 (.pointer (some ⟨P, 0, none⟩)) "Len").run Try.prog w = .ok (41, .slice (some ⟨g, 0, none⟩) n cap) w :=
  met_val w P g n cap h "Len" _ _ (by kernel_rfl) (by kernel_rfl)
theorem met_push (w : World) (P : Nat) :
    (method 179 50 (.pointer (some ⟨P, 0, none⟩)) "Push").run Try.prog w = .ok (45, .pointer (some ⟨P, 0, none⟩)) w := by kernel_rfl
theorem met_pop (w : World) (P : Nat) :
    (method 179 50 (.pointer (some ⟨P, 0, none⟩)) "Pop").run Try.prog w = .ok (44, .pointer (some ⟨P, 0, none⟩)) w := by kernel_rfl

/-- A heap under way: the numbers h in block g, reached by P. -/
structure HS (w0 w : World) (P g n cap : Nat) (S : Nat → Bool) (h : Nat → Nat) : Prop where
  hd : Hd w P g n cap
  row : VR w g 3 (iv h) n cap
  bag : Bag h n S
  gr : w0.grownBy w (some g)
  ne : P ≠ g
theorem HS.swap {w0 w w' : World} {P g n cap : Nat} {S : Nat → Bool} {h : Nat → Nat} (H : HS w0 w P g n cap S h) {i j : Nat} (hi : i < n) (hj : j < n) (hr : VR w' g 3 (iv (swp h i j)) n cap) (hg : w.grownBy w' (some g)) : HS w0 w' P g n cap S (swp h i j) :=
  ⟨H.hd.kept hg (by simpa using H.ne), hr, H.bag.swp hi hj, grown_trans H.gr hg, H.ne⟩
theorem HS.drewN {w0 w : World} {P g n cap : Nat} {S : Nat → Bool} {h : Nat → Nat} (H : HS w0 w P g n cap S h) (q : Nat) : HS w0 (w.drewN q) P g n cap S h :=
  ⟨H.hd, H.row.drewN q, H.bag, grown_drewN H.gr q, H.ne⟩

theorem half (j : Nat) (h : 0 < j) : (((j : Int) - 1) / 2) = (((j - 1) / 2 : Nat) : Int) := by omega
set_option maxHeartbeats 1000000 in
theorem up_in {w0 w : World} {P g n cap : Nat} {S : Nat → Bool} {h : Nat → Nat} (H : HS w0 w P g n cap S h) (hn : n ≤ 1000000) (j : Nat) (hj : j < n) (hu : Up h n j) :
    Calls Try.prog 23 #[.iface 50 (.pointer (some ⟨P, 0, none⟩)), .int .i64 (j : Nat)] w fun e w' => e = .returned (.tuple #[]) ∧
      ∃ h', HS w0 w' P g n cap S h' ∧ Hp h' n := by
  have HH := Lib.hid H
  have HU := Lib.hid hu
  clear H hu
  go_enter Try.func23, Try.ntmps23
  go_wp2_with fail
  go_loopw [1] (fun i wr => ∃ (k : Nat) (h' : Nat → Nat), k < n ∧ i = .int .i64 k ∧ HS w0 wr P g n cap S h' ∧ Up h' n k) (fun i _ => (intOf i).toNat)
  case atStart => exact ⟨j, h, hj, rfl, HH.out, HU.out⟩
  case round =>
    obtain ⟨k, h', hk, rfl, h1, h2⟩ := hrel
    clear HH HU
    have HH := Lib.hid h1
    have HU := Lib.hid h2
    obtain ⟨c1, c2⟩ := h1.hd
    clear h1 h2
    by_cases h0 : k = 0
    · subst h0
      go_wp2
      go_end0
      exact ⟨rfl, h', HH.out, (HU.out).top⟩
    · have hml := met_less c1
      have ek : ((k : Int)).toNat = k := by omega
      have ep : (((k : Int) - 1) / 2).toNat = (k - 1) / 2 := by omega
      have HL := Lib.hid (fun b (hb : lt (h' k) (h' ((k - 1) / 2)) = b) => less_b (HH.out).row (k : Int) (((k : Int) - 1) / 2) (by omega) (by omega) (by omega) (by omega) b (by rw [ek, ep]; exact hb))
      have hk1 : ((((k : Int) - 1) / 2) == (k : Int)) = false := by simp; omega
      cases hb : lt (h' k) (h' ((k - 1) / 2))
      · have HB := Lib.hid hb
        clear hb ek ep
        go_wp2_with fail
        (with_reducible refine ((HL.out) false HB.out).mono ?_)
        rintro e w1 ⟨rfl, q, rfl⟩
        go_wp2
        go_end0
        refine ⟨rfl, h', (HH.out).drewN q, (HU.out).done ?_⟩
        have := HB.out
        unfold lt at this
        simpa using this
      · have HB := Lib.hid hb
        have HEP := Lib.hid ep
        have HEK := Lib.hid ek
        clear hb ek ep
        go_wp2_with fail
        (with_reducible refine ((HL.out) true HB.out).mono ?_)
        rintro e w1 ⟨rfl, q, hq⟩
        have h3 := (HH.out).drewN q
        rw [← hq] at h3
        clear hq hml c1 c2
        obtain ⟨c1, c2⟩ := h3.hd
        have H3 := Lib.hid h3
        clear h3
        have hms := met_swap c1
        go_wp2_with fail
        refine (swap_in (H3.out).row _ _ (by omega) (by omega) (by omega) (by omega)).mono ?_
        rintro e w2 ⟨rfl, h4, hg⟩
        rw [HEP.out, HEK.out] at h4
        have H4 := Lib.hid ((H3.out).swap (show (k - 1) / 2 < n by omega) hk h4 hg)
        clear h4 hg
        go_wp2
        go_roundw
        case rel =>
          refine ⟨(k - 1) / 2, _, by omega, by go_num, H4.out, (HU.out).step (by omega) hk ?_⟩
          have := HB.out
          unfold lt at this
          simp at this
          omega
        case measure => simp [intOf]; omega

theorem lt_eq {h : Nat → Nat} {i j x y : Nat} {b : Bool} (hb : lt (h x) (h y) = b) (hi : i = x) (hj : j = y) : lt (h i) (h j) = b := by rw [hi, hj]; exact hb
theorem lt_true {a b : Nat} (h : lt a b = true) : a < b := by unfold lt at h; simpa using h
theorem lt_false {a b : Nat} (h : lt a b = false) : b ≤ a := by unfold lt at h; simpa using h
theorem toNat_is {i : Int} {x : Nat} (h : i = (x : Int)) : i.toNat = x := by omega
/-- Going down: what is behind n stays. -/
structure DI (w0 w : World) (P g N cap : Nat) (S : Nat → Bool) (h0 : Nat → Nat) (n k : Nat) (h : Nat → Nat) : Prop where
  hs : HS w0 w P g N cap S h
  dn : Dn h n k
  st : ∀ x, n ≤ x → h x = h0 x
def SomeB (e : Ending) : Prop := ∃ b, e = .returned (.bool b)
theorem SomeB.mk (b : Bool) : SomeB (.returned (.bool b)) := ⟨b, rfl⟩
def DE (w0 w : World) (P g N cap : Nat) (S : Nat → Bool) (h0 : Nat → Nat) (n : Nat) : Prop := ∃ h, HS w0 w P g N cap S h ∧ Hp h n ∧ ∀ x, n ≤ x → h x = h0 x
theorem DI.swap {w0 w w' : World} {P g N cap : Nat} {S : Nat → Bool} {h0 h : Nat → Nat} {n k j : Nat} (H : DI w0 w P g N cap S h0 n k h) (hN : n ≤ N) (hj : j < n) (h1 : (j - 1) / 2 = k) (h2 : 0 < j) (hl : h j ≤ h k)
    (ho : ∀ c, 0 < c → c < n → (c - 1) / 2 = k → h j ≤ h c) (hr : VR w' g 3 (iv (swp h k j)) N cap) (hg : w.grownBy w' (some g)) : DI w0 w' P g N cap S h0 n j (swp h k j) :=
  ⟨H.hs.swap (by omega) (by omega) hr hg, H.dn.step h1 h2 hj hl ho, fun x hx => by rw [swp_o h k j (by omega) (by omega)]; exact H.st x hx⟩
theorem DI.drewN {w0 w : World} {P g N cap : Nat} {S : Nat → Bool} {h0 h : Nat → Nat} {n k : Nat} (H : DI w0 w P g N cap S h0 n k h) (q : Nat) : DI w0 (w.drewN q) P g N cap S h0 n k h := ⟨H.hs.drewN q, H.dn, H.st⟩
set_option maxHeartbeats 4000000 in
theorem down_in {w0 w : World} {P g n N cap : Nat} {S : Nat → Bool} {h : Nat → Nat} (H : HS w0 w P g N cap S h) (hN : N ≤ 1000000) (hn : n ≤ N) (hu : Dn h n 0) :
    Calls Try.prog 24 #[.iface 50 (.pointer (some ⟨P, 0, none⟩)), .int .i64 0, .int .i64 (n : Nat)] w fun e w' => SomeB e ∧ DE w0 w' P g N cap S h n := by
  have HI := Lib.hid (show DI w0 w P g N cap S h n 0 h from ⟨H, hu, fun _ _ => rfl⟩)
  clear H hu
  go_enter Try.func24, Try.ntmps24
  go_wp2_with fail
  go_loopw [7] (fun i wr => ∃ (k : Nat) (h' : Nat → Nat), k ≤ n ∧ i = .int .i64 k ∧ DI w0 wr P g N cap S h n k h') (fun i _ => (n + 1 - (intOf i).toNat))
  case atStart => exact ⟨0, h, by omega, rfl, HI.out⟩
  case round =>
    obtain ⟨k, h', hk, rfl, h1⟩ := hrel
    clear HI
    have HI := Lib.hid h1
    obtain ⟨c1, c2⟩ := h1.hs.hd
    clear h1
    by_cases hl : n ≤ 2 * k + 1
    · go_wp2
      go_ret
      exact ⟨SomeB.mk _, h', (HI.out).hs, (HI.out).dn.leaf hl, (HI.out).st⟩
    · have hml := met_less c1
      by_cases hr : 2 * k + 2 < n
      · cases hb : lt (h' (2 * k + 2)) (h' (2 * k + 1))
        · have HB := Lib.hid hb
          clear hb
          go_wp2_with fail
          (with_reducible refine (less_b (HI.out).hs.row _ _ (by omega) (by omega) (by omega) (by omega) false (lt_eq HB.out (by omega) (by omega))).mono ?_)
          rintro e w1 ⟨rfl, q, hq⟩
          have h3 := (HI.out).drewN q
          rw [← hq] at h3
          clear hq hml c1 c2
          obtain ⟨c1, c2⟩ := h3.hs.hd
          have H3 := Lib.hid h3
          clear h3 HI
          have hml := met_less c1
          cases hd : lt (h' (2 * k + 1)) (h' k)
          · have HD := Lib.hid hd
            clear hd
            go_wp2_with fail
            (with_reducible refine (less_b (H3.out).hs.row _ _ (by omega) (by omega) (by omega) (by omega) false (lt_eq HD.out (by omega) (by omega))).mono ?_)
            rintro e w8 ⟨rfl, q, hq⟩
            have h8 := (H3.out).drewN q
            rw [← hq] at h8
            have H8 := Lib.hid h8
            clear hq hml c1 c2 h8
            go_wp2
            go_ret
            refine ⟨SomeB.mk _, h', (H8.out).hs, (H8.out).dn.done ?_ ?_, (H8.out).st⟩
            · have := lt_false HD.out
              exact this
            · intro hx
              have := lt_false HD.out
              have := lt_false HB.out
              omega
          · have HD := Lib.hid hd
            clear hd
            go_wp2_with fail
            (with_reducible refine (less_b (H3.out).hs.row _ _ (by omega) (by omega) (by omega) (by omega) true (lt_eq HD.out (by omega) (by omega))).mono ?_)
            rintro e w8 ⟨rfl, q, hq⟩
            have h8 := (H3.out).drewN q
            rw [← hq] at h8
            clear hq hml c1 c2
            obtain ⟨c1, c2⟩ := h8.hs.hd
            have H8 := Lib.hid h8
            clear h8
            have hms := met_swap c1
            go_wp2_with fail
            (with_reducible refine (swap_in (H8.out).hs.row _ _ (by omega) (by omega) (by omega) (by omega)).mono ?_)
            rintro e w9 ⟨rfl, h9, hg9⟩
            rw [show (k : Int).toNat = k by omega, toNat_is (show _ = ((2 * k + 1 : Nat) : Int) by omega)] at h9
            have H9 := Lib.hid ((H8.out).swap hn (show 2 * k + 1 < n by omega) (by omega) (by omega) (Nat.le_of_lt (lt_true HD.out)) (by
              intro c _ hc2 hc3
              have := lt_false HB.out
              by_cases e : c = 2 * k + 1
              · rw [e]; exact Nat.le_refl _
              · rw [show c = 2 * k + 2 by omega]; exact this) h9 hg9)
            clear h9 hg9 hms c1 c2
            go_wp2
            go_roundw
            case rel => exact ⟨2 * k + 1, _, by omega, by go_num, H9.out⟩
            case measure => simp [intOf]; omega
        · have HB := Lib.hid hb
          clear hb
          go_wp2_with fail
          (with_reducible refine (less_b (HI.out).hs.row _ _ (by omega) (by omega) (by omega) (by omega) true (lt_eq HB.out (by omega) (by omega))).mono ?_)
          rintro e w1 ⟨rfl, q, hq⟩
          have h3 := (HI.out).drewN q
          rw [← hq] at h3
          clear hq hml c1 c2
          obtain ⟨c1, c2⟩ := h3.hs.hd
          have H3 := Lib.hid h3
          clear h3 HI
          have hml := met_less c1
          cases hd : lt (h' (2 * k + 2)) (h' k)
          · have HD := Lib.hid hd
            clear hd
            go_wp2_with fail
            (with_reducible refine (less_b (H3.out).hs.row _ _ (by omega) (by omega) (by omega) (by omega) false (lt_eq HD.out (by omega) (by omega))).mono ?_)
            rintro e w8 ⟨rfl, q, hq⟩
            have h8 := (H3.out).drewN q
            rw [← hq] at h8
            have H8 := Lib.hid h8
            clear hq hml c1 c2 h8
            go_wp2
            go_ret
            refine ⟨SomeB.mk _, h', (H8.out).hs, (H8.out).dn.done ?_ ?_, (H8.out).st⟩
            · have := lt_false HD.out
              have := lt_true HB.out
              omega
            · intro hx
              have := lt_false HD.out
              exact this
          · have HD := Lib.hid hd
            clear hd
            go_wp2_with fail
            (with_reducible refine (less_b (H3.out).hs.row _ _ (by omega) (by omega) (by omega) (by omega) true (lt_eq HD.out (by omega) (by omega))).mono ?_)
            rintro e w8 ⟨rfl, q, hq⟩
            have h8 := (H3.out).drewN q
            rw [← hq] at h8
            clear hq hml c1 c2
            obtain ⟨c1, c2⟩ := h8.hs.hd
            have H8 := Lib.hid h8
            clear h8
            have hms := met_swap c1
            go_wp2_with fail
            (with_reducible refine (swap_in (H8.out).hs.row _ _ (by omega) (by omega) (by omega) (by omega)).mono ?_)
            rintro e w9 ⟨rfl, h9, hg9⟩
            rw [show (k : Int).toNat = k by omega, toNat_is (show _ = ((2 * k + 2 : Nat) : Int) by omega)] at h9
            have H9 := Lib.hid ((H8.out).swap hn (show 2 * k + 2 < n by omega) (by omega) (by omega) (Nat.le_of_lt (lt_true HD.out)) (by
              intro c _ hc2 hc3
              have := lt_true HB.out
              by_cases e : c = 2 * k + 2
              · rw [e]; exact Nat.le_refl _
              · rw [show c = 2 * k + 1 by omega]; omega) h9 hg9)
            clear h9 hg9 hms c1 c2
            go_wp2
            go_roundw
            case rel => exact ⟨2 * k + 2, _, by omega, by go_num, H9.out⟩
            case measure => simp [intOf]; omega
      · cases hd : lt (h' (2 * k + 1)) (h' k)
        · have HD := Lib.hid hd
          clear hd
          go_wp2_with fail
          (with_reducible refine (less_b (HI.out).hs.row _ _ (by omega) (by omega) (by omega) (by omega) false (lt_eq HD.out (by omega) (by omega))).mono ?_)
          rintro e w8 ⟨rfl, q, hq⟩
          have h8 := (HI.out).drewN q
          rw [← hq] at h8
          have H8 := Lib.hid h8
          clear hq hml c1 c2 h8
          go_wp2
          go_ret
          refine ⟨SomeB.mk _, h', (H8.out).hs, (H8.out).dn.done ?_ ?_, (H8.out).st⟩
          · have := lt_false HD.out
            exact this
          · intro hx
            have := lt_false HD.out
            omega
        · have HD := Lib.hid hd
          clear hd
          go_wp2_with fail
          (with_reducible refine (less_b (HI.out).hs.row _ _ (by omega) (by omega) (by omega) (by omega) true (lt_eq HD.out (by omega) (by omega))).mono ?_)
          rintro e w8 ⟨rfl, q, hq⟩
          have h8 := (HI.out).drewN q
          rw [← hq] at h8
          clear hq hml c1 c2
          obtain ⟨c1, c2⟩ := h8.hs.hd
          have H8 := Lib.hid h8
          clear h8
          have hms := met_swap c1
          go_wp2_with fail
          (with_reducible refine (swap_in (H8.out).hs.row _ _ (by omega) (by omega) (by omega) (by omega)).mono ?_)
          rintro e w9 ⟨rfl, h9, hg9⟩
          rw [show (k : Int).toNat = k by omega, toNat_is (show _ = ((2 * k + 1 : Nat) : Int) by omega)] at h9
          have H9 := Lib.hid ((H8.out).swap hn (show 2 * k + 1 < n by omega) (by omega) (by omega) (Nat.le_of_lt (lt_true HD.out)) (by
            intro c _ hc2 hc3
            rw [show c = 2 * k + 1 by omega]; exact Nat.le_refl _) h9 hg9)
          clear h9 hg9 hms c1 c2
          go_wp2
          go_roundw
          case rel => exact ⟨2 * k + 1, _, by omega, by go_num, H9.out⟩
          case measure => simp [intOf]; omega
end Go.Proofs.Ytfjkomglljcfjaa
