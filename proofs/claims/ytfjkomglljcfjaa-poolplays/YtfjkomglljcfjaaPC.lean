/-
  Contracts of heap.Push and heap.Pop; what a pool is in memory; Take, Give, Left, Used, Fail.
-/
import Derived.Test.YtfjkomglljcfjaaPB
namespace Go.Proofs.Ytfjkomglljcfjaa
open Go.ChangeShapes Go.WideShapes Go.ChangeAt Go.RowKit
open PM
set_option maxRecDepth 100000

/-- A heap whose numbers are those of S. -/
structure HQ (w : World) (P g n cap : Nat) (S : Nat → Bool) : Prop where
  hd : Hd w P g n cap
  ne : P ≠ g
  ex : ∃ h, VR w g 3 (iv h) n cap ∧ Hp h n ∧ Bag h n S
theorem hpop_in {w : World} {P g n cap : Nat} {S : Nat → Bool} (H : HQ w P g (n + 1) cap S) (hn : n + 1 ≤ 1000000) :
    Calls Try.prog 22 #[.iface 50 (.pointer (some ⟨P, 0, none⟩))] w fun e w' => ∃ x : Nat, e = .returned (.iface 3 (.int .i64 (x : Nat))) ∧
      S x = true ∧ (∀ y, S y = true → x ≤ y) ∧ HQ w' P g n cap (fun y => S y && y != x) ∧ Ch (fun b => b = P ∨ b = g) w w' ∧ Off P w w' := by
  obtain ⟨h, hr, hp, hb⟩ := H.ex
  have H0 := Lib.hid (show HS w w P g (n + 1) cap S h from ⟨H.hd, hr, hb, World.grownBy.refl w _, H.ne⟩)
  have HP := Lib.hid hp
  have c1 := H.hd.1
  have hml := met_len c1
  have hms := met_swap c1
  clear H hr hp hb c1
  go_enter Try.func22, Try.ntmps22
  go_wp2_with fail
  (with_reducible refine (len_in _ _ _ _).mono ?_)
  rintro e w1 ⟨rfl, rfl⟩
  go_wp2_with fail
  (with_reducible refine (swap_in (H0.out).row _ _ (by omega) (by omega) (by omega) (by omega)).mono ?_)
  rintro e w1 ⟨rfl, h1, hg1⟩
  rw [show (0 : Int).toNat = 0 by omega, toNat_is (show _ = ((n : Nat) : Int) by omega)] at h1
  have H1 := Lib.hid ((H0.out).swap (show 0 < n + 1 by omega) (show n < n + 1 by omega) h1 hg1)
  clear h1 hg1 hml hms
  go_wp2_with fail
  (with_reducible refine (down_in (H1.out) hn (show n ≤ n + 1 by omega) (Dn.start HP.out)).mono ?_)
  rintro e w2 ⟨⟨b, rfl⟩, h2, H2, hp2, hst⟩
  have HH2 := Lib.hid H2
  have HP2 := Lib.hid hp2
  have HST := Lib.hid hst
  clear H2 hp2 hst
  have hmp := met_pop w2 P
  go_wp2_with fail
  (with_reducible refine (pop_in (HH2.out).hd (HH2.out).row).mono ?_)
  rintro e w3 ⟨rfl, rfl⟩
  go_wp2
  go_ret
  have hx : h2 n = h 0 := by rw [(HST.out) n (Nat.le_refl _), swp_r]
  refine ⟨h2 n, rfl, ?_, ?_, ⟨(HH2.out).hd.set _ _ _, (HH2.out).ne, h2, ?_, HP2.out, (HH2.out).bag.pop⟩, ?_, (Off.of_grown (HH2.out).gr (H0.out).hd.lt (by simpa using (HH2.out).ne)).trans (Off.set _ _ _)⟩
  · rw [hx]; exact (H0.out).bag.1 0 (by omega)
  · intro y hy
    obtain ⟨i, hi, rfl⟩ := (H0.out).bag.2.1 y hy
    rw [hx]; exact (HP.out).min i hi
  · exact ((HH2.out).row.less (by omega)).kept (grown_setCell _ _ _) (by have := (HH2.out).ne; simp; omega)
  · exact ((Ch.refl _ w).grown (HH2.out).gr (fun y hy _ => .inr (by injection hy with hy; exact hy.symm))).grown (grown_setCell _ _ _) (fun y hy _ => .inl (by injection hy with hy; exact hy.symm))
theorem hpush_in {w : World} {P g n cap : Nat} {S : Nat → Bool} (H : HQ w P g n cap S) (hn : n + 1 ≤ 1000000) (x : Nat) (hx : S x = false) :
    Calls Try.prog 18 #[.iface 50 (.pointer (some ⟨P, 0, none⟩)), .iface 3 (.int .i64 (x : Nat))] w fun e w' => e = .returned (.tuple #[]) ∧
      ∃ g' cap', HQ w' P g' (n + 1) cap' (fun y => S y || y == x) ∧ Ch (fun b => b = P ∨ b = g) w w' ∧ (g' = g ∨ w.heap.size ≤ g') ∧ Off P w w' := by
  obtain ⟨h, hr, hp, hb⟩ := H.ex
  have HH := Lib.hid H
  have HR := Lib.hid hr
  have HP := Lib.hid hp
  have HB := Lib.hid hb
  have hlt := Nat.lt_irrefl P
  have hP := H.hd.lt
  clear H hr hp hb hlt
  have hmp := met_push w P
  go_enter Try.func18, Try.ntmps18
  go_wp2_with fail
  (with_reducible refine (push_in (HH.out).hd HR.out (by omega) (HH.out).ne x).mono ?_)
  rintro e w1 ⟨rfl, g', cap', d1, v1, ch1, o1, off1⟩
  have hne : P ≠ g' := by have := (HH.out).ne; omega
  have H1 := Lib.hid (show HS w1 w1 P g' (n + 1) cap' (fun y => S y || y == x) (upd h n x) from ⟨d1, v1, (HB.out).push hx, World.grownBy.refl w1 _, hne⟩)
  have HC := Lib.hid ch1
  have HO := Lib.hid off1
  clear v1 hmp ch1 off1
  have c1 := d1.1
  have hml := met_len c1
  clear d1 c1
  go_wp2_with fail
  (with_reducible refine (len_in _ _ _ _).mono ?_)
  rintro e w2 ⟨rfl, rfl⟩
  go_wp2_with fail
  refine (up_in (H1.out) (by omega) n (by omega) (Up.start HP.out x)).mono ?_
  rintro e w3 ⟨rfl, h3, H3, hp3⟩
  have HH3 := Lib.hid H3
  have HP3 := Lib.hid hp3
  clear H3 hp3 hml
  go_wp2
  go_end0
  refine ⟨rfl, g', cap', ⟨(HH3.out).hd, hne, h3, (HH3.out).row, HP3.out, (HH3.out).bag⟩, (HC.out).grown (HH3.out).gr ?_, o1, (HO.out).trans (Off.of_grown (HH3.out).gr (H1.out).hd.lt (by simpa using hne))⟩
  intro y hy hlt
  injection hy with hy
  rcases o1 with o1 | o1
  · right; omega
  · omega
end Go.Proofs.Ytfjkomglljcfjaa
