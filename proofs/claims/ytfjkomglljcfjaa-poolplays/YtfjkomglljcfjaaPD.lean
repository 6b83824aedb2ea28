/-
  What a pool is in memory; contracts of Take, Give, Left, Used, Fail.
-/
import Derived.Test.YtfjkomglljcfjaaPC
namespace Go.Proofs.Ytfjkomglljcfjaa
open Go.ChangeShapes Go.WideShapes Go.ChangeAt Go.RowKit
open PM
set_option maxRecDepth 100000

/-- A pool at block B: k frames, those of us are used, so many Takes go well (below 0: all); its heap in block g, its truths in block u. -/
structure PlX (w : World) (B g cap u uc k : Nat) (us : Nat → Bool) (well : Int) : Prop where
  le : k ≤ 512
  wi : -9223372036854775808 ≤ well ∧ well ≤ 9223372036854775807
  hq : HQ w B g (cnt us k) cap (fr us k)
  c1 : w.cell? ⟨B, 1, none⟩ = some (.slice (some ⟨u, 0, none⟩) k uc)
  c2 : w.cell? ⟨B, 2, none⟩ = some (.int .i64 well)
  fz : w.frozen? ⟨B, 2, none⟩ = false
  ur : VR w u 4 (bv us) k uc
  bu : B ≠ u
  gu : g ≠ u
/-- A pool whose blocks are of F. -/
def Pl (w : World) (B : Nat) (F : Nat → Prop) (k : Nat) (us : Nat → Bool) (well : Int) : Prop := ∃ g cap u uc, PlX w B g cap u uc k us well ∧ F B ∧ F g ∧ F u
theorem HQ.keep {w w' : World} {P g n cap : Nat} {S : Nat → Bool} (h : HQ w P g n cap S) (hP : w'.heap[P]? = w.heap[P]?) (hg : w'.heap[g]? = w.heap[g]?) : HQ w' P g n cap S := by
  obtain ⟨h1, hr, hh⟩ := h.ex
  exact ⟨⟨(World.cell?_of_block hP).trans h.hd.1, (World.frozen?_of_block hP).trans h.hd.2⟩, h.ne, h1, hr.of_block hg, hh⟩
theorem PlX.keep {w w' : World} {B g cap u uc k : Nat} {us : Nat → Bool} {well : Int} (h : PlX w B g cap u uc k us well) (h1 : w'.heap[B]? = w.heap[B]?) (h2 : w'.heap[g]? = w.heap[g]?) (h3 : w'.heap[u]? = w.heap[u]?) : PlX w' B g cap u uc k us well :=
  ⟨h.le, h.wi, h.hq.keep h1 h2, (World.cell?_of_block h1).trans h.c1, (World.cell?_of_block h1).trans h.c2, (World.frozen?_of_block h1).trans h.fz, h.ur.of_block h3, h.bu, h.gu⟩
theorem PlX.glt {w : World} {B g cap u uc k : Nat} {us : Nat → Bool} {well : Int} (h : PlX w B g cap u uc k us well) : g < w.heap.size := by
  obtain ⟨_, hr, _⟩ := h.hq.ex
  exact hr.lt
/-- What turns none of its blocks leaves it as it was. -/
theorem Pl.keep {w w' : World} {B k : Nat} {F S : Nat → Prop} {us : Nat → Bool} {well : Int} (h : Pl w B F k us well) (hc : Ch S w w') (hS : ∀ x, x < w.heap.size → F x → ¬ S x) : Pl w' B F k us well := by
  obtain ⟨g, cap, u, uc, hx, f1, f2, f3⟩ := h
  exact ⟨g, cap, u, uc, hx.keep (hc.block B hx.hq.hd.lt (hS _ hx.hq.hd.lt f1)) (hc.block g hx.glt (hS _ hx.glt f2)) (hc.block u hx.ur.lt (hS _ hx.ur.lt f3)), f1, f2, f3⟩
theorem Pl.below {w w' : World} {B k : Nat} {F : Nat → Prop} {us : Nat → Bool} {well : Int} (h : Pl w B F k us well) (hc : Below w.heap.size w w') : Pl w' B F k us well :=
  h.keep (Ch.of_below hc (fun _ => False)) (fun _ _ _ h => h)
theorem Pl.drew {w : World} {B k : Nat} {F : Nat → Prop} {us : Nat → Bool} {well : Int} (h : Pl w B F k us well) : Pl w.drew B F k us well :=
  h.keep (S := fun _ => False) ((Ch.refl _ w).drew) (fun _ _ _ h => h)
theorem Pl.drewN {w : World} {B k : Nat} {F : Nat → Prop} {us : Nat → Bool} {well : Int} (h : Pl w B F k us well) (q : Nat) : Pl (w.drewN q) B F k us well :=
  h.keep (S := fun _ => False) ((Ch.refl _ w).drewN q) (fun _ _ _ h => h)
/-- Another number of Takes that go well. -/
theorem PlX.well {w : World} {B g cap u uc k : Nat} {us : Nat → Bool} {well : Int} (hx : PlX w B g cap u uc k us well) (n : Int) (hn : -9223372036854775808 ≤ n ∧ n ≤ 9223372036854775807) :
    PlX (w.setCell ⟨B, 2, none⟩ (.int .i64 n)) B g cap u uc k us n := by
  have hb := grown_setCell w ⟨B, 2, none⟩ (.int .i64 n)
  refine ⟨hx.le, hn, ⟨⟨?_, ?_⟩, hx.hq.ne, ?_⟩, ?_, World.cell?_setCell_same _ _ _ hx.c2, by simp [hx.fz], hx.ur.kept hb (by simpa using Ne.symm hx.bu), hx.bu, hx.gu⟩
  · rw [World.cell?_setCell_other _ _ _ _ (by simp)]; exact hx.hq.hd.1
  · simp [hx.hq.hd.2]
  · obtain ⟨h, hr, hh⟩ := hx.hq.ex
    exact ⟨h, hr.kept hb (by simpa using Ne.symm hx.hq.ne), hh⟩
  · rw [World.cell?_setCell_other _ _ _ _ (by simp)]; exact hx.c1
theorem ch_set {F : Nat → Prop} {B : Nat} (h : F B) (w : World) (o : Nat) (v : Value) : Ch F w (w.setCell ⟨B, o, none⟩ v) :=
  (Ch.refl F w).grown (grown_setCell _ _ _) (fun y hy _ => by injection hy with hy; rw [← hy]; exact h)
theorem Pl.mono {w : World} {B k : Nat} {F G : Nat → Prop} {us : Nat → Bool} {well : Int} (h : Pl w B F k us well) (hF : ∀ x, x < w.heap.size → F x → G x) : Pl w B G k us well := by
  obtain ⟨g, cap, u, uc, hx, f1, f2, f3⟩ := h
  exact ⟨g, cap, u, uc, hx, hF _ hx.hq.hd.lt f1, hF _ hx.glt f2, hF _ hx.ur.lt f3⟩
theorem Pl.congr {w : World} {B k : Nat} {F : Nat → Prop} {us vs : Nat → Bool} {well : Int} (h : Pl w B F k us well) (e : ∀ x, x < k → us x = vs x) : Pl w B F k vs well := by
  obtain ⟨g, cap, u, uc, hx, f⟩ := h
  have e1 : fr us k = fr vs k := by
    funext x; unfold fr
    by_cases c : x < k
    · rw [e x c]
    · simp [c]
  refine ⟨g, cap, u, uc, ⟨hx.le, hx.wi, ?_, hx.c1, hx.c2, hx.fz, hx.ur.congr (fun i hi => by unfold bv; rw [e i hi]), hx.bu, hx.gu⟩, f⟩
  rw [← cnt_congr e, ← e1]; exact hx.hq
theorem Pl.lt {w : World} {B k : Nat} {F : Nat → Prop} {us : Nat → Bool} {well : Int} (h : Pl w B F k us well) : B < w.heap.size := by
  obtain ⟨g, cap, u, uc, hx, _⟩ := h
  exact hx.hq.hd.lt

theorem Pl.exact {w : World} {B k : Nat} {F : Nat → Prop} {us : Nat → Bool} {well : Int} (h : Pl w B F k us well) : Pl w B (fun x => F x ∧ x < w.heap.size) k us well := h.mono (fun _ hx hF => ⟨hF, hx⟩)
theorem Pl.back {w : World} {B k n : Nat} {F : Nat → Prop} {us : Nat → Bool} {well : Int} (h : Pl w B (fun x => F x ∨ n ≤ x) k us well) (hF : ∀ x, n ≤ x → F x) : Pl w B F k us well := h.mono (fun x _ h => h.elim id (hF x))

/-! ### of nothing -/
theorem take_nil (w : World) : Calls Try.prog 10 #[.pointer none] w fun e w' => e = .returned (.tuple #[.int .i64 0, .int .i64 2]) ∧ w = w' := by
  go_enter Try.func10, Try.ntmps10
  go_wp2
  go_ret2
  exact ⟨rfl, rfl⟩
theorem give_nil (w : World) (n : Int) : Calls Try.prog 11 #[.pointer none, .int .i64 n] w fun e w' => e = .returned (.int .i64 2) ∧ w = w' := by
  go_enter Try.func11, Try.ntmps11
  go_wp2
  go_ret
  exact ⟨rfl, rfl⟩
theorem some_nil (w : World) (n : Int) : Calls Try.prog 12 #[.pointer none, .int .i64 n] w fun e w' => e = .returned (.tuple #[.slice none 0 0, .int .i64 2]) ∧ w = w' := by
  go_enter Try.func12, Try.ntmps12
  go_wp2
  go_ret2
  exact ⟨rfl, rfl⟩
theorem fail_nil (w : World) (n : Int) : Calls Try.prog 13 #[.pointer none, .int .i64 n] w fun e w' => e = .returned (.tuple #[]) ∧ w = w' := by
  go_enter Try.func13, Try.ntmps13
  go_wp2
  go_end0
  exact ⟨rfl, rfl⟩
theorem left_nil (w : World) : Calls Try.prog 15 #[.pointer none] w fun e w' => e = .returned (.int .i64 0) ∧ w = w' := by
  go_enter Try.func15, Try.ntmps15
  go_wp2
  go_ret
  exact ⟨rfl, rfl⟩
theorem used_nil (w : World) (n : Int) : Calls Try.prog 14 #[.pointer none, .int .i64 n] w fun e w' => e = .returned (.bool false) ∧ w = w' := by
  go_enter Try.func14, Try.ntmps14
  go_wp2
  go_ret
  exact ⟨rfl, rfl⟩
theorem twin_nil (w : World) : Calls Try.prog 16 #[.pointer none] w fun e w' => e = .returned (.pointer none) ∧ w = w' := by
  go_enter Try.func16, Try.ntmps16
  go_wp2
  go_ret
  exact ⟨rfl, rfl⟩

/-! ### Left, Used, Fail -/
theorem left_in {w : World} {B k : Nat} {F : Nat → Prop} {us : Nat → Bool} {well : Int} (H : Pl w B F k us well) :
    Calls Try.prog 15 #[.pointer (some ⟨B, 0, none⟩)] w fun e w' => e = .returned (.int .i64 (cnt us k : Nat)) ∧ w = w' := by
  obtain ⟨g, cap, u, uc, hx, _⟩ := H
  obtain ⟨c0, _⟩ := hx.hq.hd
  obtain ⟨n, hn⟩ : ∃ n, cnt us k = n := ⟨_, rfl⟩
  rw [hn] at c0 ⊢
  clear hx hn
  go_enter Try.func15, Try.ntmps15
  go_wp2
  go_ret
  exact ⟨rfl, rfl⟩
/-- Is it used? -/
def usedN (us : Nat → Bool) (k : Nat) (n : Int) : Bool := decide (0 ≤ n) && decide (n < k) && us n.toNat
theorem used_in {w : World} {B k : Nat} {F : Nat → Prop} {us : Nat → Bool} {well : Int} (H : Pl w B F k us well) (n : Int) :
    Calls Try.prog 14 #[.pointer (some ⟨B, 0, none⟩), .int .i64 n] w fun e w' => e = .returned (.bool (usedN us k n)) ∧ w = w' := by
  obtain ⟨g, cap, u, uc, hx, _⟩ := H
  have c1 := hx.c1
  by_cases h0 : n < 0
  · have e : usedN us k n = false := by unfold usedN; simp; omega
    rw [e]
    clear hx e
    go_enter Try.func14, Try.ntmps14
    go_wp2
    go_ret
    exact ⟨rfl, rfl⟩
  · obtain ⟨n, rfl⟩ := Int.eq_ofNat_of_zero_le (show 0 ≤ n by omega)
    by_cases h1 : n < k
    · have e : usedN us k n = us n := by unfold usedN; simp; intro h; omega
      have c2 : w.cell? ⟨u, n, none⟩ = some (.bool (us n)) := hx.ur.cell n h1
      rw [e]
      obtain ⟨b, hb⟩ : ∃ b, us n = b := ⟨_, rfl⟩
      rw [hb] at c2 ⊢
      clear hx e hb
      go_enter Try.func14, Try.ntmps14
      go_wp2
      go_ret
      exact ⟨rfl, rfl⟩
    · have e : usedN us k n = false := by unfold usedN; simp; omega
      rw [e]
      clear hx e
      go_enter Try.func14, Try.ntmps14
      go_wp2
      go_ret
      exact ⟨rfl, rfl⟩
theorem fail_in {w : World} {B k : Nat} {F : Nat → Prop} {us : Nat → Bool} {well : Int} (H : Pl w B F k us well) (n : Int) (hn : -9223372036854775808 ≤ n ∧ n ≤ 9223372036854775807) :
    Calls Try.prog 13 #[.pointer (some ⟨B, 0, none⟩), .int .i64 n] w fun e w' => e = .returned (.tuple #[]) ∧ Pl w' B F k us n ∧ Ch F w w' := by
  obtain ⟨g, cap, u, uc, hx, f1, f2, f3⟩ := H
  have c2 := hx.c2
  have fz := hx.fz
  have hk := Lib.hid (hx.well n hn)
  clear hx
  go_enter Try.func13, Try.ntmps13
  go_wp2
  go_end0
  exact ⟨rfl, ⟨g, cap, u, uc, hk.out, f1, f2, f3⟩, ch_set f1 _ _ _⟩

/-! ### Take -/
theorem least_in {w : World} {P g n cap : Nat} {S : Nat → Bool} (H : HQ w P g (n + 1) cap S) (hn : n + 1 ≤ 1000000) :
    Calls Try.prog 17 #[.pointer (some ⟨P, 0, none⟩)] w fun e w' => ∃ x : Nat, e = .returned (.int .i64 (x : Nat)) ∧
      S x = true ∧ (∀ y, S y = true → x ≤ y) ∧ HQ w' P g n cap (fun y => S y && y != x) ∧ Ch (fun b => b = P ∨ b = g) w w' ∧ Off P w w' := by
  have HH := Lib.hid H
  clear H
  go_enter Try.func17, Try.ntmps17
  go_wp2_with fail
  (with_reducible refine (hpop_in HH.out hn).mono ?_)
  rintro e w1 ⟨x, rfl, h1⟩
  have H1 := Lib.hid h1
  clear h1
  have hta := assert_int x
  go_wp2
  go_ret
  exact ⟨x, rfl, H1.out⟩
theorem take_full {w : World} {B k : Nat} {F : Nat → Prop} {us : Nat → Bool} {well : Int} (H : Pl w B F k us well) (hf : cnt us k = 0 ∨ well = 0) :
    Calls Try.prog 10 #[.pointer (some ⟨B, 0, none⟩)] w fun e w' => e = .returned (.tuple #[.int .i64 0, .int .i64 3]) ∧ w = w' := by
  obtain ⟨g, cap, u, uc, hx, _⟩ := H
  have c0 := hx.hq.hd.1
  have c2 := hx.c2
  obtain ⟨n, hn⟩ : ∃ n, cnt us k = n := ⟨_, rfl⟩
  rw [hn] at c0 hf
  clear hx hn
  by_cases h0 : n = 0
  · subst h0
    go_enter Try.func10, Try.ntmps10
    go_wp2
    go_ret2
    exact ⟨rfl, rfl⟩
  · have hw : well = 0 := by omega
    subst hw
    go_enter Try.func10, Try.ntmps10
    go_wp2
    go_ret2
    exact ⟨rfl, rfl⟩
def wellN (well : Int) : Int := if 0 < well then well - 1 else well
theorem take_step {w w' : World} {B g cap u uc k n : Nat} {us : Nat → Bool} {well : Int} (hx : PlX w B g cap u uc k us well) (hn : cnt us k = n + 1) (x : Nat) (hS : fr us k x = true)
    (hq : HQ w' B g n cap (fun y => fr us k y && y != x)) (hc : Ch (fun b => b = B ∨ b = g) w w') (ho : Off B w w') :
    w'.cell? ⟨B, 1, none⟩ = some (.slice (some ⟨u, 0, none⟩) k uc) ∧ (∃ v, w'.cell? ⟨u, x, none⟩ = some v) ∧ w'.frozen? ⟨u, x, none⟩ = false ∧ x < k ∧
    PlX (w'.setCell ⟨u, x, none⟩ (.bool true)) B g cap u uc k (upd us x true) well := by
  obtain ⟨hk, hu⟩ := (fr_iff us k x).1 hS
  have c1 : w'.cell? ⟨B, 1, none⟩ = some (.slice (some ⟨u, 0, none⟩) k uc) := (ho.1 1 (by omega)).trans hx.c1
  have hur : VR w' u 4 (bv us) k uc := hx.ur.ch hc (by have := hx.bu; have := hx.gu; omega)
  have hgs := grown_setCell w' ⟨u, x, none⟩ (.bool true)
  have hbu : some B ≠ some u := by simpa using hx.bu
  have hgu : some g ≠ some u := by simpa using hx.gu
  have e1 : cnt (upd us x true) k = n := by have := cnt_take hk hu; omega
  have hB := hgs.block B hq.hd.lt hbu
  have hG := hgs.block g (by obtain ⟨_, hr, _⟩ := hq.ex; exact hr.lt) hgu
  refine ⟨c1, ⟨_, hur.cell x hk⟩, hur.frozen x, hk, hx.le, hx.wi, ?_, (World.cell?_of_block hB).trans c1, (World.cell?_of_block hB).trans ((ho.1 2 (by omega)).trans hx.c2), (World.frozen?_of_block hB).trans ((ho.2 2).trans hx.fz), ?_, hx.bu, hx.gu⟩
  · rw [e1, ← (funext (fr_take us k x) : _ = fr (upd us x true) k)]
    exact hq.keep hB hG
  · rw [← bv_upd]; exact hur.set x _
/-- Take: the least free frame. -/
theorem take_in {w : World} {B k : Nat} {F : Nat → Prop} {us : Nat → Bool} {well : Int} (H : Pl w B F k us well) (h0 : cnt us k ≠ 0) (hw : well ≠ 0) :
    Calls Try.prog 10 #[.pointer (some ⟨B, 0, none⟩)] w fun e w' => ∃ x : Nat, e = .returned (.tuple #[.int .i64 (x : Nat), .int .i64 0]) ∧ x < k ∧ us x = false ∧
      (∀ y, y < k → us y = false → x ≤ y) ∧ Pl w' B F k (upd us x true) (wellN well) ∧ Ch F w w' := by
  obtain ⟨g, cap, u, uc, hx, f1, f2, f3⟩ := H
  obtain ⟨n, hn⟩ : ∃ n, cnt us k = n + 1 := ⟨cnt us k - 1, by omega⟩
  have hk512 := hx.le
  have hcn := cnt_le us k
  have hn5 : n + 1 ≤ 1000000 := by omega
  have hb1 : (((n : Int) + 1) == 0) = false := by simp; omega
  have hb2 : (well == 0) = false := by simpa using hw
  have c0 := hx.hq.hd.1
  rw [hn] at c0
  have c2 := hx.c2
  have fz := hx.fz
  have hwi := hx.wi
  by_cases hp : 0 < well
  · have HX := Lib.hid (hx.well (well - 1) (by omega))
    have ew : wellN well = well - 1 := by unfold wellN; rw [if_pos hp]
    have HN := Lib.hid hn
    clear hx hn
    rw [ew]
    go_enter Try.func10, Try.ntmps10
    go_wp2_with fail
    (with_reducible refine (least_in (n := n) (by have := (HX.out).hq; rw [HN.out] at this; exact this) hn5).mono ?_)
    rintro e w1 ⟨x, rfl, k1, k2, k3, k4, k5⟩
    obtain ⟨c1, ⟨v, c3⟩, c4, hxk, k6⟩ := take_step HX.out HN.out x k1 k3 k4 k5
    have K1 := Lib.hid k1
    have K2 := Lib.hid k2
    have K4 := Lib.hid k4
    have K6 := Lib.hid k6
    clear k1 k2 k3 k4 k5 k6
    go_wp2
    go_ret2
    refine ⟨x, rfl, hxk, ((fr_iff us k x).1 K1.out).2, fun y hy hu => (K2.out) y ((fr_iff us k y).2 ⟨hy, hu⟩), ⟨g, cap, u, uc, K6.out, f1, f2, f3⟩, ?_⟩
    exact ((ch_set f1 w 2 _).trans (K4.out) (fun y _ hF h => hF (by rcases h with rfl | rfl <;> assumption))).trans (ch_set f3 w1 x _) (fun y _ hF h => hF h)
  · have HX := Lib.hid hx
    have ew : wellN well = well := by unfold wellN; rw [if_neg hp]
    have HN := Lib.hid hn
    clear hx hn
    rw [ew]
    go_enter Try.func10, Try.ntmps10
    go_wp2_with fail
    (with_reducible refine (least_in (n := n) (by have := (HX.out).hq; rw [HN.out] at this; exact this) hn5).mono ?_)
    rintro e w1 ⟨x, rfl, k1, k2, k3, k4, k5⟩
    obtain ⟨c1, ⟨v, c3⟩, c4, hxk, k6⟩ := take_step HX.out HN.out x k1 k3 k4 k5
    have K1 := Lib.hid k1
    have K2 := Lib.hid k2
    have K4 := Lib.hid k4
    have K6 := Lib.hid k6
    clear k1 k2 k3 k4 k5 k6
    go_wp2
    go_ret2
    refine ⟨x, rfl, hxk, ((fr_iff us k x).1 K1.out).2, fun y hy hu => (K2.out) y ((fr_iff us k y).2 ⟨hy, hu⟩), ⟨g, cap, u, uc, K6.out, f1, f2, f3⟩, ?_⟩
    exact ((K4.out).mono (fun y _ h => by rcases h with rfl | rfl <;> assumption)).trans (ch_set f3 w1 x _) (fun y _ hF h => hF h)

/-! ### Give -/
theorem give_arg {w : World} {B k : Nat} {F : Nat → Prop} {us : Nat → Bool} {well : Int} (H : Pl w B F k us well) (n : Int) (hn : n < 0 ∨ (k : Int) ≤ n) :
    Calls Try.prog 11 #[.pointer (some ⟨B, 0, none⟩), .int .i64 n] w fun e w' => e = .returned (.int .i64 1) ∧ w = w' := by
  obtain ⟨g, cap, u, uc, hx, _⟩ := H
  have c1 := hx.c1
  clear hx
  by_cases h0 : n < 0
  · go_enter Try.func11, Try.ntmps11
    go_wp2
    go_ret
    exact ⟨rfl, rfl⟩
  · have h1 : (k : Int) ≤ n := by omega
    go_enter Try.func11, Try.ntmps11
    go_wp2
    go_ret
    exact ⟨rfl, rfl⟩
theorem give_used {w : World} {B k : Nat} {F : Nat → Prop} {us : Nat → Bool} {well : Int} (H : Pl w B F k us well) (n : Nat) (hn : n < k) (hu : us n = false) :
    Calls Try.prog 11 #[.pointer (some ⟨B, 0, none⟩), .int .i64 (n : Nat)] w fun e w' => e = .returned (.int .i64 8) ∧ w = w' := by
  obtain ⟨g, cap, u, uc, hx, _⟩ := H
  have c1 := hx.c1
  have c3 : w.cell? ⟨u, n, none⟩ = some (.bool (us n)) := hx.ur.cell n hn
  rw [hu] at c3
  clear hx hu
  go_enter Try.func11, Try.ntmps11
  go_wp2
  go_ret
  exact ⟨rfl, rfl⟩
theorem PlX.freed {w : World} {B g cap u uc k : Nat} {us : Nat → Bool} {well : Int} (hx : PlX w B g cap u uc k us well) (n : Nat) :
    HQ (w.setCell ⟨u, n, none⟩ (.bool false)) B g (cnt us k) cap (fr us k) ∧ VR (w.setCell ⟨u, n, none⟩ (.bool false)) u 4 (bv (upd us n false)) k uc ∧ Off B w (w.setCell ⟨u, n, none⟩ (.bool false)) := by
  have hgs := grown_setCell w ⟨u, n, none⟩ (.bool false)
  have hbu : some B ≠ some u := by simpa using hx.bu
  have hgu : some g ≠ some u := by simpa using hx.gu
  refine ⟨hx.hq.keep (hgs.block B hx.hq.hd.lt hbu) (hgs.block g hx.glt hgu), ?_, Off.of_grown hgs hx.hq.hd.lt hbu⟩
  rw [← bv_upd]; exact hx.ur.set n _
/-- Give: a frame is free again. -/
theorem give_in {w : World} {B k : Nat} {F : Nat → Prop} {us : Nat → Bool} {well : Int} (H : Pl w B F k us well) (n : Nat) (hn : n < k) (hu : us n = true) :
    Calls Try.prog 11 #[.pointer (some ⟨B, 0, none⟩), .int .i64 (n : Nat)] w fun e w' => e = .returned (.int .i64 0) ∧ Pl w' B (fun x => F x ∨ w.heap.size ≤ x) k (upd us n false) well ∧ Ch F w w' := by
  obtain ⟨g, cap, u, uc, hx, f1, f2, f3⟩ := H
  have c1 := hx.c1
  have c3 : w.cell? ⟨u, n, none⟩ = some (.bool (us n)) := hx.ur.cell n hn
  have c4 : w.frozen? ⟨u, n, none⟩ = false := hx.ur.frozen n
  rw [hu] at c3
  have HX := Lib.hid hx
  have HU := Lib.hid hu
  have hk512 := hx.le
  have hcn := cnt_le us k
  obtain ⟨q1, q2, q3⟩ := hx.freed n
  have Q1 := Lib.hid q1
  have Q2 := Lib.hid q2
  have Q3 := Lib.hid q3
  clear hx hu q1 q2 q3
  go_enter Try.func11, Try.ntmps11
  go_wp2_with fail
  (with_reducible refine (hpush_in Q1.out (by omega) n (by simp [fr, HU.out])).mono ?_)
  rintro e w1 ⟨rfl, g', cap', k1, k2, k3, k4⟩
  have K1 := Lib.hid k1
  have K2 := Lib.hid k2
  have K3 := Lib.hid k3
  have K4 := Lib.hid k4
  clear k1 k2 k3 k4
  go_wp2
  go_ret
  have hul : u < w.heap.size := (HX.out).ur.lt
  have hgu := (HX.out).gu
  have hbu := (HX.out).bu
  have hsz : (w.setCell ⟨u, n, none⟩ (.bool false)).heap.size = w.heap.size := by simp [World.setCell]
  have hg' : g' ≠ u := by
    have := K3.out
    rw [hsz] at this
    omega
  have ho := (Q3.out).trans K4.out
  refine ⟨rfl, ⟨g', cap', u, uc, ⟨hk512, (HX.out).wi, ?_, (ho.1 1 (by omega)).trans (HX.out).c1, (ho.1 2 (by omega)).trans (HX.out).c2, (ho.2 2).trans (HX.out).fz, (Q2.out).ch K2.out (by omega), hbu, hg'⟩, .inl f1, ?_, .inl f3⟩, ?_⟩
  · rw [cnt_give hn HU.out, ← (funext (fun y => fr_give us k n y hn) : _ = fr (upd us n false) k)]
    exact K1.out
  · rcases K3.out with e | e
    · rw [e]; exact .inl f2
    · rw [hsz] at e; exact .inr e
  · exact (ch_set f3 w n _).trans (K2.out) (fun y _ hF h => hF (by rcases h with rfl | rfl <;> assumption))
end Go.Proofs.Ytfjkomglljcfjaa
