/-
  All, Due, Shift: a clock as a table of which seats have an alarm, and when.
-/
import Derived.Test.YtfiahkjaeeoepaaAD
import Derived.Deep.RegionHeld3
import Derived.Deep.RegionWith
namespace Go.Proofs.Ytfiahkjaeeoepaa
open Go.ChangeShapes Go.WideShapes Go.ChangeAt Go.RowKit Go.Sort
set_option maxRecDepth 100000
set_option linter.unusedVariables false

def setsL {α : Type} (f : Nat → α) (g : AL → α) (L : List AL) : Nat → α := L.foldl (fun f x => upd f x.p (g x)) f
theorem setsL_snoc {α : Type} (f : Nat → α) (g : AL → α) (L : List AL) (x : AL) : setsL f g (L ++ [x]) = upd (setsL f g L) x.p (g x) := by simp [setsL]
theorem setsL_at {α : Type} (f : Nat → α) (g : AL → α) (h : Nat → α) (L : List AL) (hg : ∀ x ∈ L, g x = h x.p) (p : Nat) :
    ((∃ x ∈ L, x.p = p) → setsL f g L p = h p) ∧ ((¬ ∃ x ∈ L, x.p = p) → setsL f g L p = f p) := by
  induction L generalizing f with
  | nil => exact ⟨fun ⟨x, hx, _⟩ => by simp at hx, fun _ => rfl⟩
  | cons y L ih =>
    have ih := ih (upd f y.p (g y)) (fun x hx => hg x (by simp [hx]))
    have e0 : setsL f g (y :: L) = setsL (upd f y.p (g y)) g L := rfl
    rw [e0]
    by_cases hL : ∃ x ∈ L, x.p = p
    · exact ⟨fun _ => ih.1 hL, fun hn => absurd (by obtain ⟨x, hx, hp⟩ := hL; exact ⟨x, by simp [hx], hp⟩) hn⟩
    · rw [ih.2 hL]
      by_cases e : p = y.p
      · subst e
        rw [upd_same]
        exact ⟨fun _ => hg y (by simp), fun hn => absurd ⟨y, by simp, rfl⟩ hn⟩
      · rw [upd_other _ _ _ _ e]
        refine ⟨fun ⟨x, hx, hp⟩ => ?_, fun _ => rfl⟩
        rw [List.mem_cons] at hx
        rcases hx with rfl | hx
        · exact absurd hp.symm e
        · exact absurd ⟨x, hx, hp⟩ hL
/-- The clock in block B has just these alarms. -/
structure Mk (w : World) (B : Nat) (on : Nat → Bool) (tm : Nat → Nat) : Prop where
  ex : ∃ onM tmM, CK w B onM tmM ∧ ∀ p, p < 18 → onM p = on p ∧ (on p = true → tmM p = tm p ∧ tm p < 18446744073709551616)
theorem Mk.lt {w : World} {B : Nat} {on : Nat → Bool} {tm : Nat → Nat} (h : Mk w B on tm) : B < w.heap.size := by obtain ⟨_, _, h, _⟩ := h.ex; exact h.lt
theorem Mk.kept {w w' : World} {B : Nat} {on : Nat → Bool} {tm : Nat → Nat} {row : Option Nat} (h : Mk w B on tm) (hg : w.grownBy w' row) (hr : some B ≠ row) : Mk w' B on tm := by
  obtain ⟨a, b, h1, h2⟩ := h.ex
  exact ⟨a, b, h1.kept hg hr, h2⟩
theorem Mk.below {w w' : World} {B : Nat} {on : Nat → Bool} {tm : Nat → Nat} (h : Mk w B on tm) (hb : Below w.heap.size w w') : Mk w' B on tm := h.kept (grown_of_below hb) (by simp)
theorem Mk.congr {w : World} {B : Nat} {on on' : Nat → Bool} {tm tm' : Nat → Nat} (h : Mk w B on tm) (hc : ∀ p, p < 18 → on p = on' p ∧ (on p = true → tm p = tm' p)) : Mk w B on' tm' := by
  obtain ⟨a, b, h1, h2⟩ := h.ex
  refine ⟨a, b, h1, fun p hp => ?_⟩
  obtain ⟨k1, k2⟩ := h2 p hp
  obtain ⟨c1, c2⟩ := hc p hp
  refine ⟨k1.trans c1, fun ho => ?_⟩
  rw [← c1] at ho
  obtain ⟨k3, k4⟩ := k2 ho
  rw [← c2 ho]
  exact ⟨k3, k4⟩
theorem upL_congr {on on' : Nat → Bool} {tm tm' : Nat → Nat} (last : Nat) (hc : ∀ p, p < 18 → on p = on' p ∧ (on' p = true → tm p = tm' p)) : upL on tm last = upL on' tm' last := by
  have h : alL on tm last 18 = alL on' tm' last 18 := by
    have key : ∀ k, k ≤ 18 → alL on tm last k = alL on' tm' last k := by
      intro k
      induction k with
      | zero => intro _; rfl
      | succ k ih =>
        intro hk
        obtain ⟨c1, c2⟩ := hc k (by omega)
        rw [alL_succ, alL_succ, ih (by omega), c1]
        cases ho : on' k
        · simp
        · rw [c2 ho]
    exact key 18 (Nat.le_refl _)
  unfold upL upA
  rw [h]
/-- What a call that turns a clock, and nothing else that was there, leaves. -/
structure Mt (w w' : World) (B : Nat) (on : Nat → Bool) (tm : Nat → Nat) : Prop where
  m : Mk w' B on tm
  gr : w.grownBy w' (some B)
theorem Mt.trans {a b c : World} {B : Nat} {on on' : Nat → Bool} {tm tm' : Nat → Nat} (h : Mt a b B on tm) (k : Mt b c B on' tm') : Mt a c B on' tm' := ⟨k.m, grown_trans h.gr k.gr⟩
theorem Mt.below {a b c : World} {B : Nat} {on : Nat → Bool} {tm : Nat → Nat} (h : Mt a b B on tm) (k : Below b.heap.size b c) : Mt a c B on tm := ⟨h.m.below k, grown_trans h.gr (grown_below k _)⟩
theorem Mt.self {w : World} {B : Nat} {on : Nat → Bool} {tm : Nat → Nat} (h : Mk w B on tm) : Mt w w B on tm := ⟨h, ⟨rfl, rfl, rfl, Nat.le_refl _, fun _ _ _ => rfl⟩⟩
theorem Mt.of_below {a b : World} {B : Nat} {on : Nat → Bool} {tm : Nat → Nat} (h : Mk a B on tm) (k : Below a.heap.size a b) : Mt a b B on tm := ⟨h.below k, grown_below k _⟩
theorem mset_yes {w : World} {B : Nat} {on : Nat → Bool} {tm : Nat → Nat} (h : Mk w B on tm) (v s : Nat) (hv : v < 6) (hs : s < 3) (t : Nat) (ht : t < 18446744073709551616) :
    Calls Try.prog 13 #[.pointer (some ⟨B, 0, none⟩), .int .i64 v, .int .i64 s, .int .u64 t] w fun e w' => e = .returned (.int .i64 0) ∧ Mt w w' B (upd on (v * 3 + s) true) (upd tm (v * 3 + s) t) := by
  obtain ⟨a, b, h1, h2⟩ := h.ex
  refine (set_yes h1 v s hv hs t).mono fun e w' ⟨he, k⟩ => ⟨he, ⟨⟨_, _, k.ck, fun p hp => ?_⟩, k.gr⟩⟩
  by_cases e : p = v * 3 + s
  · subst e; rw [upd_same, upd_same, upd_same, upd_same]; exact ⟨rfl, fun _ => ⟨rfl, ht⟩⟩
  · rw [upd_other _ _ _ _ e, upd_other _ _ _ _ e, upd_other _ _ _ _ e, upd_other _ _ _ _ e]; exact h2 p hp
theorem mdrop_yes {w : World} {B : Nat} {on : Nat → Bool} {tm : Nat → Nat} (h : Mk w B on tm) (v s : Nat) (hv : v < 6) (hs : s < 3) :
    Calls Try.prog 9 #[.pointer (some ⟨B, 0, none⟩), .int .i64 v, .int .i64 s] w fun e w' => e = .returned (.tuple #[]) ∧ Mt w w' B (upd on (v * 3 + s) false) tm := by
  obtain ⟨a, b, h1, h2⟩ := h.ex
  refine (drop_yes h1 v s hv hs).mono fun e w' ⟨he, k⟩ => ⟨he, ⟨⟨_, _, k.ck, fun p hp => ?_⟩, k.gr⟩⟩
  by_cases e : p = v * 3 + s
  · subst e; rw [upd_same, upd_same, upd_same]; exact ⟨rfl, fun h => by cases h⟩
  · rw [upd_other _ _ _ _ e, upd_other _ _ _ _ e, upd_other _ _ _ _ e]; exact h2 p hp
theorem mdropVM_yes {w : World} {B : Nat} {on : Nat → Bool} {tm : Nat → Nat} (h : Mk w B on tm) (v : Nat) (hv : v < 6) :
    Calls Try.prog 10 #[.pointer (some ⟨B, 0, none⟩), .int .i64 v] w fun e w' => e = .returned (.tuple #[]) ∧ Mt w w' B (rowOff on v 3 false) tm := by
  obtain ⟨a, b, h1, h2⟩ := h.ex
  refine (dropVM_yes h1 v hv).mono fun e w' ⟨he, k⟩ => ⟨he, ⟨⟨_, _, k.ck, fun p hp => ?_⟩, k.gr⟩⟩
  unfold rowOff
  by_cases e : v * 3 ≤ p ∧ p < v * 3 + 3
  · rw [if_pos e, if_pos e, if_pos e]; exact ⟨rfl, fun h => by cases h⟩
  · rw [if_neg e, if_neg e, if_neg e]; exact h2 p hp
theorem mtwin_in {w : World} {B : Nat} {on : Nat → Bool} {tm : Nat → Nat} (h : Mk w B on tm) :
    Calls Try.prog 15 #[.pointer (some ⟨B, 0, none⟩)] w fun e w' => e = .returned (.pointer (some ⟨w.heap.size, 0, none⟩)) ∧ Mk w' w.heap.size on tm ∧ Below w.heap.size w w' := by
  obtain ⟨a, b, h1, h2⟩ := h.ex
  exact (twin_in h1).mono fun e w' ⟨he, k1, k2⟩ => ⟨he, ⟨_, _, k1, h2⟩, k2⟩
theorem mupTo_in {w : World} {B : Nat} {on : Nat → Bool} {tm : Nat → Nat} (h : Mk w B on tm) (last : Nat) :
    Calls Try.prog 17 #[.pointer (some ⟨B, 0, none⟩), .int .u64 last] w (Ut w (upL on tm last)) := by
  obtain ⟨a, b, h1, h2⟩ := h.ex
  have := upTo_in h1 last
  rw [upL_congr last (fun p hp => ⟨(h2 p hp).1, fun ho => ((h2 p hp).2 ho).1⟩)] at this
  exact this
def maxT : Nat := 18446744073709551615
theorem all_nil (w : World) : Calls Try.prog 14 #[.pointer none] w fun e w' => e = .returned (.slice none 0 0) ∧ w = w' := by
  have H := Lib.hid (show Calls Try.prog 17 #[.pointer none, .int .u64 18446744073709551615] w fun e w' => e = .returned (.slice none 0 0) ∧ w = w' from upTo_nil 18446744073709551615 w)
  go_enter Try.func14, Try.ntmps14
  go_wp2_with fail
  refine (H.out).mono ?_
  rintro e w1 ⟨rfl, rfl⟩
  go_wp2
  go_ret
  exact ⟨rfl, rfl⟩
theorem all_in {w : World} {B : Nat} {on : Nat → Bool} {tm : Nat → Nat} (h : Mk w B on tm) :
    Calls Try.prog 14 #[.pointer (some ⟨B, 0, none⟩)] w (Ut w (upL on tm maxT)) := by
  have H := Lib.hid (show Calls Try.prog 17 #[.pointer (some ⟨B, 0, none⟩), .int .u64 18446744073709551615] w (Ut w (upL on tm maxT)) from mupTo_in h maxT)
  clear h
  go_enter Try.func14, Try.ntmps14
  go_wp2_with fail
  refine (H.out).mono ?_
  rintro e w1 ⟨v, rfl, h1, h2⟩
  have HE : Hid (Ut w (upL on tm maxT) (.returned v) w1) := Lib.hid ⟨v, rfl, h1, h2⟩
  clear h1 h2 H
  go_wp2
  go_ret
  exact HE.out
theorem due_nil (now : Nat) (w : World) : Calls Try.prog 11 #[.pointer none, .int .u64 now] w fun e w' => e = .returned (.slice none 0 0) ∧ w = w' := by
  have H := Lib.hid (upTo_nil now w)
  go_enter Try.func11, Try.ntmps11
  go_wp2_with fail
  refine (H.out).mono ?_
  rintro e w1 ⟨rfl, rfl⟩
  go_wp2
  refine wp_loop_rounds 1 ?_
  rw [rounds_succ]
  go_wp2
  go_ret
  exact ⟨rfl, rfl⟩
theorem shift_nil (by_ : Nat) (w : World) : Calls Try.prog 12 #[.pointer none, .int .u64 by_] w fun e w' => e = .returned (.tuple #[]) ∧ w = w' := by
  have H := Lib.hid (all_nil w)
  go_enter Try.func12, Try.ntmps12
  go_wp2_with fail
  refine (H.out).mono ?_
  rintro e w1 ⟨rfl, rfl⟩
  go_wp2
  refine wp_loop_rounds 1 ?_
  rw [rounds_succ]
  go_wp2
  go_end0
  exact ⟨rfl, rfl⟩
end Go.Proofs.Ytfiahkjaeeoepaa
