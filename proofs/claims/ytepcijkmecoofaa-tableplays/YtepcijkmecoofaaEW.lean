/-
  Contracts of package table's tables (save, Map, Unmap, Walk): where pages are, by what the store says.
-/
import Derived.Test.YtepcijkmecoofaaEB
namespace Go.Proofs.Ytepcijkmecoofaa
open Go.ChangeShapes Go.WideShapes Go.ChangeAt Go.RowKit
open WM EM
set_option maxRecDepth 100000

theorem grown_of_below {w w' : World} (h : Below w.heap.size w w') : w.grownBy w' none := ⟨h.os, h.tape, h.output, h.size, fun k hk _ => h.block k hk⟩
theorem below_ok {w : World} {s h n : Nat} {f : Nat → Nat} (H : St w s h n f) (form : Nat) (hform : form = 1 ∨ form = 2) (A : Option Addr) (len cap r : Nat) (hr : Root w A len r) (hrn : r < n) (page : Nat) (hp : page < 32)
    (hT : isT form (wd f r (page / 8)) = true) (hg : fr form (wd f r (page / 8)) < n) :
    Calls Try.prog 21 #[.agg #[.int .i64 form, .slice A len cap], .pointer (some ⟨s, 0, none⟩), .int .i64 page] w fun e w' => e = .returned (.tuple #[.int .i64 (fr form (wd f r (page / 8)) : Nat), .int .i64 0]) ∧ Below w.heap.size w w' :=
  below_way H form A len cap r hr page hp _ _ hg (fun W hb => tload_yes (H.below hb) form hform A len cap r (page / 8) hrn (by omega) hT)

/-! ### save -/
theorem save_err {w : World} (form : Int) (A : Option Addr) (len cap : Nat) (s : Value) (page : Int) (t : Bool) (fv : Int) (wr : Bool) (err : Int) (he : err ≠ 0)
    (HB : ∀ W, Below w.heap.size w W → Calls Try.prog 21 #[.agg #[.int .i64 form, .slice A len cap], s, .int .i64 page] W fun e w' => e = .returned (.tuple #[.int .i64 0, .int .i64 err]) ∧ Below W.heap.size W w') :
    Calls Try.prog 19 #[.agg #[.int .i64 form, .slice A len cap], s, .int .i64 page, .agg #[.bool t, .int .i64 fv, .bool wr]] w fun e w' => e = .returned (.int .i64 err) ∧ Below w.heap.size w w' := by
  have b2 := below_more (below_new w (.cells #[.int .i64 form, .slice A len cap] 27)) (.cells #[.bool t, .int .i64 fv, .bool wr] 31)
  have HB' := Lib.hid (HB _ b2)
  have t1 : (err != 0) = true := by simpa using he
  clear HB
  go_enter Try.func19, Try.ntmps19
  go_wp2_with fail
  refine (HB'.out).mono ?_
  rintro e W1 ⟨rfl, hb1⟩
  have b3 := below_up b2 hb1
  clear hb1 b2
  go_wp2
  go_ret
  exact ⟨rfl, b3⟩
theorem save_way {w : World} {s h n : Nat} {f : Nat → Nat} (H : St w s h n f) (form : Int) (A : Option Addr) (len cap : Nat) (page : Nat) (hp : page < 32) (t : Bool) (fv : Int) (wr : Bool) (g x : Nat) (hg : g < n)
    (HB : ∀ W, Below w.heap.size w W → Calls Try.prog 21 #[.agg #[.int .i64 form, .slice A len cap], .pointer (some ⟨s, 0, none⟩), .int .i64 page] W fun e w' => e = .returned (.tuple #[.int .i64 g, .int .i64 0]) ∧ Below W.heap.size W w')
    (HP : ∀ W, Calls Try.prog 15 #[.int .i64 form, .agg #[.bool t, .int .i64 fv, .bool wr]] W fun e w' => e = .returned (.int .u64 (x : Nat)) ∧ Below W.heap.size W w') :
    Calls Try.prog 19 #[.agg #[.int .i64 form, .slice A len cap], .pointer (some ⟨s, 0, none⟩), .int .i64 page, .agg #[.bool t, .int .i64 fv, .bool wr]] w fun e w' =>
      e = .returned (.int .i64 0) ∧ St w' s h n (putF f (g * 256 + page % 8 * 8) 8 (byteN x)) ∧ w.grownBy w' (some h) := by
  have b1 := below_new w (.cells #[.int .i64 form, .slice A len cap] 27)
  have b2 := below_more b1 (.cells #[.bool t, .int .i64 fv, .bool wr] 31)
  have c0 := (l2_new w (.int .i64 form) (.slice A len cap) 27).1
  have c0' := (World.cell?_alloc_past (.cells #[.bool t, .int .i64 fv, .bool wr] 31) w.heap.size 0 (show w.heap.size < (w.alloc (.cells #[.int .i64 form, .slice A len cap] 27)).heap.size by simp)).trans c0
  have l3 := l3_new (w.alloc (.cells #[.int .i64 form, .slice A len cap] 27)) (.bool t) (.int .i64 fv) (.bool wr) 31
  have HB' := Lib.hid (HB _ b2)
  have HP' := Lib.hid HP
  obtain ⟨q, hq⟩ : ∃ q, page % 8 = q := ⟨_, rfl⟩
  have hq8 : q < 8 := by omega
  have hw : (page : Int) % 8 = (q : Int) := by omega
  have HS := Lib.hid (fun W (hb : Below w.heap.size w W) => save_ok (H.below hb) g q x hg (by omega))
  rw [hq]
  clear HB HP hq H
  go_enter Try.func19, Try.ntmps19
  go_wp2_with fail
  refine (HB'.out).mono ?_
  rintro e W1 ⟨rfl, hb1⟩
  have b3 := below_up b2 hb1
  have d0 := (hb1.cell (p := ⟨w.heap.size, 0, none⟩) (by simp; omega)).trans c0'
  obtain ⟨e0, e1, e2, el, ef⟩ := l3.later hb1
  rw [World.size_alloc] at e0 e1 e2 el ef
  clear hb1 b2 b1 c0 c0' l3
  go_wp2_with fail
  refine (HP'.out _).mono ?_
  rintro e W2 ⟨rfl, hb2⟩
  have b4 := below_up b3 hb2
  go_wp2_with fail
  refine (HS.out _ b4).mono ?_
  rintro e W3 ⟨rfl, h3, g3⟩
  have HR := Lib.hid h3
  have HG := Lib.hid ((World.grownBy.but (grown_of_below b4) (some h)).trans g3)
  clear h3 g3
  go_wp2
  go_ret
  exact ⟨rfl, HR.out, HG.out⟩

/-! ### Map, Unmap -/
theorem map_frame {w : World} {s h n : Nat} {f : Nat → Nat} (H : St w s h n f) (form : Int) (A : Option Addr) (len cap : Nat) (page frame : Int) (wr : Bool) (hf : ¬ (0 ≤ frame ∧ frame < n)) :
    Calls Try.prog 10 #[.agg #[.int .i64 form, .slice A len cap], .pointer (some ⟨s, 0, none⟩), .int .i64 page, .int .i64 frame, .bool wr] w fun e w' => e = .returned (.int .i64 1) ∧ Below w.heap.size w w' := by
  have b1 := below_new w (.cells #[.int .i64 form, .slice A len cap] 27)
  have HI := Lib.hid (in_no (H.below b1) frame hf)
  clear H hf
  go_enter Try.func10, Try.ntmps10
  go_wp2_with (go_at_call 20; refine (HI.out).mono ?_; rintro e w' ⟨rfl, rfl⟩)
  go_ret
  exact ⟨rfl, b1⟩
theorem map_page {w : World} {s h n : Nat} {f : Nat → Nat} (H : St w s h n f) (form : Int) (A : Option Addr) (len cap : Nat) (page frame : Int) (wr : Bool) (hf : 0 ≤ frame ∧ frame < n)
    (HB : ∀ W, Below w.heap.size w W → Calls Try.prog 21 #[.agg #[.int .i64 form, .slice A len cap], .pointer (some ⟨s, 0, none⟩), .int .i64 page] W fun e w' => e = .returned (.tuple #[.int .i64 0, .int .i64 1]) ∧ Below W.heap.size W w') :
    Calls Try.prog 10 #[.agg #[.int .i64 form, .slice A len cap], .pointer (some ⟨s, 0, none⟩), .int .i64 page, .int .i64 frame, .bool wr] w fun e w' => e = .returned (.int .i64 1) ∧ Below w.heap.size w w' := by
  have b1 := below_new w (.cells #[.int .i64 form, .slice A len cap] 27)
  have HI := Lib.hid (in_yes (H.below b1) frame hf.1 hf.2)
  have HS := Lib.hid (save_err (w := w.alloc (.cells #[.int .i64 form, .slice A len cap] 27)) form A len cap (.pointer (some ⟨s, 0, none⟩)) page true frame wr 1 (by decide) (fun W hb => HB W (below_up b1 hb)))
  clear H hf HB
  go_enter Try.func10, Try.ntmps10
  go_wp2_with (first
    | (go_at_call 20; refine (HI.out).mono ?_; rintro e w' ⟨rfl, rfl⟩)
    | (go_at_call 19; refine (HS.out).mono ?_; rintro e w' ⟨rfl, hb⟩))
  go_ret
  exact ⟨rfl, below_up b1 hb⟩
theorem map_way {w : World} {s h n : Nat} {f : Nat → Nat} (H : St w s h n f) (form : Int) (A : Option Addr) (len cap : Nat) (page : Nat) (hp : page < 32) (frame : Nat) (wr : Bool) (g x : Nat) (hg : g < n) (hf : frame < n)
    (HB : ∀ W, Below w.heap.size w W → Calls Try.prog 21 #[.agg #[.int .i64 form, .slice A len cap], .pointer (some ⟨s, 0, none⟩), .int .i64 page] W fun e w' => e = .returned (.tuple #[.int .i64 g, .int .i64 0]) ∧ Below W.heap.size W w')
    (HP : ∀ W, Calls Try.prog 15 #[.int .i64 form, .agg #[.bool true, .int .i64 frame, .bool wr]] W fun e w' => e = .returned (.int .u64 (x : Nat)) ∧ Below W.heap.size W w') :
    Calls Try.prog 10 #[.agg #[.int .i64 form, .slice A len cap], .pointer (some ⟨s, 0, none⟩), .int .i64 page, .int .i64 frame, .bool wr] w fun e w' =>
      e = .returned (.int .i64 0) ∧ St w' s h n (putF f (g * 256 + page % 8 * 8) 8 (byteN x)) ∧ w.grownBy w' (some h) := by
  have b1 := below_new w (.cells #[.int .i64 form, .slice A len cap] 27)
  have HI := Lib.hid (in_yes (H.below b1) frame (by omega) (by omega))
  have HS := Lib.hid (save_way (H.below b1) form A len cap page hp true frame wr g x hg (fun W hb => HB W (below_up b1 hb)) HP)
  clear H hf HB HP
  go_enter Try.func10, Try.ntmps10
  go_wp2_with (first
    | (go_at_call 20; refine (HI.out).mono ?_; rintro e w' ⟨rfl, rfl⟩)
    | (go_at_call 19; refine (HS.out).mono ?_; rintro e w' ⟨rfl, h1, h2⟩; have H1 := Lib.hid h1; have H2 := Lib.hid ((World.grownBy.but (grown_of_below b1) (some h)).trans h2); clear h1 h2))
  go_ret
  exact ⟨rfl, H1.out, H2.out⟩
theorem unmap_page {w : World} (form : Int) (A : Option Addr) (len cap : Nat) (s : Value) (page : Int)
    (HB : ∀ W, Below w.heap.size w W → Calls Try.prog 21 #[.agg #[.int .i64 form, .slice A len cap], s, .int .i64 page] W fun e w' => e = .returned (.tuple #[.int .i64 0, .int .i64 1]) ∧ Below W.heap.size W w') :
    Calls Try.prog 9 #[.agg #[.int .i64 form, .slice A len cap], s, .int .i64 page] w fun e w' => e = .returned (.int .i64 1) ∧ Below w.heap.size w w' := by
  have b1 := below_new w (.cells #[.int .i64 form, .slice A len cap] 27)
  have HS := Lib.hid (save_err (w := w.alloc (.cells #[.int .i64 form, .slice A len cap] 27)) form A len cap s page false 0 false 1 (by decide) (fun W hb => HB W (below_up b1 hb)))
  clear HB
  go_enter Try.func9, Try.ntmps9
  go_wp2_with (go_at_call 19; refine (HS.out).mono ?_; rintro e w' ⟨rfl, hb⟩)
  go_ret
  exact ⟨rfl, below_up b1 hb⟩
theorem unmap_way {w : World} {s h n : Nat} {f : Nat → Nat} (H : St w s h n f) (form : Nat) (hform : form = 1 ∨ form = 2) (A : Option Addr) (len cap : Nat) (page : Nat) (hp : page < 32) (g : Nat) (hg : g < n)
    (HB : ∀ W, Below w.heap.size w W → Calls Try.prog 21 #[.agg #[.int .i64 form, .slice A len cap], .pointer (some ⟨s, 0, none⟩), .int .i64 page] W fun e w' => e = .returned (.tuple #[.int .i64 g, .int .i64 0]) ∧ Below W.heap.size W w') :
    Calls Try.prog 9 #[.agg #[.int .i64 form, .slice A len cap], .pointer (some ⟨s, 0, none⟩), .int .i64 page] w fun e w' =>
      e = .returned (.int .i64 0) ∧ St w' s h n (putF f (g * 256 + page % 8 * 8) 8 (byteN 0)) ∧ w.grownBy w' (some h) := by
  have b1 := below_new w (.cells #[.int .i64 form, .slice A len cap] 27)
  have HS := Lib.hid (save_way (H.below b1) form A len cap page hp false 0 false g 0 hg (fun W hb => HB W (below_up b1 hb)) (fun W => pack_zero form 0 false W hform))
  clear H HB hform
  go_enter Try.func9, Try.ntmps9
  go_wp2_with (go_at_call 19; refine (HS.out).mono ?_; rintro e w' ⟨rfl, h1, h2⟩; have H1 := Lib.hid h1; have H2 := Lib.hid ((World.grownBy.but (grown_of_below b1) (some h)).trans h2); clear h1 h2)
  go_ret
  exact ⟨rfl, H1.out, H2.out⟩

/-! ### Walk -/
theorem walk_err {w : World} (form : Int) (A : Option Addr) (len cap : Nat) (s : Value) (page : Int)
    (HB : ∀ W, Below w.heap.size w W → Calls Try.prog 21 #[.agg #[.int .i64 form, .slice A len cap], s, .int .i64 page] W fun e w' => e = .returned (.tuple #[.int .i64 0, .int .i64 1]) ∧ Below W.heap.size W w') :
    Calls Try.prog 11 #[.agg #[.int .i64 form, .slice A len cap], s, .int .i64 page] w fun e w' => e = .returned (.tuple #[.agg #[.bool false, .int .i64 0, .bool false], .int .i64 1]) ∧ Below w.heap.size w w' := by
  have b1 := below_new w (.cells #[.int .i64 form, .slice A len cap] 27)
  have b2 := below_more b1 (.cells #[.bool false, .int .i64 0, .bool false] 31)
  have l3 := l3_new (w.alloc (.cells #[.int .i64 form, .slice A len cap] 27)) (.bool false) (.int .i64 0) (.bool false) 31
  have HB' := Lib.hid (HB _ b2)
  clear HB
  go_enter Try.func11, Try.ntmps11
  go_wp2_with fail
  refine (HB'.out).mono ?_
  rintro e W1 ⟨rfl, hb1⟩
  have b3 := below_up b2 hb1
  obtain ⟨e0, e1, e2, el, ef⟩ := l3.later hb1
  rw [World.size_alloc] at e0 e1 e2 el ef
  clear hb1 b2 b1 l3
  go_wp2
  refine ret32 (hr := rfl) (hp := rfl) (by simp [e0]) (by simp [e1]) (by simp [e2]) ⟨rfl, ?_⟩
  repeat (first | with_reducible exact b3 | with_reducible refine Below.setCell ?_ (by simp) _)
theorem walk_way {w : World} (s : Nat) (form : Int) (A : Option Addr) (len cap : Nat) (page : Nat) (hp : page < 32) (g : Nat) (t : Bool) (fv : Int) (wr : Bool) (err : Int)
    (HB : ∀ W, Below w.heap.size w W → Calls Try.prog 21 #[.agg #[.int .i64 form, .slice A len cap], .pointer (some ⟨s, 0, none⟩), .int .i64 page] W fun e w' => e = .returned (.tuple #[.int .i64 g, .int .i64 0]) ∧ Below W.heap.size W w')
    (HL : ∀ W, Below w.heap.size w W → Calls Try.prog 22 #[.agg #[.int .i64 form, .slice A len cap], .pointer (some ⟨s, 0, none⟩), .int .i64 g, .int .i64 (page % 8 : Nat)] W fun e w' => e = .returned (.tuple #[.agg #[.bool t, .int .i64 fv, .bool wr], .int .i64 err]) ∧ Below W.heap.size W w') :
    Calls Try.prog 11 #[.agg #[.int .i64 form, .slice A len cap], .pointer (some ⟨s, 0, none⟩), .int .i64 page] w fun e w' => e = .returned (.tuple #[.agg #[.bool t, .int .i64 fv, .bool wr], .int .i64 err]) ∧ Below w.heap.size w w' := by
  have b1 := below_new w (.cells #[.int .i64 form, .slice A len cap] 27)
  have b2 := below_more b1 (.cells #[.bool false, .int .i64 0, .bool false] 31)
  have l3 := l3_new (w.alloc (.cells #[.int .i64 form, .slice A len cap] 27)) (.bool false) (.int .i64 0) (.bool false) 31
  obtain ⟨c0, c1⟩ := l2_new w (.int .i64 form) (.slice A len cap) 27
  have c0' := (World.cell?_alloc_past (.cells #[.bool false, .int .i64 0, .bool false] 31) w.heap.size 0 (show w.heap.size < (w.alloc (.cells #[.int .i64 form, .slice A len cap] 27)).heap.size by simp)).trans c0
  have c1' := (World.cell?_alloc_past (.cells #[.bool false, .int .i64 0, .bool false] 31) w.heap.size 1 (show w.heap.size < (w.alloc (.cells #[.int .i64 form, .slice A len cap] 27)).heap.size by simp)).trans c1
  have HB' := Lib.hid (HB _ b2)
  obtain ⟨q, hq⟩ : ∃ q, page % 8 = q := ⟨_, rfl⟩
  have hw : (page : Int) % 8 = (q : Int) := by omega
  rw [hq] at HL
  have HL' := Lib.hid HL
  clear HB HL hq
  go_enter Try.func11, Try.ntmps11
  go_wp2_with fail
  refine (HB'.out).mono ?_
  rintro e W1 ⟨rfl, hb1⟩
  have b3 := below_up b2 hb1
  have d0 := (hb1.cell (p := ⟨w.heap.size, 0, none⟩) (by simp; omega)).trans c0'
  have d1 := (hb1.cell (p := ⟨w.heap.size, 1, none⟩) (by simp; omega)).trans c1'
  have l4 := l3.later hb1
  clear hb1 b2 b1 l3 c0 c1 c0' c1'
  go_wp2_with fail
  refine (HL'.out _ b3).mono ?_
  rintro e W2 ⟨rfl, hb2⟩
  have b4 := below_up b3 hb2
  obtain ⟨e0, e1, e2, el, ef⟩ := l4.later hb2
  rw [World.size_alloc] at e0 e1 e2 el ef
  clear hb2 b3 l4 d0 d1
  go_wp2
  refine ret32 (hr := rfl) (hp := rfl) (by simp [e0]) (by simp [e1]) (by simp [e2]) ⟨rfl, ?_⟩
  repeat (first | with_reducible exact b4 | with_reducible refine Below.setCell ?_ (by simp) _)
end Go.Proofs.Ytepcijkmecoofaa
