/-
  Contracts of giveAll and Some.
-/
import Derived.Test.YtfjkomglljcfjaaPD
import Derived.Deep.Cut
namespace Go.Proofs.Ytfjkomglljcfjaa
open Go.ChangeShapes Go.WideShapes Go.ChangeAt Go.RowKit
open PM
set_option maxRecDepth 100000

/-- A list's number at a place. -/
def at0 (L : List Nat) : Nat → Nat := fun j => L.getD j 0
theorem at0_get {L : List Nat} {j : Nat} (h : j < L.length) : L[j]? = some (at0 L j) := by unfold at0; simp [List.getD_eq_getElem?_getD, h]
theorem at0_upd {L : List Nat} {i x : Nat} (h : L[i]? = some x) : upd (at0 L) i x = at0 L := by
  funext j
  unfold upd
  split
  · rename_i e; subst e; unfold at0; simp [List.getD_eq_getElem?_getD, h]
  · rfl
/-- A slice of the call's own that holds the first n numbers of a list. -/
def Ints (w : World) (base : Nat) (v : Value) (n : Nat) (L : List Nat) : Prop := w.ownsRow base 3 1 v n (vl (iv (at0 L)) n)
theorem Ints.nil (w : World) (base : Nat) (L : List Nat) : Ints w base (.slice none 0 0) 0 L := ⟨rfl, .inl ⟨rfl, rfl⟩⟩
theorem Ints.ex {w : World} {base n : Nat} {v : Value} {L : List Nat} (h : Ints w base v n L) :
    ∃ a cap, v = .slice a n cap ∧ (∀ j, j < n → ∃ g, a = some ⟨g, 0, none⟩ ∧ base ≤ g ∧ g < w.heap.size ∧ w.cell? ⟨g, j, none⟩ = some (.int .i64 (at0 L j : Nat))) := by
  by_cases h0 : n = 0
  · subst h0
    rcases h.2 with ⟨rfl, _⟩ | ⟨g, cap, cur, rfl, _⟩
    · exact ⟨none, 0, rfl, fun j hj => by omega⟩
    · exact ⟨_, cap, rfl, fun j hj => by omega⟩
  · obtain ⟨g, cap, rfl, _, hb, hv⟩ := VR.of_owns h (by omega) (fun i hi => vl_get _ _ _ hi)
    exact ⟨_, cap, rfl, fun j hj => ⟨g, rfl, hb, hv.lt, hv.cell j hj⟩⟩
theorem Ints.ch {w w' : World} {base n : Nat} {v : Value} {L : List Nat} {S : Nat → Prop} (h : Ints w base v n L) (hc : Ch S w w') (hS : ∀ x, base ≤ x → x < w.heap.size → ¬ S x) : Ints w' base v n L := by
  refine ⟨h.1, ?_⟩
  rcases h.2 with h2 | ⟨g, cap, cur, rfl, hb, hg, r⟩
  · exact .inl h2
  · exact .inr ⟨g, cap, cur, rfl, hb, (hc.block g (Array.getElem?_eq_some_iff.1 hg).1 (hS g hb (Array.getElem?_eq_some_iff.1 hg).1)).trans hg, r⟩

/-- giveAll: frames that were taken are free again. -/
theorem giveAll_in {w : World} {B k : Nat} {F : Nat → Prop} {us : Nat → Bool} {well : Int} (H : Pl w B F k us well) {base n : Nat} {v : Value} {L : List Nat} (hv : Ints w base v n L) (hF : ∀ x, base ≤ x → ¬ F x) (hn : n ≤ L.length) (hnb : n ≤ 1000000)
    (hd : L.Pairwise (· < ·)) (hu : ∀ x ∈ L.take n, x < k ∧ us x = true) :
    Calls Try.prog 19 #[.pointer (some ⟨B, 0, none⟩), v] w fun e w' => e = .returned (.tuple #[]) ∧ Pl w' B (fun x => F x ∨ w.heap.size ≤ x) k (gvs us L n) well ∧ Ch F w w' := by
  obtain ⟨a, cap, rfl, hcell⟩ := hv.ex
  have HC := Lib.hid hcell
  have HP := Lib.hid (show Pl w B (fun x => F x ∨ w.heap.size ≤ x) k (gvs us L 0) well ∧ Ch F w w from ⟨by rw [gvs_zero]; exact H.mono (fun x _ h => .inl h), Ch.refl F w⟩)
  have HF := Lib.hid hF
  have HD := Lib.hid hd
  have HU := Lib.hid hu
  clear hcell hv H hF hd hu
  go_enter Try.func19, Try.ntmps19
  go_wp2_with fail
  go_loopw [8] (fun i wr => ∃ (j : Nat), j ≤ n ∧ i = .int .i64 j ∧ (Pl wr B (fun x => F x ∨ w.heap.size ≤ x) k (gvs us L j) well ∧ Ch F w wr)) (fun i _ => (n - (intOf i).toNat))
  case atStart => exact ⟨0, by omega, rfl, HP.out⟩
  case round =>
    obtain ⟨j, hj, rfl, hp⟩ := hrel
    clear HP
    have HP := Lib.hid hp
    clear hp
    by_cases hjn : j < n
    · obtain ⟨g, rfl, hb, hgs, hc⟩ := (HC.out) j hjn
      have c1 := ((HP.out).2).cell hc ((HF.out) g hb)
      have hx : L[j]? = some (at0 L j) := at0_get (by omega)
      obtain ⟨x, ex⟩ : ∃ x, at0 L j = x := ⟨_, rfl⟩
      rw [ex] at c1 hx
      have hmem : x ∈ L.take n := by
        rw [List.mem_iff_getElem?]
        exact ⟨j, by rw [List.getElem?_take, if_pos hjn]; exact hx⟩
      have hxu := (HU.out) x hmem
      have hgv : gvs us L j x = true := by
        unfold gvs
        have : x ∉ L.take j := by
          intro hm
          rw [List.mem_iff_getElem?] at hm
          obtain ⟨i, hi⟩ := hm
          rw [List.getElem?_take] at hi
          split at hi
          · rename_i hij
            have hi2 : i < L.length := by omega
            have := List.pairwise_iff_getElem.1 HD.out i j hi2 (by omega) hij
            rw [List.getElem?_eq_getElem hi2] at hi
            rw [List.getElem?_eq_getElem (by omega)] at hx
            injection hi with hi
            injection hx with hx
            omega
          · cases hi
        simp [hxu.2, this]
      have HGS := Lib.hid (gvs_succ us L j x hx)
      have HGV := Lib.hid hgv
      have hxk := hxu.1
      clear hc hx ex hmem hxu hgv
      go_wp2_with fail
      (with_reducible refine (give_in (HP.out).1 x hxk HGV.out).mono ?_)
      rintro e w1 ⟨rfl, p1, ch1⟩
      have HP1 := Lib.hid (show Pl w1 B (fun x => F x ∨ w.heap.size ≤ x) k (gvs us L (j + 1)) well ∧ Ch F w w1 from ⟨by
        rw [← HGS.out]
        refine p1.mono (fun y _ h => ?_)
        rcases h with h | h
        · exact h
        · exact .inr (by have := ((HP.out).2).size; omega), ((HP.out).2).trans ch1 (fun y hy hF h => by rcases h with h | h; exact hF h; omega)⟩)
      clear p1 ch1 c1
      go_wp2
      go_roundw
      case rel => exact ⟨j + 1, by omega, by go_num, HP1.out⟩
      case measure => simp [intOf]; omega
    · obtain rfl : j = n := by omega
      go_wp2
      go_end0
      exact ⟨rfl, HP.out⟩

/-! ### Some -/
theorem some_zero {w : World} {B k : Nat} {F : Nat → Prop} {us : Nat → Bool} {well : Int} (_ : Pl w B F k us well) (n : Int) (hn : n ≤ 0) :
    Calls Try.prog 12 #[.pointer (some ⟨B, 0, none⟩), .int .i64 n] w fun e w' => e = .returned (.tuple #[.slice none 0 0, .int .i64 0]) ∧ w = w' := by
  go_enter Try.func12, Try.ntmps12
  go_wp2_with fail
  go_loopw [12, 6] (fun i t wr => i = .int .i64 0 ∧ t = .slice none 0 0 ∧ wr = w) (fun _ _ _ => 0)
  case atStart => exact ⟨rfl, rfl, rfl⟩
  case round =>
    obtain ⟨rfl, rfl, rfl⟩ := hrel
    go_wp2
    go_ret2
    exact ⟨rfl, rfl⟩
/-- How many Takes go well still, behind i of them. -/
def wellK (well : Int) (i : Nat) : Int := if 0 < well then well - i else well
theorem wellK_zero (well : Int) : wellK well 0 = well := by unfold wellK; split <;> omega
theorem wellK_succ {well : Int} {i : Nat} (h : wellK well i ≠ 0) (h2 : 0 ≤ well → (i : Int) ≤ well) : wellN (wellK well i) = wellK well (i + 1) ∧ (0 ≤ well → ((i + 1 : Nat) : Int) ≤ well) := by
  unfold wellN wellK at *
  by_cases c : 0 < well
  · simp only [c, if_true] at h ⊢
    have := h2 (by omega)
    rw [if_pos (by omega)]
    omega
  · rw [if_neg c] at h ⊢
    rw [if_neg c, if_neg c]
    exact ⟨rfl, fun h => by omega⟩
/-- Some under way: i frames are taken. -/
structure SI (w wr : World) (B k : Nat) (F : Nat → Prop) (us : Nat → Bool) (well : Int) (tv : Value) (i : Nat) : Prop where
  pl : Pl wr B F k (tks us (wl us k) i) (wellK well i)
  ch : Ch F w wr
  own : Ints wr w.heap.size tv i (wl us k)
  wl : PM.wl (tks us (PM.wl us k) i) k = (PM.wl us k).drop i
  le : i ≤ cnt us k
  we : 0 ≤ well → (i : Int) ≤ well
/-- What Some leaves: all, or nothing. -/
def SomeP (w : World) (B k : Nat) (F : Nat → Prop) (us : Nat → Bool) (well : Int) (n : Nat) (e : Ending) (w' : World) : Prop :=
  (∃ v, e = .returned (.tuple #[v, .int .i64 0]) ∧ n ≤ cnt us k ∧ (0 ≤ well → (n : Int) ≤ well) ∧ Pl w' B F k (tks us (wl us k) n) (wellK well n) ∧ Ch F w w' ∧ Ints w' w.heap.size v n (wl us k)) ∨
  (e = .returned (.tuple #[.slice none 0 0, .int .i64 3]) ∧ ∃ i, i < n ∧ i ≤ cnt us k ∧ (0 ≤ well → (i : Int) ≤ well) ∧ (i = cnt us k ∨ (i : Int) = well) ∧ Pl w' B (fun x => F x ∨ w.heap.size ≤ x) k us (wellK well i) ∧ Ch F w w')
theorem SI.next {w w1 w2 wr : World} {B k : Nat} {F : Nat → Prop} {us : Nat → Bool} {well : Int} {tv v2 : Value} {i x : Nat} (h : SI w wr B k F us well tv i) (hw : wellK well i ≠ 0) (hF : ∀ y, F y → y < w.heap.size)
    (x1 : x < k) (x2 : tks us (PM.wl us k) i x = false) (x3 : ∀ y, y < k → tks us (PM.wl us k) i y = false → x ≤ y) (p : Pl w1 B F k (upd (tks us (PM.wl us k) i) x true) (wellN (wellK well i))) (c : Ch F wr w1)
    (hc2 : Ch (fun y => w.heap.size ≤ y) w1 w2) (own : ∀ _ : (PM.wl us k)[i]? = some x, Ints w2 w.heap.size v2 (i + 1) (PM.wl us k)) : SI w w2 B k F us well v2 (i + 1) := by
  have hwl := wl_take x1 x2 (fun y hy => by
    cases e : tks us (PM.wl us k) i y
    · have := x3 y (by omega) e; omega
    · rfl)
  rw [h.wl] at hwl
  have hx : (PM.wl us k)[i]? = some x := by
    have : ((PM.wl us k).drop i)[0]? = some x := by rw [hwl]; rfl
    rw [List.getElem?_drop] at this; exact this
  obtain ⟨e1, e2⟩ := wellK_succ hw h.we
  rw [tks_succ us _ i x hx] at p hwl
  rw [e1] at p
  have hlen : i < (PM.wl us k).length := (List.getElem?_eq_some_iff.1 hx).1
  rw [wl_length] at hlen
  refine ⟨p.keep hc2 (fun y _ hy => by have := hF y hy; omega), (h.ch.trans c (fun _ _ h => h)).trans hc2 (fun y hy _ => by omega), own hx, ?_, by omega, e2⟩
  have : (PM.wl us k).drop (i + 1) = ((PM.wl us k).drop i).drop 1 := by rw [List.drop_drop]
  rw [this, hwl]; rfl
theorem SI.start {w : World} {B k : Nat} {F : Nat → Prop} {us : Nat → Bool} {well : Int} (H : Pl w B F k us well) : SI w w B k F us well (.slice none 0 0) 0 :=
  ⟨by rw [tks_zero, wellK_zero]; exact H, Ch.refl _ _, Ints.nil _ _ _, by rw [tks_zero]; rfl, Nat.zero_le _, fun h => h⟩
theorem SI.cnt {w wr : World} {B k : Nat} {F : Nat → Prop} {us : Nat → Bool} {well : Int} {tv : Value} {i : Nat} (h : SI w wr B k F us well tv i) : PM.cnt (tks us (PM.wl us k) i) k = PM.cnt us k - i := by
  rw [← wl_length, h.wl, List.length_drop, wl_length]
theorem SI.undo {us : Nat → Bool} {k i : Nat} : ∀ x, x < k → gvs (tks us (PM.wl us k) i) (PM.wl us k) i x = us x := by
  intro x hx
  unfold gvs tks
  by_cases c : x ∈ (PM.wl us k).take i
  · have := ((wl_mem us x k).1 (List.mem_of_mem_take c)).2
    simp [c, this]
  · simp [c]
theorem SI.fresh {w wr w1 : World} {B k : Nat} {F : Nat → Prop} {us : Nat → Bool} {well : Int} {tv : Value} {i : Nat} (h : SI w wr B k F us well tv i) (hF : ∀ y, F y → y < w.heap.size) (c : Ch F wr w1) (o : Obj) : Ints (w1.alloc o) w.heap.size tv i (PM.wl us k) :=
  World.ownsRow.alloc (h.own.ch c (fun x hx _ hf => by have := hF x hf; omega)) o
set_option maxHeartbeats 1000000 in
theorem some_in {w : World} {B k : Nat} {F : Nat → Prop} {us : Nat → Bool} {well : Int} (H : Pl w B F k us well) (n : Nat) (hn : n ≤ 9223372036854775807) :
    Calls Try.prog 12 #[.pointer (some ⟨B, 0, none⟩), .int .i64 (n : Nat)] w fun e w' => SomeP w B k (fun x => F x ∧ x < w.heap.size) us well n e w' := by
  have HI := Lib.hid (SI.start H.exact)
  have hk512 : k ≤ 512 := by obtain ⟨_, _, _, _, hx, _⟩ := H; exact hx.le
  have hcn := cnt_le us k
  have hF : ∀ y, (F y ∧ y < w.heap.size) → y < w.heap.size := fun y h => h.2
  have HF := Lib.hid hF
  clear H hF
  generalize hG : (fun x => F x ∧ x < w.heap.size) = G at HI
  have HF : Hid (∀ y, G y → y < w.heap.size) := Lib.hid (by rw [← hG]; exact HF.out)
  clear hG
  go_enter Try.func12, Try.ntmps12
  go_wp2_with fail
  go_loopw [12, 6] (fun i tv wr => ∃ (j : Nat), j ≤ n ∧ i = .int .i64 j ∧ SI w wr B k G us well tv j) (fun i _ _ => (n - (intOf i).toNat))
  case atStart => exact ⟨0, by omega, rfl, HI.out⟩
  case round =>
    obtain ⟨j, hj, rfl, hp⟩ := hrel
    clear HI
    have HI := Lib.hid hp
    have hjc := hp.le
    clear hp
    by_cases hjn : j < n
    · by_cases hfull : cnt (tks us (PM.wl us k) j) k = 0 ∨ wellK well j = 0
      · have HFU := Lib.hid hfull
        clear hfull
        go_wp2_with fail
        (with_reducible refine (take_full (HI.out).pl HFU.out).mono ?_)
        rintro e w1 ⟨rfl, rfl⟩
        go_wp2_with fail
        (with_reducible refine (giveAll_in (HI.out).pl (HI.out).own (fun x hx hf => by have := (HF.out) x hf; omega) (by rw [wl_length]; exact hjc) (by omega) (wl_rising us k) (fun x hx => ⟨((wl_mem us x k).1 (List.mem_of_mem_take hx)).1, by unfold tks; simp [hx]⟩)).mono ?_)
        rintro e w2 ⟨rfl, p2, ch2⟩
        have P2 := Lib.hid p2
        have C2 := Lib.hid ch2
        clear p2 ch2
        go_wp2
        go_ret2
        refine .inr ⟨rfl, j, hjn, hjc, (HI.out).we, ?_, ?_, ?_⟩
        · have h1 := (HI.out).cnt
          have h2 := (HI.out).we
          rcases HFU.out with h | h
          · left; omega
          · unfold wellK at h
            by_cases c : 0 < well
            · rw [if_pos c] at h; right; omega
            · rw [if_neg c] at h; right; have := h2 (by omega); omega
        · exact ((P2.out).mono (fun x _ h => by
            rcases h with h | h
            · exact .inl h
            · exact .inr (by have := (HI.out).ch.size; omega))).congr SI.undo
        · exact (HI.out).ch.trans (C2.out) (fun _ _ h => h)
      · have h1 : cnt (tks us (PM.wl us k) j) k ≠ 0 := fun h => hfull (.inl h)
        have h2 : wellK well j ≠ 0 := fun h => hfull (.inr h)
        have H1 := Lib.hid h1
        have H2 := Lib.hid h2
        clear hfull h1 h2
        go_wp2_with fail
        (with_reducible refine (take_in (HI.out).pl H1.out H2.out).mono ?_)
        rintro e w1 ⟨x, rfl, x1, x2, x3, p1, c1⟩
        have X := Lib.hid (show tks us (PM.wl us k) j x = false ∧ (∀ y, y < k → tks us (PM.wl us k) j y = false → x ≤ y) from ⟨x2, x3⟩)
        have P1 := Lib.hid p1
        have C1 := Lib.hid c1
        clear x2 x3 p1 c1
        go_wp2_with (at_builtin
                     refine wpList_push rfl (.tmp 25) (.tmp 27) _ rfl und_ints w.heap.size u6 j (at0 (PM.wl us k)) rfl ((HI.out).fresh HF.out C1.out _) (by omega) (by have := ((HI.out).ch.trans C1.out (fun _ _ h => h)).size; simp; omega) ⟨w1.heap.size, 0, none⟩ 1 x rfl (by simp) ?_
                     intro g' cap' w' k1 k2 k3 k4
                     have K := Lib.hid (show SI w w' B k G us well (.slice (some ⟨g', 0, none⟩) (j + 1) cap') (j + 1) from (HI.out).next H2.out HF.out x1 (X.out).1 (X.out).2 P1.out C1.out (by
                       have hsz := ((HI.out).ch.trans C1.out (fun _ _ h => h)).size
                       refine ((Ch.of_below (below_new w1 _) _).grown k2 (fun y hy _ => ?_))
                       have := World.ownsRow.lt ((HI.out).fresh HF.out C1.out (.cells #[.int .i64 (x : Nat)] 3)) y hy
                       omega) (fun hx => by
                       have := k1
                       rw [at0_upd hx] at this
                       obtain ⟨q1, q2⟩ := this.owns
                       refine ⟨q1, ?_⟩
                       rcases q2 with q2 | ⟨g2, cap2, cur2, q2, _, q3⟩
                       · exact .inl q2
                       · refine .inr ⟨g2, cap2, cur2, q2, ?_, q3⟩
                         injection q2 with q2
                         injection q2 with q2
                         injection q2 with q2
                         omega))
                     clear k1 k2 k3 k4)
        go_roundw
        case rel => exact ⟨j + 1, by omega, by go_num, K.out⟩
        case measure => simp [intOf]; omega
    · obtain rfl : j = n := by omega
      go_wp2
      go_ret2
      exact .inl ⟨_, rfl, hjc, (HI.out).we, (HI.out).pl, (HI.out).ch, (HI.out).own⟩
end Go.Proofs.Ytfjkomglljcfjaa
