/-
  Due, Shift.
-/
import Derived.Test.YtfiahkjaeeoepaaAE
namespace Go.Proofs.Ytfiahkjaeeoepaa
open Go.ChangeShapes Go.WideShapes Go.ChangeAt Go.RowKit Go.Sort
set_option maxRecDepth 100000
set_option linter.unusedVariables false

theorem take_more {α : Type} (l : List α) (k : Nat) (r : α) (h : l[k]? = some r) : l.take (k + 1) = l.take k ++ [r] := by
  rw [List.take_add_one, h]; rfl
/-- What Due answers. -/
def Dt (w : World) (B : Nat) (on : Nat → Bool) (tm : Nat → Nat) (now : Nat) (e : Ending) (w' : World) : Prop :=
  ∃ v, e = .returned v ∧ LsA w' w.heap.size v (upL on tm now) ∧ Mt w w' B (fun p => on p && !decide (tm p ≤ now)) tm
structure DuI (w wr : World) (B : Nat) (on : Nat → Bool) (tm : Nat → Nat) (v : Value) (L : List AL) (k : Nat) : Prop where
  ls : LsA wr w.heap.size v L
  t : Mt w wr B (setsL on (fun _ => false) (L.take k)) tm
theorem DuI.step {w wr w2 : World} {B : Nat} {on : Nat → Bool} {tm : Nat → Nat} {v : Value} {L : List AL} {k : Nat} (h : DuI w wr B on tm v L k) (hB : B < w.heap.size) {x : AL} (hx : L[k]? = some x)
    (hm : Mt wr w2 B (upd (setsL on (fun _ => false) (L.take k)) x.p false) tm) : DuI w w2 B on tm v L (k + 1) := by
  refine ⟨h.ls.kept hm.gr (fun g hg e => by injection e with e; omega), ?_⟩
  rw [take_more L k x hx, setsL_snoc]
  exact h.t.trans hm
theorem DuI.done {w wr : World} {B : Nat} {on : Nat → Bool} {tm : Nat → Nat} {v : Value} {now k : Nat} (h : DuI w wr B on tm v (upL on tm now) k) (hk : k = (upL on tm now).length) : Dt w B on tm now (.returned v) wr := by
  refine ⟨v, rfl, h.ls, ⟨h.t.m.congr (fun p hp => ?_), h.t.gr⟩⟩
  rw [hk, List.take_length]
  obtain ⟨s1, s2⟩ := setsL_at on (fun _ => false) (fun _ => false) (upL on tm now) (fun _ _ => rfl) p
  refine ⟨?_, fun _ => rfl⟩
  by_cases hy : on p = true ∧ tm p ≤ now
  · rw [s1 ⟨⟨tm p, p⟩, (up_mem on tm now _).2 ⟨hp, hy.1, hy.2, rfl⟩, rfl⟩]
    simp [hy.1, hy.2]
  · rw [s2 (fun ⟨x, hx, he⟩ => hy (by subst he; exact ⟨((up_mem on tm now _).1 hx).2.1, ((up_mem on tm now _).1 hx).2.2.1⟩))]
    cases ho : on p
    · rfl
    · simp [ho] at hy
      simp; omega
set_option maxHeartbeats 1000000 in
theorem due_in {w : World} {B : Nat} {on : Nat → Bool} {tm : Nat → Nat} (h : Mk w B on tm) (now : Nat) :
    Calls Try.prog 11 #[.pointer (some ⟨B, 0, none⟩), .int .u64 now] w (Dt w B on tm now) := by
  have H := Lib.hid (mupTo_in h now)
  have HM := Lib.hid h
  have HLT := Lib.hid h.lt
  have HUM := Lib.hid (up_mem on tm now)
  have HD := Lib.hid (fun U v k hU hk => @DuI.done w U B on tm v now k hU hk)
  have hlen : (upL on tm now).length ≤ 18 := by rw [up_len]; exact alL_len _ _ _ _
  clear h
  generalize upL on tm now = L at *
  go_enter Try.func11, Try.ntmps11
  go_wp2_with fail
  refine (H.out).mono ?_
  rintro e w1 ⟨v, rfl, h1, h2⟩
  obtain ⟨pp, cap, rfl⟩ := h1.len
  have HI : Hid (DuI w w1 B on tm (.slice pp L.length cap) L 0) := Lib.hid ⟨h1, Mt.of_below HM.out h2⟩
  clear h1 h2 H HM
  obtain ⟨n, hn⟩ : ∃ n, L.length = n := ⟨_, rfl⟩
  rw [hn] at HI hlen ⊢
  have HN := Lib.hid hn
  clear hn
  go_wp2_with fail
  go_loopw [7, 13] (fun _ i wr => ∃ k : Nat, k ≤ n ∧ i = .int .i64 k ∧ DuI w wr B on tm (.slice pp n cap) L k) (fun _ i _ => n - (intOf i).toNat)
  case atStart => exact ⟨0, by omega, rfl, HI.out⟩
  case round =>
    clear HI
    obtain ⟨k, hk, rfl, hI⟩ := hrel
    by_cases hlt : k < n
    · have z : (k : Int) < (n : Int) := by omega
      obtain ⟨x, hx⟩ : ∃ x, L[k]? = some x := ⟨_, List.getElem?_eq_getElem (by have := HN.out; omega)⟩
      have hx2 := (HUM.out x).1 (List.mem_of_getElem? hx)
      obtain ⟨g, cap', e1, e2, e3, c0, c1, c2⟩ := hI.ls.at hx
      simp only [Value.slice.injEq] at e1
      obtain ⟨rfl, e4, rfl⟩ := e1
      have hb := below_new wr (.cells #[.int .u64 x.tm, .int .i64 ((x.p / 3 : Nat) : Int), .int .i64 ((x.p % 3 : Nat) : Int)] 43)
      have HK := Lib.hid (mdrop_yes (hI.t.m.below hb) (x.p / 3) (x.p % 3) (by omega) (Nat.mod_lt _ (by omega)))
      have hp : x.p / 3 * 3 + x.p % 3 = x.p := by omega
      rw [hp] at HK
      have HI : Hid (DuI w (wr.alloc (.cells #[.int .u64 x.tm, .int .i64 ((x.p / 3 : Nat) : Int), .int .i64 ((x.p % 3 : Nat) : Int)] 43)) B on tm (.slice (some ⟨g, 0, none⟩) n cap) L k) := Lib.hid ⟨hI.ls.below hb, hI.t.below hb⟩
      have HX := Lib.hid hx
      clear hI hp hx hx2 e2 e3 e4 hb
      generalize x.p / 3 = vv at *
      generalize x.p % 3 = ss at *
      go_wp2_with fail
      refine (HK.out).mono ?_
      rintro e w3 ⟨rfl, h3⟩
      have H4 := Lib.hid ((HI.out).step HLT.out HX.out h3)
      clear h3 HK HI c0 c1 c2
      go_wp2
      go_roundw
      case rel => exact ⟨k + 1, by omega, by go_num, H4.out⟩
      case measure => simp [intOf]; omega
    · obtain rfl : k = n := by omega
      have HE := Lib.hid (HD.out _ _ _ hI HN.out.symm)
      clear hI
      go_wp2
      go_ret
      exact HE.out
structure ShI (w wr : World) (B : Nat) (on : Nat → Bool) (tm : Nat → Nat) (by_ : Nat) (v : Value) (L : List AL) (k : Nat) : Prop where
  ls : LsA wr w.heap.size v L
  t : Mt w wr B (setsL on (fun _ => true) (L.take k)) (setsL tm (fun x => laterN x.tm by_) (L.take k))
theorem ShI.step {w wr w2 : World} {B : Nat} {on : Nat → Bool} {tm : Nat → Nat} {by_ : Nat} {v : Value} {L : List AL} {k : Nat} (h : ShI w wr B on tm by_ v L k) (hB : B < w.heap.size) {x : AL} (hx : L[k]? = some x)
    (hm : Mt wr w2 B (upd (setsL on (fun _ => true) (L.take k)) x.p true) (upd (setsL tm (fun x => laterN x.tm by_) (L.take k)) x.p (laterN x.tm by_))) : ShI w w2 B on tm by_ v L (k + 1) := by
  refine ⟨h.ls.kept hm.gr (fun g hg e => by injection e with e; omega), ?_⟩
  rw [take_more L k x hx, setsL_snoc, setsL_snoc]
  exact h.t.trans hm
theorem ShI.done {w wr : World} {B : Nat} {on : Nat → Bool} {tm : Nat → Nat} {by_ : Nat} {v : Value} {k : Nat} (h : ShI w wr B on tm by_ v (upL on tm maxT) k) (hk : k = (upL on tm maxT).length) (hb : ∀ p, p < 18 → on p = true → tm p < 18446744073709551616) : Mt w wr B on (fun p => laterN (tm p) by_) := by
  refine ⟨h.t.m.congr (fun p hp => ?_), h.t.gr⟩
  rw [hk, List.take_length]
  obtain ⟨s1, s2⟩ := setsL_at on (fun _ => true) (fun _ => true) (upL on tm maxT) (fun _ _ => rfl) p
  obtain ⟨s3, s4⟩ := setsL_at tm (fun x => laterN x.tm by_) (fun p => laterN (tm p) by_) (upL on tm maxT) (fun x hx => by rw [((up_mem on tm maxT _).1 hx).2.2.2]) p
  by_cases hy : on p = true
  · have hin : ∃ x ∈ upL on tm maxT, x.p = p := ⟨⟨tm p, p⟩, (up_mem on tm maxT _).2 ⟨hp, hy, by have := hb p hp hy; unfold maxT; show tm p ≤ _; omega, rfl⟩, rfl⟩
    rw [s1 hin, s3 hin]
    exact ⟨hy.symm, fun _ => rfl⟩
  · have hout : ¬ ∃ x ∈ upL on tm maxT, x.p = p := fun ⟨x, hx, he⟩ => hy (by subst he; exact ((up_mem on tm maxT _).1 hx).2.1)
    rw [s2 hout]
    exact ⟨rfl, fun h => absurd h hy⟩
theorem held3 (wr : World) (B t v s : Nat) (T : TypeId) (hB : B < wr.heap.size) : ∀ U, ((wr.alloc (.cells #[.int .u64 t, .int .i64 v, .int .i64 s] T)).drew).grownBy U (some B) →
    U.cell? ⟨wr.heap.size, 0, none⟩ = some (.int .u64 t) ∧ U.cell? ⟨wr.heap.size, 1, none⟩ = some (.int .i64 v) ∧ U.cell? ⟨wr.heap.size, 2, none⟩ = some (.int .i64 s) := by
  intro U hU
  have hb := hU.block wr.heap.size (by show wr.heap.size < (wr.alloc _).heap.size; simp) (by intro e; injection e with e; omega)
  refine ⟨(World.cell?_of_block (a := ⟨wr.heap.size, 0, none⟩) hb).trans ?_, (World.cell?_of_block (a := ⟨wr.heap.size, 1, none⟩) hb).trans ?_, (World.cell?_of_block (a := ⟨wr.heap.size, 2, none⟩) hb).trans ?_⟩
  · show (wr.alloc _).cell? _ = _; simp
  · show (wr.alloc _).cell? _ = _; simp
  · show (wr.alloc _).cell? _ = _; simp
set_option maxHeartbeats 2000000 in
theorem shift_in {w : World} {B : Nat} {on : Nat → Bool} {tm : Nat → Nat} (h : Mk w B on tm) (by_ : Nat) (hby : by_ < 18446744073709551616) :
    Calls Try.prog 12 #[.pointer (some ⟨B, 0, none⟩), .int .u64 by_] w fun e w' => e = .returned (.tuple #[]) ∧ Mt w w' B on (fun p => laterN (tm p) by_) := by
  have hbd : ∀ p, p < 18 → on p = true → tm p < 18446744073709551616 := by
    obtain ⟨_, _, _, h2⟩ := h.ex
    exact fun p hp ho => ((h2 p hp).2 ho).2
  have H := Lib.hid (all_in h)
  have HM := Lib.hid h
  have HLT := Lib.hid h.lt
  have HUM := Lib.hid (up_mem on tm maxT)
  have HD := Lib.hid (fun U v k hU hk => @ShI.done w U B on tm by_ v k hU hk hbd)
  have HBD := Lib.hid hbd
  have hlen : (upL on tm maxT).length ≤ 18 := by rw [up_len]; exact alL_len _ _ _ _
  clear h hbd
  generalize upL on tm maxT = L at *
  go_enter Try.func12, Try.ntmps12
  go_wp2_with fail
  refine (H.out).mono ?_
  rintro e w1 ⟨v, rfl, h1, h2⟩
  obtain ⟨pp, cap, rfl⟩ := h1.len
  have HI : Hid (ShI w w1 B on tm by_ (.slice pp L.length cap) L 0) := Lib.hid ⟨h1, Mt.of_below HM.out h2⟩
  clear h1 h2 H HM
  obtain ⟨n, hn⟩ : ∃ n, L.length = n := ⟨_, rfl⟩
  rw [hn] at HI hlen ⊢
  have HN := Lib.hid hn
  clear hn
  go_wp2_with fail
  go_loopw [5, 9] (fun _ i wr => ∃ k : Nat, k ≤ n ∧ i = .int .i64 k ∧ ShI w wr B on tm by_ (.slice pp n cap) L k) (fun _ i _ => n - (intOf i).toNat)
  case atStart => exact ⟨0, by omega, rfl, HI.out⟩
  case round =>
    clear HI
    obtain ⟨k, hk, rfl, hI⟩ := hrel
    by_cases hlt : k < n
    · have z : (k : Int) < (n : Int) := by omega
      obtain ⟨x, hx⟩ : ∃ x, L[k]? = some x := ⟨_, List.getElem?_eq_getElem (by have := HN.out; omega)⟩
      have hx2 := (HUM.out x).1 (List.mem_of_getElem? hx)
      have hxt : x.tm < 18446744073709551616 := by rw [hx2.2.2.2]; exact HBD.out _ hx2.1 hx2.2.1
      obtain ⟨g, cap', e1, e2, e3, c0, c1, c2⟩ := hI.ls.at hx
      simp only [Value.slice.injEq] at e1
      obtain ⟨rfl, e4, rfl⟩ := e1
      have hb : Below wr.heap.size wr ((wr.alloc (.cells #[.int .u64 x.tm, .int .i64 ((x.p / 3 : Nat) : Int), .int .i64 ((x.p % 3 : Nat) : Int)] 43)).drew) := below_draws (below_new wr _) 1
      have HLA := Lib.hid (fun U => later_in x.tm by_ hxt hby U)
      have HK := Lib.hid (mset_yes (hI.t.m.below hb) (x.p / 3) (x.p % 3) (by omega) (Nat.mod_lt _ (by omega)) (laterN x.tm by_) (laterN_lt _ _ hxt))
      have hp : x.p / 3 * 3 + x.p % 3 = x.p := by omega
      rw [hp] at HK
      have HI : Hid (ShI w ((wr.alloc (.cells #[.int .u64 x.tm, .int .i64 ((x.p / 3 : Nat) : Int), .int .i64 ((x.p % 3 : Nat) : Int)] 43)).drew) B on tm by_ (.slice (some ⟨g, 0, none⟩) n cap) L k) := Lib.hid ⟨hI.ls.below hb, hI.t.below hb⟩
      have HX := Lib.hid hx
      have HST := Lib.hid (fun U hU => @ShI.step w _ U B on tm by_ _ L k HI.out HLT.out x hx hU)
      have HY := Lib.hid (held3 wr B x.tm (x.p / 3) (x.p % 3) 43 (by have := hI.t.m.lt; exact hI.t.m.lt))
      clear hI hp hx hx2 e2 e3 e4 hb hxt HI HX
      generalize laterN x.tm by_ = lt at *
      generalize x.p / 3 = vv at *
      generalize x.p % 3 = ss at *
      generalize x.tm = tt at *
      go_wp2_with fail
      go_region_held3 (fun w' => w'.cell? ⟨wr.heap.size, 0, none⟩ = some (.int .u64 tt) ∧ w'.cell? ⟨wr.heap.size, 1, none⟩ = some (.int .i64 vv) ∧ w'.cell? ⟨wr.heap.size, 2, none⟩ = some (.int .i64 ss))
        (first
          | go_keep)
        (first
          | (go_at_call 18; refine (HLA.out _).mono ?_; rintro e w5 ⟨rfl, rfl⟩)
          | (go_at_call 13; refine (HK.out).mono ?_; rintro e w5 ⟨rfl, h5⟩; obtain ⟨y0, y1, y2⟩ := HY.out _ h5.gr))
      have H6 := Lib.hid (HST.out _ h5)
      clear h5 HK HST HY c0 c1 c2 y0 y1 y2
      go_wp2
      go_roundw
      case rel => exact ⟨k + 1, by omega, by go_num, H6.out⟩
      case measure => simp [intOf]; omega
    · obtain rfl : k = n := by omega
      have HE := Lib.hid (HD.out _ _ _ hI HN.out.symm)
      clear hI
      go_wp2
      go_end0
      exact ⟨rfl, HE.out⟩
end Go.Proofs.Ytfiahkjaeeoepaa
