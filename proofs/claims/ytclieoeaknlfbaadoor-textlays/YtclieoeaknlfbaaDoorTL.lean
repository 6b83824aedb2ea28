/-
  Contract of package text's List.
-/
import Derived.Test.YtclieoeaknlfbaaDoorTD
import Derived.Lib.EndianBits
import Derived.Laws.AppendOwn
import Derived.OwnWalk
import Derived.Maps.AppendAt
namespace Go.Proofs.YtclieoeaknlfbaaDoor
open Go.ChangeShapes Go.WideShapes Go.ChangeAt Go.RowKit
open WM CM
set_option maxRecDepth 100000
set_option linter.unusedVariables false
set_option linter.unusedSimpArgs false
/-- Four bytes as a word, the lowest first. -/
def word4 (f : Nat → Nat) (k : Nat) : Nat := f k + f (k + 1) * 256 + f (k + 2) * 65536 + f (k + 3) * 16777216
theorem word4_lt (f : Nat → Nat) (k : Nat) (hf : ∀ i, f i < 256) : word4 f k < 4294967296 := by
  have := hf k; have := hf (k + 1); have := hf (k + 2); have := hf (k + 3)
  unfold word4; omega
/-- A word's line. -/
def lineL (x : Nat) : List UInt8 := if isW x then showL (pC x) (pA x) (pB x) (pD x) (pN x) else [63]
/-- The slice's bytes, as far as its length goes. -/
def BytesAt (w : World) (a : Option Addr) (len : Nat) (f : Nat → Nat) : Prop :=
  ∀ i, i < len → ∃ b off, a = some ⟨b, off, none⟩ ∧ w.cell? ⟨b, off + i, none⟩ = some (.int .u8 (f i : Nat))
theorem BytesAt.kept {w w' : World} {a : Option Addr} {len : Nat} {f : Nat → Nat} (h : BytesAt w a len f) (hb : Below w.heap.size w w') : BytesAt w' a len f := by
  intro i hi
  obtain ⟨b, off, ha, hc⟩ := h i hi
  exact ⟨b, off, ha, (hb.cell (World.block_lt_of_cell? _ _ hc)).trans hc⟩
def linesV (f : Nat → Nat) (k : Nat) : List Value := (List.range k).map fun j => Value.string (str (lineL (word4 f (4 * j))))
theorem linesV_next (f : Nat → Nat) (k : Nat) : linesV f k ++ [.string (str (lineL (word4 f (4 * k))))] = linesV f (k + 1) := by
  unfold linesV; rw [List.range_succ, List.map_append]; rfl
/-- What stands behind k rounds. -/
structure LI (w wr : World) (a A : Option Addr) (c n k : Nat) (f : Nat → Nat) (v : Value) : Prop where
  pl : 0 < n - 4 * k → ∃ b o, a = some ⟨b, o, none⟩ ∧ A = some ⟨b, o + 4 * k, none⟩
  own : wr.ownsRow w.heap.size 9 1 v k (linesV f k)
  bel : Below w.heap.size w wr
  le : n - 4 * k ≤ c
theorem or4 (x0 x1 x2 x3 : Nat) (h0 : x0 < 256) (h1 : x1 < 256) (h2 : x2 < 256) (h3 : x3 < 256) :
    bits .or .u32 (bits .or .u32 (bits .or .u32 (x0 : Int) ((x1 : Int) * 256)) ((x2 : Int) * 65536)) ((x3 : Int) * 16777216) = ((x0 + x1 * 256 + x2 * 65536 + x3 * 16777216 : Nat) : Int) := by
  rw [Go.u32_or8 (x0 : Int) ((x1 : Int) * 256) (by omega) (by omega) (by omega) (by omega) (by omega), Go.u32_or16 ((x0 : Int) + (x1 : Int) * 256) ((x2 : Int) * 65536) (by omega) (by omega) (by omega) (by omega) (by omega), Go.u32_or24 ((x0 : Int) + (x1 : Int) * 256 + (x2 : Int) * 65536) ((x3 : Int) * 16777216) (by omega) (by omega) (by omega) (by omega) (by omega)]
  omega
def lenV : Value → Nat
  | .slice _ m _ => m
  | _ => 0
theorem und35 : Tryd.prog.underlying 36 = some (.slice 9) := by kernel_rfl
theorem own_below {w w' : World} {base e n : Nat} {v : Value} {xs : List Value} (h : w.ownsRow base e 1 v n xs) (hb : Below w.heap.size w w') : w'.ownsRow base e 1 v n xs :=
  World.ownsRow.kept h (row := none) ⟨hb.os, hb.tape, hb.output, hb.size, fun k hk _ => hb.block k hk⟩ (by cases v.ownBlock <;> simp)
theorem one_str (W : World) (y : ByteArray) : ∀ (j : Nat) (u : Value), [Value.string y][j]? = some u → (W.alloc (.cells #[.string y] 9)).cell? ((⟨W.heap.size, 0, none⟩ : Addr).add j) = some u := by
  intro j u hj
  rcases j with _ | j
  · simp at hj
    subst hj
    have h := heap_alloc_new W (.cells #[.string y] 9)
    show (W.alloc (.cells #[.string y] 9)).cell? ⟨W.heap.size, 0, none⟩ = some (.string y)
    simp only [World.cell?, h]
    rfl
  · simp at hj
theorem infoS : (Tryd.prog.info? 9).map (fun i => (i.zero, i.size, i.bytes)) = some (some (.string ⟨#[]⟩), 1, 16) := by kernel_rfl
theorem one_str2 (W : World) (o : Obj) (y : ByteArray) : ∀ (j : Nat) (u : Value), [Value.string y][j]? = some u → ((W.alloc o).alloc (.cells #[.string y] 9)).cell? ((⟨W.heap.size + 1, 0, none⟩ : Addr).add j) = some u := by
  intro j u hj
  rcases j with _ | j
  · simp at hj
    subst hj
    have h := heap_alloc_new (W.alloc o) (.cells #[.string y] 9)
    rw [show (W.alloc o).heap.size = W.heap.size + 1 by simp] at h
    show ((W.alloc o).alloc (.cells #[.string y] 9)).cell? ⟨W.heap.size + 1, 0, none⟩ = some (.string y)
    simp only [World.cell?, h]
    rfl
  · simp at hj
set_option maxHeartbeats 4000000 in
theorem list_in (a : Option Addr) (n cap : Nat) (f : Nat → Nat) (w : World) (hb : BytesAt w a n f) (hf : ∀ i, f i < 256) (hc : n ≤ cap) (hn : n ≤ 1000) (hT : TW w) :
    Calls Tryd.prog 9 #[.slice a n cap] w fun e w' => ∃ v, e = .returned v ∧ w'.ownsRow w.heap.size 9 1 v (n / 4) (linesV f (n / 4)) ∧ Below w.heap.size w w' := by
  have H0 : Hid (LI w w a a cap n 0 f (.slice none 0 0)) := Lib.hid ⟨fun h => by
    obtain ⟨b, o, e, _⟩ := hb 0 (by omega)
    exact ⟨b, o, e, by simpa using e⟩, World.ownsRow_nil _ _ _ _, Below.refl _ _, by omega⟩
  have HB := Lib.hid hb
  have HF := Lib.hid hf
  have HT := Lib.hid hT
  clear hb hf hT
  go_enter Tryd.func9, Tryd.ntmps9
  go_wp2_with fail
  go_loopw [0, 3] (fun p v wr => ∃ (k : Nat) (A : Option Addr) (c : Nat), 4 * k ≤ n ∧ p = .slice A (n - 4 * k) c ∧ LI w wr a A c n k f v) (fun p _ _ => lenV p)
  case atStart => exact ⟨0, a, cap, by omega, by simp, H0.out⟩
  case round =>
    obtain ⟨k, A, c, hk, rfl, HL⟩ := hrel
    have HL' := Lib.hid HL
    have hcc := HL.le
    clear HL H0
    by_cases hlt : 4 * k + 4 ≤ n
    · obtain ⟨b, o, rfl, rfl⟩ := (HL'.out).pl (by omega)
      have cc : ∀ j, j < 4 → wr.cell? ⟨b, o + 4 * k + j, none⟩ = some (Value.int .u8 (f (4 * k + j) : Nat)) := fun j hj => by
        obtain ⟨b', o', e, hcl⟩ := (HB.out).kept (HL'.out).bel (4 * k + j) (by omega)
        injection e with e
        injection e with e1 e2
        subst e1 e2
        rw [Nat.add_assoc]; exact hcl
      have c0 := cc 0 (by decide)
      have c1 := cc 1 (by decide)
      have c2 := cc 2 (by decide)
      have c3 := cc 3 (by decide)
      simp only [Nat.add_zero] at c0
      obtain ⟨m, hm⟩ : ∃ m, n - 4 * k = m + 4 := ⟨n - 4 * k - 4, by omega⟩
      rw [hm] at hcc ⊢
      have HM := Lib.hid hm
      clear hm cc
      have q0 := HF.out (4 * k)
      have q1 := HF.out (4 * k + 1)
      have q2 := HF.out (4 * k + 2)
      have q3 := HF.out (4 * k + 3)
      have hX := word4_lt f (4 * k) HF.out
      have hW : word4 f (4 * k) = f (4 * k) + f (4 * k + 1) * 256 + f (4 * k + 2) * 65536 + f (4 * k + 3) * 16777216 := rfl
      obtain ⟨x0, hx0⟩ : ∃ x, f (4 * k) = x := ⟨_, rfl⟩
      obtain ⟨x1, hx1⟩ : ∃ x, f (4 * k + 1) = x := ⟨_, rfl⟩
      obtain ⟨x2, hx2⟩ : ∃ x, f (4 * k + 2) = x := ⟨_, rfl⟩
      obtain ⟨x3, hx3⟩ : ∃ x, f (4 * k + 3) = x := ⟨_, rfl⟩
      rw [hx0, hx1, hx2, hx3] at hW
      rw [hx0] at q0 c0
      rw [hx1] at q1 c1
      rw [hx2] at q2 c2
      rw [hx3] at q3 c3
      have HE := Lib.hid ((or4 x0 x1 x2 x3 q0 q1 q2 q3).trans (congrArg (fun x : Nat => (x : Int)) hW.symm))
      clear hx0 hx1 hx2 hx3 hW
      go_wp2_with fail
      go_quiet (fail)
      rw [HE.out]
      obtain ⟨y, hy⟩ : ∃ y, str (lineL (word4 f (4 * k))) = y := ⟨_, rfl⟩
      have HY := Lib.hid hy
      have hyl : lineL (word4 f (4 * k)) = if isW (word4 f (4 * k)) then showL (pC (word4 f (4 * k))) (pA (word4 f (4 * k))) (pB (word4 f (4 * k))) (pD (word4 f (4 * k))) (pN (word4 f (4 * k))) else [63] := rfl
      rw [hyl] at hy
      clear hyl HE
      obtain ⟨X, hXX⟩ : ∃ X, word4 f (4 * k) = X := ⟨_, rfl⟩
      rw [hXX] at hX hy ⊢
      clear hXX
      have b5 : Below w.heap.size w (wr.drewN nq) := below_draws (HL'.out).bel nq
      cases hi : isW X
      · have HD := Lib.hid (decode_no X (wr.drewN nq) hX hi)
        rw [hi] at hy
        have hy' : y = ⟨#[63]⟩ := hy.symm
        clear hy hi
        unfold opV at HD
        go_wp2_with fail
        refine (HD.out).mono ?_
        rintro e w5 ⟨rfl, b5'⟩
        have b5 : Below w.heap.size w w5 := below_up b5 b5'
        have HO5 := Lib.hid (own_below (v := u3) (show (wr.drewN nq).ownsRow w.heap.size 9 1 u3 k (linesV f k) from (HL'.out).own) b5')
        have HO6 := Lib.hid (World.ownsRow.alloc (HO5.out) (.cells #[.int .u8 0, .int .u8 0, .int .u8 0, .int .u8 0, .int .i16 0] 27))
        have b6 := below_more b5 (.cells #[.int .u8 0, .int .u8 0, .int .u8 0, .int .u8 0, .int .i16 0] 27)
        clear b5' HL' HD
        subst hy'
        by_cases hc4 : c = 4
        · subst hc4
          obtain ⟨i0, hi0, hz0, hz1, hz2⟩ := info_parts infoS
          go_wp2_with (at_builtin
                       refine wpList_append_own _ rfl (.tmp 43) (.tmp 45) _ rfl w.heap.size 9 i0 (.string ⟨#[]⟩) 1 16 und35 hi0 hz0 hz1 hz2 rfl (by omega) u3 k (linesV f k) rfl
                         (World.ownsRow.alloc (HO6.out) _) ⟨w5.heap.size + 1, 0, none⟩ 1 1 [.string ⟨#[63]⟩] rfl rfl (one_str2 w5 _ ⟨#[63]⟩) (by simp [Value.oneCell']) (by unfold maxLen; omega) (by omega) (by have := b6.size; have := b5.size; simp; omega) ?_
                       intro v7 w7 ho7 hg7 hat7
                       rw [← HY.out, linesV_next] at ho7
                       have b7 := (below_more b6 _).grown hg7 (below_more b6 _).size (fun j hj => by have := (World.ownsRow.lt (HO6.out) j hj).1; omega)
                       have HO7 := Lib.hid ho7
                       clear ho7 hg7 hat7 hi0 hz0 hz1 hz2)
          go_roundw
          case rel =>
            have hm := HM.out
            exact ⟨k + 1, some ⟨b, o + 4 * k, none⟩, 0, by omega, by rw [show n - 4 * (k + 1) = 0 by omega], ⟨fun h => by omega, HO7.out, b7, by omega⟩⟩
          case measure => show 0 < m + 4; omega
        · have hc5 : ¬ c ≤ 4 ∨ c < 4 := by omega
          obtain ⟨i0, hi0, hz0, hz1, hz2⟩ := info_parts infoS
          go_wp2_with (at_builtin
                       refine wpList_append_own _ rfl (.tmp 43) (.tmp 45) _ rfl w.heap.size 9 i0 (.string ⟨#[]⟩) 1 16 und35 hi0 hz0 hz1 hz2 rfl (by omega) u3 k (linesV f k) rfl
                         (World.ownsRow.alloc (HO6.out) _) ⟨w5.heap.size + 1, 0, none⟩ 1 1 [.string ⟨#[63]⟩] rfl rfl (one_str2 w5 _ ⟨#[63]⟩) (by simp [Value.oneCell']) (by unfold maxLen; omega) (by omega) (by have := b6.size; have := b5.size; simp; omega) ?_
                       intro v7 w7 ho7 hg7 hat7
                       rw [← HY.out, linesV_next] at ho7
                       have b7 := (below_more b6 _).grown hg7 (below_more b6 _).size (fun j hj => by have := (World.ownsRow.lt (HO6.out) j hj).1; omega)
                       have HO7 := Lib.hid ho7
                       clear ho7 hg7 hat7 hi0 hz0 hz1 hz2)
          go_roundw
          case rel =>
            have hm := HM.out
            exact ⟨k + 1, some ⟨b, o + 4 * k + 4, none⟩, c - 4, by omega, by rw [show n - 4 * (k + 1) = m by omega], ⟨fun h => ⟨b, o, rfl, rfl⟩, HO7.out, b7, by omega⟩⟩
          case measure => show m < m + 4; omega
      · have HD := Lib.hid (decode_yes X (wr.drewN nq) hX hi)
        rw [hi] at hy
        have hr : rightB (pC X) (pA X) (pB X) (pD X) (pN X) = true := by
          unfold isW at hi
          simp only [Bool.and_eq_true] at hi
          exact hi.1
        have hpn : -32768 ≤ pN X ∧ pN X ≤ 32767 := by
          unfold pN sgn
          split
          · omega
          · split <;> omega
        have HS := Lib.hid (fun V hV => show_in (pC X) (pA X) (pB X) (pD X) (pN X) V hpn hr hV)
        have hy' : str (showL (pC X) (pA X) (pB X) (pD X) (pN X)) = y := hy
        rw [hy'] at HS
        clear hy hi hr hpn hy'
        unfold opV at HD HS
        generalize pC X = pc at *
        generalize pA X = pa at *
        generalize pB X = pb at *
        generalize pD X = pd at *
        generalize pN X = pn at *
        go_wp2_with fail
        refine (HD.out).mono ?_
        rintro e w5 ⟨rfl, b5'⟩
        have b5 : Below w.heap.size w w5 := below_up b5 b5'
        have HO5 := Lib.hid (own_below (v := u3) (show (wr.drewN nq).ownsRow w.heap.size 9 1 u3 k (linesV f k) from (HL'.out).own) b5')
        have HO5' := Lib.hid (World.ownsRow.alloc (HO5.out) (.cells #[.int .u8 pc, .int .u8 pa, .int .u8 pb, .int .u8 pd, .int .i16 pn] 27))
        have b5a := below_more b5 (.cells #[.int .u8 pc, .int .u8 pa, .int .u8 pb, .int .u8 pd, .int .i16 pn] 27)
        have LO := lies_new w5 pc pa pb pd pn 27
        obtain ⟨k0, k1, k2, k3, k4, kl, kf⟩ := LO
        clear b5' HL' HD
        go_wp2_with fail
        refine (HS.out _ ((HT.out).later b5a)).mono ?_
        rintro e w6 ⟨rfl, b6'⟩
        have b6 := below_up b5a b6'
        have HO6 := Lib.hid (own_below (HO5'.out) b6')
        clear b6' k0 k1 k2 k3 k4 kl kf HO5 HO5'
        by_cases hc4 : c = 4
        · subst hc4
          obtain ⟨i0, hi0, hz0, hz1, hz2⟩ := info_parts infoS
          go_wp2_with (at_builtin
                       refine wpList_append_own _ rfl (.tmp 43) (.tmp 45) _ rfl w.heap.size 9 i0 (.string ⟨#[]⟩) 1 16 und35 hi0 hz0 hz1 hz2 rfl (by omega) u3 k (linesV f k) rfl
                         (World.ownsRow.alloc (HO6.out) _) ⟨w6.heap.size, 0, none⟩ 1 1 [.string y] rfl rfl (one_str w6 y) (by simp [Value.oneCell']) (by unfold maxLen; omega) (by omega) (by have := b6.size; have := b5.size; simp; omega) ?_
                       intro v7 w7 ho7 hg7 hat7
                       rw [← HY.out, linesV_next] at ho7
                       have b7 := (below_more b6 _).grown hg7 (below_more b6 _).size (fun j hj => by have := (World.ownsRow.lt (HO6.out) j hj).1; omega)
                       have HO7 := Lib.hid ho7
                       clear ho7 hg7 hat7 hi0 hz0 hz1 hz2)
          go_roundw
          case rel =>
            have hm := HM.out
            exact ⟨k + 1, some ⟨b, o + 4 * k, none⟩, 0, by omega, by rw [show n - 4 * (k + 1) = 0 by omega], ⟨fun h => by omega, HO7.out, b7, by omega⟩⟩
          case measure => show 0 < m + 4; omega
        · have hc5 : ¬ c ≤ 4 ∨ c < 4 := by omega
          obtain ⟨i0, hi0, hz0, hz1, hz2⟩ := info_parts infoS
          go_wp2_with (at_builtin
                       refine wpList_append_own _ rfl (.tmp 43) (.tmp 45) _ rfl w.heap.size 9 i0 (.string ⟨#[]⟩) 1 16 und35 hi0 hz0 hz1 hz2 rfl (by omega) u3 k (linesV f k) rfl
                         (World.ownsRow.alloc (HO6.out) _) ⟨w6.heap.size, 0, none⟩ 1 1 [.string y] rfl rfl (one_str w6 y) (by simp [Value.oneCell']) (by unfold maxLen; omega) (by omega) (by have := b6.size; have := b5.size; simp; omega) ?_
                       intro v7 w7 ho7 hg7 hat7
                       rw [← HY.out, linesV_next] at ho7
                       have b7 := (below_more b6 _).grown hg7 (below_more b6 _).size (fun j hj => by have := (World.ownsRow.lt (HO6.out) j hj).1; omega)
                       have HO7 := Lib.hid ho7
                       clear ho7 hg7 hat7 hi0 hz0 hz1 hz2)
          go_roundw
          case rel =>
            have hm := HM.out
            exact ⟨k + 1, some ⟨b, o + 4 * k + 4, none⟩, c - 4, by omega, by rw [show n - 4 * (k + 1) = m by omega], ⟨fun h => ⟨b, o, rfl, rfl⟩, HO7.out, b7, by omega⟩⟩
          case measure => show m < m + 4; omega
    · have hk4 : n / 4 = k := by omega
      have HK := Lib.hid hk4
      have hlt' : ¬ (4 : Int) ≤ ((n - 4 * k : Nat) : Int) := by omega
      obtain ⟨m, hm⟩ : ∃ m, n - 4 * k = m := ⟨_, rfl⟩
      rw [hm] at hlt' ⊢
      clear hm hk4 hlt
      go_wp2
      go_ret
      refine ⟨u3, rfl, ?_, (HL'.out).bel⟩
      rw [HK.out]; exact (HL'.out).own
end Go.Proofs.YtclieoeaknlfbaaDoor
