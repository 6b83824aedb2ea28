/-
  PROVED: for every list of words l the law StoreWords returns true: all words of a frame, and its bytes, the lowest first; and l reads as it did.
-/
import Derived.Test.YthgopodjplpefaaRows
import Derived.Test.YthgopodjplpefaaWM
import Derived.Test.YthgopodjplpefaaWC
import Derived.Test.YthgopodjplpefaaWB
import Derived.Test.YthgopodjplpefaaLT
import Derived.Test.YthgopodjplpefaaSM
import Derived.Test.YthgopodjplpefaaSC
import Derived.Test.YthgopodjplpefaaSD
import Derived.WalkKit
import Derived.ProofKit
import Derived.OpenShut
import Derived.ShutString
import Derived.ChangeOld
import Derived.Below
import Derived.Deep.Cut
namespace Go.Proofs.Ythgopodjplpefaa.storeWords
open Go.Proofs.Ythgopodjplpefaa Go.Proofs.Ythgopodjplpefaa.WM
open Go.ChangeShapes Go.WideShapes Go.ChangeAt Go.RowKit
open Go.ChangeMaps (open_string shut_string)
set_option linter.unusedVariables false

theorem own : ownKnob Try.prog.godebug = none := by kernel_rfl
theorem laidOut : laidOutB Try.prog = true := by kernel_rfl
/-- What the walk is told of a slice of integers that came in: it is nil, or it leads to a row of as many cells as its capacity says. -/
def IsRow (k : IntKind) (w : World) (a : Option Addr) (len cap : Nat) (zs : List Int) : Prop :=
  (a = none ∧ len = 0 ∧ cap = 0 ∧ zs = []) ∨
  ∃ x, a = some x ∧ len ≤ cap ∧ cap ≤ maxLen ∧ zs.length = cap ∧ (∀ i, i < zs.length → w.cell? (x.add i) = some (.int k (zs.getD i 0))) ∧ ∀ n ∈ zs, (Lit.int k n).wf = true
/-- The slice's words, as far as its length goes. -/
def WordsAt (w : World) (a : Option Addr) (len : Nat) (x : Nat → Nat) : Prop := ∀ i, i < len → ∃ b off, a = some ⟨b, off, none⟩ ∧ b < w.heap.size ∧ w.cell? ⟨b, off + i, none⟩ = some (.int .u64 (x i : Nat))
theorem WordsAt.kept {w w' : World} {a : Option Addr} {len : Nat} {x : Nat → Nat} (h : WordsAt w a len x) (hb : Below w.heap.size w w') : WordsAt w' a len x := fun i hi => by
  obtain ⟨b, off, ha, hl, hc⟩ := h i hi
  exact ⟨b, off, ha, by have := hb.size; omega, (hb.cell hl).trans hc⟩
theorem IsRow.words {w : World} {a : Option Addr} {len cap : Nat} {zs : List Int} (h : IsRow .u64 w a len cap zs) : len ≤ maxLen ∧ ∃ f : Nat → Nat, WordsAt w a len f ∧ (∀ i, f i < 18446744073709551616) := by
  rcases h with ⟨rfl, rfl, rfl, rfl⟩ | ⟨y, rfl, hl, hm, hz, hcell, hwz⟩
  · exact ⟨by omega, fun _ => 0, fun i hi => by omega, fun _ => (by decide : (0 : Nat) < 18446744073709551616)⟩
  · have key : ∀ i, i < len → ∃ n : Nat, zs.getD i 0 = n ∧ n < 18446744073709551616 := fun i hi =>
      of_u64 (hwz (zs.getD i 0) (by simp [List.getD_eq_getElem?_getD, List.getElem?_eq_getElem (show i < zs.length by omega)]))
    refine ⟨by omega, fun i => (zs.getD i 0).toNat % 18446744073709551616, fun i hi => ?_, fun i => Nat.mod_lt _ (by omega)⟩
    obtain ⟨b, off, spot⟩ := y
    have hc := hcell i (by omega)
    have hspot : spot = none := by simpa [Addr.add] using World.cell?_spot (hcell 0 (by omega))
    subst hspot
    obtain ⟨n, en, hn⟩ := key i hi
    have hc2 : w.cell? ⟨b, off + i, none⟩ = some (.int .u64 (((zs.getD i 0).toNat % 18446744073709551616 : Nat) : Int)) := by
      rw [en] at hc
      rw [en, Int.toNat_natCast, Nat.mod_eq_of_lt hn, ← hc]
      unfold Addr.add
      split <;> simp_all
    exact ⟨b, off, rfl, World.block_lt_of_cell? _ _ hc2, hc2⟩

/-! ### the walk -/
set_option maxRecDepth 100000
/-- The bytes of the words x, one word behind another. -/
def flat (x : Nat → Nat) : Nat → Nat := fun i => byteN (x (i / 8)) (i % 8)
/-- The first k of them, then noughts. -/
def head (x : Nat → Nat) (k : Nat) : Nat → Nat := fun i => if i < 8 * k then flat x i else 0
theorem flat_lt (x : Nat → Nat) (i : Nat) : flat x i < 256 := byteN_lt _ _
theorem head_step (x : Nat → Nat) (k : Nat) : putF (head x k) (0 * 256 + k * 8) 8 (byteN (x k)) = head x (k + 1) := by
  funext i
  unfold putF head flat
  by_cases c : 0 * 256 + k * 8 ≤ i ∧ i < 0 * 256 + k * 8 + 8
  · rw [if_pos c, if_pos (by omega), show i / 8 = k by omega]; congr 1; omega
  · rw [if_neg c]
    by_cases d : i < 8 * k
    · rw [if_pos d, if_pos (by omega)]
    · rw [if_neg d, if_neg (by omega)]
theorem flat_step (x : Nat → Nat) (k : Nat) (i : Nat) (hi : i < 8 * k + 8) : putF (flat x) (8 * k) 8 (byteN (x k)) i = flat x i := by
  unfold putF flat
  by_cases c : 8 * k ≤ i ∧ i < 8 * k + 8
  · rw [if_pos c, show i / 8 = k by omega]; congr 1; omega
  · rw [if_neg c]
theorem head_word (x : Nat → Nat) (n k : Nat) (hk : k < n) (hx : x k < 18446744073709551616) : ofN (fun j => head x n (0 * 256 + k * 8 + j)) 8 = x k := by
  have key : ∀ j, j < 8 → head x n (0 * 256 + k * 8 + j) = byteN (x k) j := by
    intro j hj
    unfold head flat
    rw [if_pos (by omega), show (0 * 256 + k * 8 + j) / 8 = k by omega, show (0 * 256 + k * 8 + j) % 8 = j by omega]
  refine Eq.trans ?_ (ofN_bytes (x k) hx)
  simp only [ofN]
  rw [key 0 (by omega), key 1 (by omega), key 2 (by omega), key 3 (by omega), key 4 (by omega), key 5 (by omega), key 6 (by omega), key 7 (by omega)]
theorem own_congr {w : World} {base n : Nat} {v : Value} {f g : Nat → Nat} (h : Own w base v n f) (he : ∀ i, i < n → f i = g i) : Own w base v n g := by
  unfold Own at h ⊢; rw [← rowV_congr f g n he]; exact h
/-- What stands behind k rounds of the first loop. -/
structure L1 (w wr : World) (B s g : Nat) (x : Nat → Nat) (v : Value) (k : Nat) : Prop where
  st : St wr s g 1 (head x k)
  own : Own wr B v (8 * k) (flat x)
  bel : Below w.heap.size w wr
  sz : B ≤ wr.heap.size
set_option maxHeartbeats 2000000 in
theorem words (a : Option Addr) (len cap : Nat) (x : Nat → Nat) (w : World) (hb : WordsAt w a len x) (hx : ∀ i, x i < 18446744073709551616) (hlen : len ≤ 32) :
    Calls Try.prog 7 #[.slice a len cap] w fun e w' => e = .returned (.bool true) ∧ Below w.heap.size w w' := by
  have HB := Lib.hid hb
  have HX := Lib.hid hx
  clear hb hx
  go_enter Try.func7, Try.ntmps7
  go_wp2_with fail
  refine (awake4_in _).mono ?_
  rintro e w1 ⟨rfl, b1⟩
  go_wp2_with fail
  refine (new_in 1 (by omega) _).mono ?_
  rintro e w2 ⟨rfl, h1, h2⟩
  have b2 := below_up b1 (below_of_grown h2)
  obtain ⟨s, hs⟩ : ∃ s, w1.heap.size + 1 = s := ⟨_, rfl⟩
  obtain ⟨g, hg⟩ : ∃ g, w1.heap.size = g := ⟨_, rfl⟩
  rw [hs, hg, show clampN 1 = 1 by unfold clampN; omega] at h1
  have hg1 : w.heap.size ≤ g := by rw [← hg]; exact b1.size
  have hsl := h1.lt
  have hgl := h1.row.lt
  rw [hs]
  have HL0 : Hid (L1 w w2 w2.heap.size s g x (.slice none 0 0) 0) := Lib.hid ⟨by
    have e : head x 0 = fun _ => 0 := by funext i; unfold head; rw [if_neg (by omega)]
    rw [e]; exact h1, Own.nil _ _ _, b2, Nat.le_refl _⟩
  obtain ⟨B, hB⟩ : ∃ B, w2.heap.size = B := ⟨_, rfl⟩
  rw [hB] at HL0 hsl hgl
  clear h1 h2 hs hg b1 b2 hB
  go_wp2_with fail
  go_loopw [4, 5] (fun v i wr => ∃ k : Nat, k ≤ len ∧ i = .int .i64 k ∧ L1 w wr B s g x v k) (fun _ i _ => len - (intOf i).toNat)
  case atStart => exact ⟨0, by omega, rfl, HL0.out⟩
  case round =>
    obtain ⟨k, hk, rfl, HL⟩ := hrel
    have HL' := Lib.hid HL
    clear HL HL0
    by_cases hlt : k < len
    · obtain ⟨b, off, rfl, hbl, hc⟩ := (HB.out).kept (HL'.out).bel k hlt
      go_wp2_with fail
      refine (save_ok (HL'.out).st 0 k (x k) (by decide) (by omega)).mono ?_
      rintro e w5 ⟨rfl, h5, hg5⟩
      rw [head_step] at h5
      have HS5 := Lib.hid h5
      have HO5 := Lib.hid (((HL'.out).own).kept hg5 (.inr (fun e => by have := (World.ownsRow.lt (HL'.out).own g e).1; omega)))
      have b5 := ((HL'.out).bel).grown hg5 ((HL'.out).bel).size (fun j hj => by injection hj with hj; omega)
      have z5 : B ≤ w5.heap.size := by have := hg5.size; have := (HL'.out).sz; omega
      have hc5 : w5.cell? ⟨b, off + k, none⟩ = some (.int .u64 (x k : Nat)) := by
        obtain ⟨b', off', e, _, hc'⟩ := (HB.out).kept b5 k hlt
        injection e with e
        injection e with e1 e2
        subst e1 e2
        exact hc'
      clear h5 hg5 hc HL'
      go_wp2_with fail
      refine (bytes_in (x k) w5).mono ?_
      rintro e w6 ⟨rfl, rfl⟩
      go_wp2_with (at_builtin
                   refine wpList_app8 rfl (.tmp 34) (.tmp 39) rfl B _ (8 * k) (flat x) rfl (World.ownsRow.alloc (HO5.out) _) (some ⟨w5.heap.size, 0, none⟩) 8 8 (byteN (x k)) rfl (bytes_at (x k) w5) (by decide) (by omega) (by simp; omega) ?_
                   intro v7 w7 ho7 hg7 hat7
                   have HL7 : Hid (L1 w w7 B s g x v7 (k + 1)) := Lib.hid ⟨
                     ((HS5.out).below (below_new w5 _)).kept hg7 (fun e => by have := (World.ownsRow.lt (HO5.out) s e.symm).1; omega) (fun e => by have := (World.ownsRow.lt (HO5.out) g e.symm).1; omega),
                     own_congr ho7 (fun i hi => flat_step x k i hi),
                     (below_more b5 _).grown hg7 (below_more b5 _).size (fun j hj => by have := (World.ownsRow.lt (HO5.out) j hj).1; omega),
                     by have := hg7.size; simp at this; omega⟩
                   clear ho7 hg7 hat7)
      go_roundw
      case rel => exact ⟨k + 1, by omega, by go_num, HL7.out⟩
      case measure => simp [intOf]; omega
    · obtain rfl : k = len := by omega
      obtain ⟨A, cv, rfl, hby⟩ := ((HL'.out).own).form
      have HBY := Lib.hid hby
      clear hby hlt
      go_wp2_with fail
      go_loop [6] (fun i => ∃ j : Nat, j ≤ k ∧ i = .int .i64 j) (fun i => k - (intOf i).toNat)
      case atStart => exact ⟨0, by omega, rfl⟩
      case round =>
        obtain ⟨j, hj, rfl⟩ := hrel
        by_cases hlt : j < k
        · obtain ⟨b, off, rfl, hbl, hc⟩ := (HB.out).kept (HL'.out).bel j hlt
          have hld := load_ok (HL'.out).st 0 j (by decide) (by omega)
          rw [head_word x k j hlt (HX.out j)] at hld
          have HLD := Lib.hid hld
          clear hld
          go_wp2_with fail
          refine (HLD.out).mono ?_
          rintro e w9 ⟨rfl, rfl⟩
          go_wp2
          go_round
          case rel => exact ⟨j + 1, by omega, by go_num⟩
          case measure => simp [intOf]; omega
        · go_wp2_with fail
          refine (read_ok (HL'.out).st 0 0 (8 * k : Nat) (by unfold PartOk; omega)).mono ?_
          rintro e w9 ⟨rfl, h9, b9⟩
          rw [Int.toNat_natCast] at h9
          have cv1 := conv_at (h9.bytes0 (8 * k) (Nat.le_refl _)) (8 * k)
          rw [strF_congr _ (flat x) (8 * k) (fun i hi => by unfold head; rw [if_pos (by simp; omega)]; congr 1; simp)] at cv1
          have cv2 := conv_at ((HBY.out).kept b9) cv
          have b10 := below_up (HL'.out).bel b9
          clear h9 b9
          go_wp2
          go_ret
          exact ⟨rfl, b10⟩
theorem walk (p_l : Option Addr) (p_l_len p_l_cap : Nat) (p_l_z : List Int) (w : World) (hp_l : IsRow .u64 w p_l p_l_len p_l_cap p_l_z) :
    Calls Try.prog 7 #[.slice p_l p_l_len p_l_cap] w fun e w' => e = .returned (.bool true) ∧ Below w.heap.size w w' := by
  obtain ⟨hm, x, hb, hx⟩ := IsRow.words hp_l
  clear hp_l
  unfold maxLen at hm
  by_cases h1 : p_l_len ≤ 32
  · exact words p_l p_l_len p_l_cap x w hb hx h1
  · go_enter Try.func7, Try.ntmps7
    go_wp2_with fail
    refine (awake4_in _).mono ?_
    rintro e w1 ⟨rfl, b1⟩
    go_wp2_with fail
    refine (awake4_in _).mono ?_
    rintro e w2 ⟨rfl, b2⟩
    go_wp2
    go_ret
    exact ⟨rfl, below_up b1 b2⟩

/-! ### the row's step -/
set_option maxRecDepth 100000 in
theorem lifted (os : Os) (started : os.Started) (H : Type) (enc : TypeId × Value → H) :
    ReturnsInHanded {} Try.checked os 7 .any (Rows.storeWordsSpec.pre6 enc Try.prog Try.f7 Rows.storeWordsRow.domain false) (Rows.storeWordsSpec.post enc Try.prog Try.f7 false true false false) := by
  refine returnsInHanded_of_change (C := Try.checked) own started (by kernel_rfl) Try.func7
    (ChangeSpec.witness6 (enc := enc) (C := Try.checked) false ⟨#[], #[.slice none 0 0], []⟩ 8 (by kernel_rfl) (by kernel_rfl) (by kernel_rfl) (by kernel_rfl)) ?_
  intro W base args ds gs before hval0 hW hcnd _
  have hval : ∀ (j : Nat) t v, Try.f7.params[j]? = some t → args[j]? = some v → Value.okWide Try.prog W .any base t v := hval0
  have hW' := hW
  obtain ⟨p, q, hA0, hV, rfl, hfz, hnd⟩ := hW
  have hA : DataW.TrodAll enc Try.prog W 0 (fun _ => true) true Try.f7.params.toList args.toList ds p := hA0
  rw [Try.params7] at hA hval
  obtain ⟨v0, vs0, d0, ds0, p0, q0, hargs, rfl, rfl, h0, r0⟩ := trodAll_cons hA
  obtain ⟨rfl, rfl, rfl⟩ := trodAll_nil r0
  obtain rfl : args = #[v0] := by cases args; simp_all
  obtain ⟨rfl, rfl⟩ := trodVars_none hV
  obtain ⟨a0, len0, cap0, rfl⟩ := okWide_slice Try.underlying49 (hval 0 49 v0 rfl rfl)
  have k0 := h0
  have lt0 : ∀ x ∈ p0, x.block < W.heap.size := by obtain ⟨m, hm⟩ := k0; exact DataW.trod_lt m _ _ _ hm
  obtain ⟨z0, w0⟩ : ∃ zs, IsRow .u64 W a0 len0 cap0 zs := by
    obtain ⟨fuel, hf⟩ := h0
    rcases open_ints Try.underlying49 Try.underlying28 (by kernel_rfl) hf with ⟨hcs, _⟩ | ⟨x, l, c, zs, hcs, _, hl, hm, hz, _, hcell, hwz⟩
    · simp [Value.cells] at hcs
      obtain ⟨rfl, rfl, rfl⟩ := hcs
      exact ⟨[], .inl ⟨rfl, rfl, rfl, rfl⟩⟩
    · simp [Value.cells] at hcs
      obtain ⟨rfl, rfl, rfl⟩ := hcs
      exact ⟨zs, .inr ⟨_, rfl, hl, hm, by simpa using hz, hcell, hwz⟩⟩
  clear hA0 hval0
  refine (walk a0 len0 cap0 z0 W w0).mono fun e W' ⟨he, bel⟩ => ?_
  subst he
  exact ⟨_, rfl, _, _, _, [], _, [], hW', trodAll_mk1 (shut_bool Try.underlying4 _), (trodAll_cons_mk (Below.trod laidOut (by kernel_rfl) (of_decide_eq_true (by kernel_rfl)) k0 bel lt0) trodAll_mk0), rfl, bel.frame _, fun h => by cases h⟩

theorem over : Rows.storeWordsRow.holds Try.pinned (OpenSpec.ofChange Rows.storeWordsSpec) :=
  OpenClaim.holds_of_wide 7 Try.f7 rfl rfl rfl rfl rfl rfl rfl ⟨rfl, rfl, rfl, rfl, rfl⟩ rfl rfl rfl rfl rfl (by kernel_rfl) Try.func7 (by kernel_rfl)
    (of_decide_eq_true (by kernel_rfl)) (by unfold Func.isWrapper; first | (rw [if_pos (by decide +kernel)]; kernel_rfl) | (rw [if_neg (by decide +kernel)]; exact ⟨rfl, rfl⟩))
    (fun os started H enc _ => lifted os started H enc)

/-- THE STATEMENT -/
theorem proved : Rows.StoreWordsSaid := over
#print axioms proved
end Go.Proofs.Ythgopodjplpefaa.storeWords
