/-
  PROVED: for every word w and every list of bytes p the law WordBytes returns true (word.Bytes tells the word's eight bytes, the lowest first, word.Of takes them back, and of any bytes p the first eight, noughts where there are fewer; the document's example holds), and both arguments read as they did. No condition.
-/
import Derived.Test.YtaboclolcfgbjaaRows
import Derived.Test.YtaboclolcfgbjaaWB
import Derived.WalkKit
import Derived.ProofKit
import Derived.OpenShut
import Derived.ShutString
import Derived.ChangeOld
import Derived.Below
namespace Go.Proofs.Ytaboclolcfgbjaa.wordBytes
open Go.Proofs.Ytaboclolcfgbjaa Go.Proofs.Ytaboclolcfgbjaa.WM
open Go.ChangeShapes Go.WideShapes Go.ChangeAt Go.RowKit
open Go.ChangeMaps (open_string shut_string)
set_option linter.unusedVariables false

theorem own : ownKnob Try.prog.godebug = none := by kernel_rfl
theorem laidOut : laidOutB Try.prog = true := by kernel_rfl

/-- WHAT THE WALK IS TOLD OF A SLICE OF INTEGERS THAT CAME IN: it is nil; or it leads to a row of 'cap' cells, the numbers 'zs' (the first 'len' are its elements, the rest its spare room), each fitting its kind. -/
def IsRow (k : IntKind) (w : World) (a : Option Addr) (len cap : Nat) (zs : List Int) : Prop :=
  (a = none ∧ len = 0 ∧ cap = 0 ∧ zs = []) ∨
  ∃ x, a = some x ∧ len ≤ cap ∧ cap ≤ maxLen ∧ zs.length = cap ∧ (∀ i, i < zs.length → w.cell? (x.add i) = some (.int k (zs.getD i 0))) ∧ ∀ n ∈ zs, (Lit.int k n).wf = true

/-! ### STEP 1: THE WALK: the Go text returns true, AND WRITES NOTHING THAT WAS THERE: 'Below w.heap.size w w'' (Derived/Below.lean: '.refl', '.alloc', '.drew', '.setCell' at a new block, '.trans'). Open each 'IsRow' by 'rcases' AHEAD of 'go_enter'; part every test ahead of the walk. -/
set_option maxRecDepth 100000
/-- The law's own running number: k bytes, from the eighth down. -/
def hv (f : Nat → Nat) (len : Nat) : Nat → Nat
  | 0 => 0
  | k + 1 => hv f len k * 256 + (if 7 - k < len then f (7 - k) else 0)
theorem hv_lt (f : Nat → Nat) (len : Nat) (h : ∀ i, f i < 256) : ∀ k, hv f len k < 2 ^ (8 * k)
  | 0 => by simp [hv]
  | k + 1 => by
    have ih := hv_lt f len h k
    have := h (7 - k)
    have e : 2 ^ (8 * (k + 1)) = 256 * 2 ^ (8 * k) := by rw [show 8 * (k + 1) = 8 + 8 * k by omega, Nat.pow_add]
    simp only [hv, e]; split <;> omega
theorem hv_of (f : Nat → Nat) (len : Nat) : hv f len 8 = ofN f (min len 8) := by
  have h : len = 0 ∨ len = 1 ∨ len = 2 ∨ len = 3 ∨ len = 4 ∨ len = 5 ∨ len = 6 ∨ len = 7 ∨ 8 ≤ len := by omega
  rcases h with rfl | rfl | rfl | rfl | rfl | rfl | rfl | rfl | h
  any_goals (simp [hv, ofN]; done)
  any_goals (simp [hv, ofN]; omega)
  rw [show min len 8 = 8 by omega]
  have h1 : 7 < len := by omega
  have h2 : 6 < len := by omega
  have h3 : 5 < len := by omega
  have h4 : 4 < len := by omega
  have h5 : 3 < len := by omega
  have h6 : 2 < len := by omega
  have h7 : 1 < len := by omega
  have h8 : 0 < len := by omega
  simp [hv, ofN, h1, h2, h3, h4, h5, h6, h7, h8]; omega
theorem hv_in (f : Nat → Nat) (len k : Nat) (hf : ∀ i, f i < 256) (hk : k < 8) (c : 7 - (k : Int) < len) :
    IntKind.u64.wrap (IntKind.u64.wrap ((hv f len k : Nat) * 256) + IntKind.u64.wrap (f (7 - k) : Nat)) = ((hv f len (k + 1) : Nat) : Int) := by
  have h1 := hf (7 - k)
  have h2 := hv_lt f len hf (k + 1)
  have h3 : 2 ^ (8 * (k + 1)) ≤ 2 ^ 64 := Nat.pow_le_pow_right (by decide) (by omega)
  have e : hv f len (k + 1) = hv f len k * 256 + f (7 - k) := by simp only [hv]; rw [if_pos (by omega)]
  rw [IntKind.wrap_u64, IntKind.wrap_u64, IntKind.wrap_u64]
  omega
theorem hv_out (f : Nat → Nat) (len k : Nat) (hf : ∀ i, f i < 256) (hk : k < 8) (c : ¬ 7 - (k : Int) < len) :
    IntKind.u64.wrap ((hv f len k : Nat) * 256) = ((hv f len (k + 1) : Nat) : Int) := by
  have h2 := hv_lt f len hf (k + 1)
  have h3 : 2 ^ (8 * (k + 1)) ≤ 2 ^ 64 := Nat.pow_le_pow_right (by decide) (by omega)
  have e : hv f len (k + 1) = hv f len k * 256 := by simp only [hv]; rw [if_neg (by omega)]; rfl
  rw [IntKind.wrap_u64]
  omega
theorem ref_byte (x : Nat) (i : Int) (w : World) (hx : x < 18446744073709551616) (h0 : 0 ≤ i) (h1 : i ≤ 7) :
    Calls Try.prog 11 #[.int .u64 x, .int .i64 (8 * i), .int .i64 8] w fun e w' => e = .returned (.int .u64 (byteN x i.toNat : Nat)) ∧ w = w' := by
  obtain ⟨j, rfl⟩ := Int.eq_ofNat_of_zero_le h0
  have h := reffield_yes x (8 * j) 8 w (by omega) (by omega)
  rw [field_byte x j hx, Int.natCast_mul] at h
  exact h
theorem bytes_ab (x : Nat) (w : World) (B : Nat) (hB : w.heap.size = B) :
    Calls Try.prog 16 #[.int .u64 x] w fun e w' => e = .returned (.slice (some ⟨B, 0, none⟩) 8 8) ∧ BytesAt w' (some ⟨B, 0, none⟩) 8 (byteN x) ∧ Below B w w' := by
  subst hB
  refine (bytes_in x w).mono ?_
  rintro e w' ⟨rfl, rfl⟩
  exact ⟨rfl, bytes_at x w, (Below.refl _ _).alloc (Nat.le_refl _) _⟩
theorem BytesAt.later {w w' : World} {a : Option Addr} {len : Nat} {f : Nat → Nat} (h : BytesAt w a len f) (hb : Below w.heap.size w w') : BytesAt w' a len f := by
  intro i hi
  obtain ⟨b, off, ha, hc⟩ := h i hi
  exact ⟨b, off, ha, (hb.cell (World.block_lt_of_cell? _ _ hc)).trans hc⟩
theorem of_b (x B : Nat) (w : World) (hx : x < 18446744073709551616) (h : BytesAt w (some ⟨B, 0, none⟩) 8 (byteN x)) :
    Calls Try.prog 17 #[.slice (some ⟨B, 0, none⟩) 8 8] w fun e w' => e = .returned (.int .u64 (x : Nat)) ∧ w = w' := by
  have c := of_in (some ⟨B, 0, none⟩) 8 8 (byteN x) w h (byteN_lt x) (by omega)
  rw [show min 8 8 = 8 by decide, ofN_bytes x hx] at c
  exact c
theorem of_p (a : Option Addr) (len cap : Nat) (f : Nat → Nat) (w : World) (h : BytesAt w a len f) (hf : ∀ i, f i < 256) (hl : len ≤ 9223372036854775807) :
    Calls Try.prog 17 #[.slice a len cap] w fun e w' => e = .returned (.int .u64 (hv f len 8 : Nat)) ∧ w = w' := by
  have c := of_in a len cap f w h hf hl
  rw [← hv_of] at c
  exact c
set_option maxHeartbeats 400000 in
theorem walkP (x : Nat) (a : Option Addr) (len cap : Nat) (f : Nat → Nat) (w : World) (hx : x < 18446744073709551616) (hb : BytesAt w a len f) (hf : ∀ i, f i < 256) (hl : len ≤ 50) :
    Calls Try.prog 6 #[.int .u64 x, .slice a len cap] w fun e w' => e = .returned (.bool true) ∧ Below w.heap.size w w' := by
  have h50 : ¬ (50 < (len : Int)) := by omega
  obtain ⟨B, hB⟩ : ∃ B, w.heap.size = B := ⟨_, rfl⟩
  have HB := Lib.hid hB
  rw [hB]
  clear hB
  go_enter Try.func6, Try.ntmps6
  go_wp2_with (first | (go_at_call 9; refine (awake_in _).mono ?_; rintro e w' ⟨rfl, q, rfl⟩) | (go_at_call 16; refine (bytes_ab x _ B (by exact HB.out)).mono ?_; rintro e W1 ⟨rfl, hB1, hbel⟩))
  have hb1 : BytesAt W1 a len f := BytesAt.later (w := w.drewN q) hb (by rw [show (w.drewN q).heap.size = B from HB.out]; exact hbel)
  go_loopw [6, 7] (fun v i wr => ∃ k q : Nat, k ≤ 8 ∧ i = .int .i64 (7 - (k : Int)) ∧ v = .int .u64 (hv f len k : Nat) ∧ wr = W1.drewN q) (fun _ i _ => (intOf i + 1).toNat)
  case atStart => exact ⟨0, 0, by omega, by simp, rfl, rfl⟩
  case round =>
    obtain ⟨k, q, hk, rfl, rfl, rfl⟩ := hrel
    by_cases hlt : k < 8
    · obtain ⟨b2, off2, e2, hc2⟩ := hB1 (7 - k) (by omega)
      injection e2 with e2
      injection e2 with e3 e4
      subst e3 e4
      rw [Nat.zero_add] at hc2
      have hne : (((byteN x (7 - k) : Nat) : Int) != ((byteN x (7 - k) : Nat) : Int) % 256) = false := by
        have := byteN_lt x (7 - k)
        rw [show ((byteN x (7 - k) : Nat) : Int) % 256 = ((byteN x (7 - k) : Nat) : Int) by omega]; simp
      by_cases c1 : 7 - (k : Int) < len
      · obtain ⟨b, off, rfl, hc⟩ := hb1 (7 - k) (by omega)
        have HH := Lib.hid (hv_in f len k hf hlt c1)
        go_wp2
        go_quiet ((go_at_call 11; exact quiet_add_left (ref_byte _ _ _ hx (by omega) (by omega))))
        go_wp2
        go_roundw
        case rel => exact ⟨k + 1, _, by omega, by go_num, by rw [HH.out], rfl⟩
        case measure => simp [intOf]; omega
      · have HH := Lib.hid (hv_out f len k hf hlt c1)
        go_wp2
        go_quiet ((go_at_call 11; exact quiet_add_left (ref_byte _ _ _ hx (by omega) (by omega))))
        go_wp2
        go_roundw
        case rel => exact ⟨k + 1, _, by omega, by go_num, by rw [HH.out], rfl⟩
        case measure => simp [intOf]; omega
    · obtain rfl : k = 8 := by omega
      have cb := fun q => of_b x B (W1.drewN q) hx (hB1.drewN q)
      have cp := fun q => of_p a len cap f (W1.drewN q) (hb1.drewN q) hf (by omega)
      go_wp2_with (first | (go_at_call 17; with_reducible refine (cb _).mono ?_; rintro e w' ⟨rfl, rfl⟩) | (go_at_call 17; with_reducible refine (cp _).mono ?_; rintro e w' ⟨rfl, rfl⟩))
      go_ret
      exact ⟨rfl, below_drewN ((below_drewN (Below.refl _ _) _).trans hbel) _⟩
theorem walk (a0 : Int) (a1 : Option Addr) (len1 cap1 : Nat) (z1 : List Int) (w : World) (w0 : (Lit.int .u64 a0).wf = true) (w1 : IsRow .u8 w a1 len1 cap1 z1) :
    Calls Try.prog 6 #[.int .u64 a0, .slice a1 len1 cap1] w fun e w' => e = .returned (.bool true) ∧ Below w.heap.size w w' := by
  obtain ⟨x, rfl, hx⟩ := of_u64 w0
  have hrow : len1 ≤ maxLen ∧ ∃ f : Nat → Nat, BytesAt w a1 len1 f ∧ ∀ i, f i < 256 := by
    rcases w1 with ⟨rfl, rfl, rfl, rfl⟩ | ⟨y, rfl, hl, hm, hz, hcell, hwz⟩
    · exact ⟨by omega, fun _ => 0, fun i hi => by omega, fun _ => (by decide : (0 : Nat) < 256)⟩
    · refine ⟨by omega, fun i => (z1.getD i 0).toNat % 256, fun i hi => ?_, fun i => Nat.mod_lt _ (by omega)⟩
      obtain ⟨b, off, spot⟩ := y
      have hc := hcell i (by omega)
      have hspot : spot = none := by simpa [Addr.add] using World.cell?_spot (hcell 0 (by omega))
      subst hspot
      have hw := hwz (z1.getD i 0) (by simp [List.getD_eq_getElem?_getD, List.getElem?_eq_getElem (show i < z1.length by omega)])
      obtain ⟨n, en, hn⟩ := of_u8 hw
      refine ⟨b, off, rfl, ?_⟩
      rw [en] at hc
      show w.cell? ⟨b, off + i, none⟩ = some (.int .u8 (((z1.getD i 0).toNat % 256 : Nat) : Int))
      rw [en, Int.toNat_natCast, Nat.mod_eq_of_lt hn, ← hc]
      unfold Addr.add
      split <;> simp_all
  obtain ⟨hm, f, hb, hf⟩ := hrow
  clear w0 w1
  unfold maxLen at hm
  by_cases h50 : len1 ≤ 50
  · exact walkP x a1 len1 cap1 f w hx hb hf h50
  · have hgt : 50 < (len1 : Int) := by omega
    go_enter Try.func6, Try.ntmps6
    go_wp2_with (first | (go_at_call 9; refine (awake_in _).mono ?_; rintro e w' ⟨rfl, q, rfl⟩))
    go_ret
    exact ⟨rfl, below_drewN (Below.refl _ _) _⟩

/-! ### THE ROW's STEP: WRITTEN OUT: LEAVE IT -/
set_option maxRecDepth 100000 in
theorem lifted (os : Os) (started : os.Started) (H : Type) (enc : TypeId × Value → H) :
    ReturnsInHanded {} Try.checked os 6 .any (Rows.wordBytesSpec.pre6 enc Try.prog Try.f6 Rows.wordBytesRow.domain false) (Rows.wordBytesSpec.post enc Try.prog Try.f6 false true false false) := by
  refine returnsInHanded_of_change (C := Try.checked) own started (by kernel_rfl) Try.func6
    (ChangeSpec.witness6 (enc := enc) (C := Try.checked) false ⟨#[], #[.int .u64 0, .slice none 0 0], []⟩ 8 (by kernel_rfl) (by kernel_rfl) (by kernel_rfl) (by kernel_rfl)) ?_
  intro W base args ds gs before hval0 hW hcnd _
  have hval : ∀ (j : Nat) t v, Try.f6.params[j]? = some t → args[j]? = some v → Value.okWide Try.prog W .any base t v := hval0
  have hW' := hW
  obtain ⟨p, q, hA0, hV, rfl, hfz, hnd⟩ := hW
  have hA : DataW.TrodAll enc Try.prog W 0 (fun _ => true) true Try.f6.params.toList args.toList ds p := hA0
  rw [Try.params6] at hA hval
  obtain ⟨v0, vs0, d0, ds0, p0, q0, hargs, rfl, rfl, h0, r0⟩ := trodAll_cons hA
  obtain ⟨v1, vs1, d1, ds1, p1, q1, rfl, rfl, rfl, h1, r1⟩ := trodAll_cons r0
  obtain ⟨rfl, rfl, rfl⟩ := trodAll_nil r1
  obtain rfl : args = #[v0, v1] := by cases args; simp_all
  obtain ⟨rfl, rfl⟩ := trodVars_none hV
  obtain ⟨a0, rfl, rfl, rfl, w0⟩ := open_int Try.underlying22 (hval 0 22 v0 rfl rfl) h0
  obtain ⟨a1, len1, cap1, rfl⟩ := okWide_slice Try.underlying30 (hval 1 30 v1 rfl rfl)
  have k1 := h1
  have lt1 : ∀ x ∈ p1, x.block < W.heap.size := by obtain ⟨m, hm⟩ := k1; exact DataW.trod_lt m _ _ _ hm
  obtain ⟨z1, w1⟩ : ∃ zs, IsRow .u8 W a1 len1 cap1 zs := by
    obtain ⟨fuel, hf⟩ := h1
    rcases open_ints Try.underlying30 Try.underlying5 (by kernel_rfl) hf with ⟨hcs, _⟩ | ⟨x, l, c, zs, hcs, _, hl, hm, hz, _, hcell, hwz⟩
    · simp [Value.cells] at hcs
      obtain ⟨rfl, rfl, rfl⟩ := hcs
      exact ⟨[], .inl ⟨rfl, rfl, rfl, rfl⟩⟩
    · simp [Value.cells] at hcs
      obtain ⟨rfl, rfl, rfl⟩ := hcs
      exact ⟨zs, .inr ⟨_, rfl, hl, hm, by simpa using hz, hcell, hwz⟩⟩
  clear hA0 hval0
  refine (walk a0 a1 len1 cap1 z1 W w0 w1).mono fun e W' ⟨he, bel⟩ => ?_
  subst he
  exact ⟨_, rfl, _, _, _, [], _, [], hW', trodAll_mk1 (shut_bool Try.underlying4 _), (trodAll_cons_mk (shut_int Try.underlying22 w0) (trodAll_cons_mk (Below.trod laidOut (by kernel_rfl) (of_decide_eq_true (by kernel_rfl)) k1 bel lt1) trodAll_mk0)), rfl, bel.frame _, fun h => by cases h⟩

theorem over : Rows.wordBytesRow.holds Try.pinned (OpenSpec.ofChange Rows.wordBytesSpec) :=
  OpenClaim.holds_of_wide 6 Try.f6 rfl rfl rfl rfl rfl rfl rfl ⟨rfl, rfl, rfl, rfl, rfl⟩ rfl rfl rfl rfl rfl (by kernel_rfl) Try.func6 (by kernel_rfl)
    (of_decide_eq_true (by kernel_rfl)) (by unfold Func.isWrapper; first | (rw [if_pos (by decide +kernel)]; kernel_rfl) | (rw [if_neg (by decide +kernel)]; exact ⟨rfl, rfl⟩))
    (fun os started H enc _ => lifted os started H enc)

/-- ████ THE STATEMENT ████ -/
theorem proved : Rows.WordBytesSaid := over
#print axioms proved
end Go.Proofs.Ytaboclolcfgbjaa.wordBytes
