/-
  PROVED: for every list of bytes p the law StoreKeeps returns true: what was handed in, and told, isn't the store's; and p reads as it did.
-/
import Derived.Test.YthgopodjplpefaaRows
import Derived.Test.YthgopodjplpefaaWM
import Derived.Test.YthgopodjplpefaaWC
import Derived.Test.YthgopodjplpefaaWB
import Derived.Test.YthgopodjplpefaaLT
import Derived.Test.YthgopodjplpefaaSM
import Derived.Test.YthgopodjplpefaaSC
import Derived.Test.YthgopodjplpefaaSD
import Derived.WalkKit
import Derived.ProofKit
import Derived.OpenShut
import Derived.ShutString
import Derived.ChangeOld
import Derived.Below
namespace Go.Proofs.Ythgopodjplpefaa.storeKeeps
open Go.Proofs.Ythgopodjplpefaa Go.Proofs.Ythgopodjplpefaa.WM
open Go.ChangeShapes Go.WideShapes Go.ChangeAt Go.RowKit
open Go.ChangeMaps (open_string shut_string)
set_option linter.unusedVariables false

theorem own : ownKnob Try.prog.godebug = none := by kernel_rfl
theorem laidOut : laidOutB Try.prog = true := by kernel_rfl
/-- What the walk is told of a slice of integers that came in: it is nil, or it leads to a row of as many cells as its capacity says. -/
def IsRow (k : IntKind) (w : World) (a : Option Addr) (len cap : Nat) (zs : List Int) : Prop :=
  (a = none ∧ len = 0 ∧ cap = 0 ∧ zs = []) ∨
  ∃ x, a = some x ∧ len ≤ cap ∧ cap ≤ maxLen ∧ zs.length = cap ∧ (∀ i, i < zs.length → w.cell? (x.add i) = some (.int k (zs.getD i 0))) ∧ ∀ n ∈ zs, (Lit.int k n).wf = true
theorem IsRow.bytes {w : World} {a : Option Addr} {len cap : Nat} {zs : List Int} (h : IsRow .u8 w a len cap zs) : len ≤ maxLen ∧ ∃ f : Nat → Nat, BytesAt w a len f ∧ (∀ i, f i < 256) ∧ ∀ i, i < len → f i = (zs.getD i 0).toNat := by
  rcases h with ⟨rfl, rfl, rfl, rfl⟩ | ⟨y, rfl, hl, hm, hz, hcell, hwz⟩
  · exact ⟨by omega, fun _ => 0, fun i hi => by omega, fun _ => (by decide : (0 : Nat) < 256), fun i hi => by omega⟩
  · have key : ∀ i, i < len → ∃ n : Nat, zs.getD i 0 = n ∧ n < 256 := fun i hi =>
      of_u8 (hwz (zs.getD i 0) (by simp [List.getD_eq_getElem?_getD, List.getElem?_eq_getElem (show i < zs.length by omega)]))
    refine ⟨by omega, fun i => (zs.getD i 0).toNat % 256, fun i hi => ?_, fun i => Nat.mod_lt _ (by omega), fun i hi => ?_⟩
    · obtain ⟨b, off, spot⟩ := y
      have hc := hcell i (by omega)
      have hspot : spot = none := by simpa [Addr.add] using World.cell?_spot (hcell 0 (by omega))
      subst hspot
      obtain ⟨n, en, hn⟩ := key i hi
      refine ⟨b, off, rfl, ?_⟩
      rw [en] at hc
      show w.cell? ⟨b, off + i, none⟩ = some (.int .u8 (((zs.getD i 0).toNat % 256 : Nat) : Int))
      rw [en, Int.toNat_natCast, Nat.mod_eq_of_lt hn, ← hc]
      unfold Addr.add
      split <;> simp_all
    · obtain ⟨n, en, hn⟩ := key i hi
      show (zs.getD i 0).toNat % 256 = _
      rw [en]; omega

/-! ### the walk -/
set_option maxRecDepth 100000
theorem read_any {w : World} {s h n : Nat} {f : Nat → Nat} (H : St w s h n f) (fr off m : Int) (hn : PartOk n fr off m) :
    Calls Try.prog 15 #[.pointer (some ⟨s, 0, none⟩), .int .i64 fr, .int .i64 off, .int .i64 m] w fun e w' =>
      ∃ r, e = .returned (.tuple #[.slice (some ⟨r, 0, none⟩) m.toNat m.toNat, .int .i64 0]) ∧ w.heap.size ≤ r ∧ Row w' r (fun i => f (fr.toNat * 256 + off.toNat + i)) m.toNat ∧ Below w.heap.size w w' :=
  (read_ok H fr off m hn).mono fun _ _ ⟨h1, h2, h3⟩ => ⟨_, h1, Nat.le_refl _, h2, h3⟩
set_option maxHeartbeats 1000000 in
theorem keeps (a : Option Addr) (len cap : Nat) (f : Nat → Nat) (w : World) (hb : BytesAt w a len f) (hf : ∀ i, f i < 256) (h0 : 0 < len) (h1 : len ≤ 256) :
    Calls Try.prog 6 #[.slice a len cap] w fun e w' => e = .returned (.bool true) ∧ Below w.heap.size w w' := by
  have t1 : ((len : Int) == 0) = false := by simp; omega
  have HF := Lib.hid hf
  have HB := Lib.hid hb
  clear hf hb
  go_enter Try.func6, Try.ntmps6
  go_wp2_with fail
  refine (awake4_in _).mono ?_
  rintro e w1 ⟨rfl, b1⟩
  go_wp2_with fail
  refine (new_in 1 (by omega) _).mono ?_
  rintro e w2 ⟨rfl, h1, h2⟩
  have b2 := below_up b1 (below_of_grown h2)
  obtain ⟨s, hs⟩ : ∃ s, w1.heap.size + 1 = s := ⟨_, rfl⟩
  obtain ⟨g, hg⟩ : ∃ g, w1.heap.size = g := ⟨_, rfl⟩
  rw [hs, hg, show clampN 1 = 1 by unfold clampN; omega] at h1
  have hg1 : w.heap.size ≤ g := by rw [← hg]; exact b1.size
  have hs1 : w.heap.size ≤ s := by omega
  have HS := Lib.hid h1
  have hsl := h1.lt
  have hgl := h1.row.lt
  rw [hs]
  clear h1 h2 hs hg b1
  go_wp2_with (at_builtin
               refine wpList_app8 rfl _ (.tmp 23) rfl w2.heap.size (.slice none 0 0) 0 (fun _ => 0) rfl (Own.nil _ _ _) a len cap f rfl ((HB.out).kept b2) h0 (by omega) (Nat.le_refl _) ?_
               intro v3 w3 ho3 hg3 hat3
               rw [Nat.zero_add] at ho3
               obtain ⟨q, cq, rfl, hq1, hq2, hqc, hqf⟩ := ho3.place h0
               have hg3' : w2.grownBy w3 none := hg3
               have HS3 := Lib.hid ((HS.out).kept hg3' (by simp) (by simp))
               have b3 := below_up b2 (below_of_grown hg3')
               have hqc' : ∀ i, i < len → w3.cell? ⟨q, i, none⟩ = some (.int .u8 (f i : Nat)) := fun i hi => by
                 rw [hqc i hi]; unfold putF; rw [if_pos (by omega), Nat.sub_zero]
               have HC := Lib.hid hqc'
               have HQ := Lib.hid hqf
               clear ho3 hg3 hg3' hat3 hqc hqf hqc')
  have hwr := write_ok (HS3.out) 0 0 (some ⟨q, 0, none⟩) len cq f (HF.out) (fun i hi => ⟨q, 0, rfl, by rw [Nat.zero_add]; exact HC.out i hi⟩) (by unfold PartOk; omega)
  refine hwr.mono ?_
  rintro e w4 ⟨rfl, h4, hg4⟩
  clear hwr
  have e4 : w3.heap.size ≤ w4.heap.size := hg4.size
  have HS5 := Lib.hid (fun u => h4.kept (grown_setCell w4 ⟨q, 0, none⟩ u) (by simp; omega) (by simp; omega))
  have b4 := b3.grown hg4 b3.size (fun k hk => by injection hk with hk; omega)
  have HB5 := Lib.hid (fun u => b4.setCell (p := ⟨q, 0, none⟩) (show w.heap.size ≤ q by omega) u)
  have hc4 := (World.cell?_of_block (a := ⟨q, 0, none⟩) (hg4.block q hq2 (by simp; omega))).trans (HC.out 0 h0)
  have hf4 := (World.frozen?_of_block (a := ⟨q, 0, none⟩) (hg4.block q hq2 (by simp; omega))).trans (HQ.out 0)
  clear h4 hg4
  go_wp2_with fail
  refine (read_any (HS5.out _) 0 0 len (by unfold PartOk; omega)).mono ?_
  rintro e w6 ⟨r, rfl, hr, h6, hb6⟩
  have b6 := below_up (HB5.out _) hb6
  have HS6 := Lib.hid ((HS5.out _).below hb6)
  have hr1 : w4.heap.size ≤ r := by simpa using hr
  have hc6 := h6.cell 0 (by omega)
  have hf6 := h6.frozen 0
  clear hr h6 hb6 hc4 hf4
  have HS7 := Lib.hid (fun u => (HS6.out).kept (grown_setCell w6 ⟨r, 0, none⟩ u) (by simp; omega) (by simp; omega))
  have HB7 := Lib.hid (fun u => b6.setCell (p := ⟨r, 0, none⟩) (show w.heap.size ≤ r by omega) u)
  clear HS6 HS5 HB5 b6
  go_wp2_with fail
  refine (read_any (HS7.out _) 0 0 len (by unfold PartOk; omega)).mono ?_
  rintro e w8 ⟨r2, rfl, hr2, h8, hb8⟩
  have b8 := below_up (HB7.out _) hb8
  rw [Int.toNat_natCast] at h8
  have cv1 := conv_at (h8.bytes0 len (Nat.le_refl _)) len
  rw [strF_congr _ f len (fun i hi => by unfold putF; rw [if_pos (by omega)]; congr 1; omega)] at cv1
  have cv2 := conv_at ((HB.out).kept b8) cap
  clear hr2 h8 hb8 hc6 hf6 HS7 HB7
  go_wp2
  go_ret
  exact ⟨rfl, b8⟩
theorem walk (p_p : Option Addr) (p_p_len p_p_cap : Nat) (p_p_z : List Int) (w : World) (hp_p : IsRow .u8 w p_p p_p_len p_p_cap p_p_z) :
    Calls Try.prog 6 #[.slice p_p p_p_len p_p_cap] w fun e w' => e = .returned (.bool true) ∧ Below w.heap.size w w' := by
  obtain ⟨hm, f, hb, hf, _⟩ := IsRow.bytes hp_p
  clear hp_p
  unfold maxLen at hm
  by_cases h0 : p_p_len = 0
  · subst h0
    go_enter Try.func6, Try.ntmps6
    go_wp2_with fail
    refine (awake4_in _).mono ?_
    rintro e w1 ⟨rfl, b1⟩
    go_wp2_with fail
    refine (awake4_in _).mono ?_
    rintro e w2 ⟨rfl, b2⟩
    go_wp2
    go_ret
    exact ⟨rfl, below_up b1 b2⟩
  by_cases h1 : p_p_len ≤ 256
  · exact keeps p_p p_p_len p_p_cap f w hb hf (by omega) h1
  · have t1 : ((p_p_len : Int) == 0) = false := by simp; omega
    go_enter Try.func6, Try.ntmps6
    go_wp2_with fail
    refine (awake4_in _).mono ?_
    rintro e w1 ⟨rfl, b1⟩
    go_wp2_with fail
    refine (awake4_in _).mono ?_
    rintro e w2 ⟨rfl, b2⟩
    go_wp2
    go_ret
    exact ⟨rfl, below_up b1 b2⟩

/-! ### the row's step -/
set_option maxRecDepth 100000 in
theorem lifted (os : Os) (started : os.Started) (H : Type) (enc : TypeId × Value → H) :
    ReturnsInHanded {} Try.checked os 6 .any (Rows.storeKeepsSpec.pre6 enc Try.prog Try.f6 Rows.storeKeepsRow.domain false) (Rows.storeKeepsSpec.post enc Try.prog Try.f6 false true false false) := by
  refine returnsInHanded_of_change (C := Try.checked) own started (by kernel_rfl) Try.func6
    (ChangeSpec.witness6 (enc := enc) (C := Try.checked) false ⟨#[], #[.slice none 0 0], []⟩ 8 (by kernel_rfl) (by kernel_rfl) (by kernel_rfl) (by kernel_rfl)) ?_
  intro W base args ds gs before hval0 hW hcnd _
  have hval : ∀ (j : Nat) t v, Try.f6.params[j]? = some t → args[j]? = some v → Value.okWide Try.prog W .any base t v := hval0
  have hW' := hW
  obtain ⟨p, q, hA0, hV, rfl, hfz, hnd⟩ := hW
  have hA : DataW.TrodAll enc Try.prog W 0 (fun _ => true) true Try.f6.params.toList args.toList ds p := hA0
  rw [Try.params6] at hA hval
  obtain ⟨v0, vs0, d0, ds0, p0, q0, hargs, rfl, rfl, h0, r0⟩ := trodAll_cons hA
  obtain ⟨rfl, rfl, rfl⟩ := trodAll_nil r0
  obtain rfl : args = #[v0] := by cases args; simp_all
  obtain ⟨rfl, rfl⟩ := trodVars_none hV
  obtain ⟨a0, len0, cap0, rfl⟩ := okWide_slice Try.underlying27 (hval 0 27 v0 rfl rfl)
  have k0 := h0
  have lt0 : ∀ x ∈ p0, x.block < W.heap.size := by obtain ⟨m, hm⟩ := k0; exact DataW.trod_lt m _ _ _ hm
  obtain ⟨z0, w0⟩ : ∃ zs, IsRow .u8 W a0 len0 cap0 zs := by
    obtain ⟨fuel, hf⟩ := h0
    rcases open_ints Try.underlying27 Try.underlying5 (by kernel_rfl) hf with ⟨hcs, _⟩ | ⟨x, l, c, zs, hcs, _, hl, hm, hz, _, hcell, hwz⟩
    · simp [Value.cells] at hcs
      obtain ⟨rfl, rfl, rfl⟩ := hcs
      exact ⟨[], .inl ⟨rfl, rfl, rfl, rfl⟩⟩
    · simp [Value.cells] at hcs
      obtain ⟨rfl, rfl, rfl⟩ := hcs
      exact ⟨zs, .inr ⟨_, rfl, hl, hm, by simpa using hz, hcell, hwz⟩⟩
  clear hA0 hval0
  refine (walk a0 len0 cap0 z0 W w0).mono fun e W' ⟨he, bel⟩ => ?_
  subst he
  exact ⟨_, rfl, _, _, _, [], _, [], hW', trodAll_mk1 (shut_bool Try.underlying4 _), (trodAll_cons_mk (Below.trod laidOut (by kernel_rfl) (of_decide_eq_true (by kernel_rfl)) k0 bel lt0) trodAll_mk0), rfl, bel.frame _, fun h => by cases h⟩

theorem over : Rows.storeKeepsRow.holds Try.pinned (OpenSpec.ofChange Rows.storeKeepsSpec) :=
  OpenClaim.holds_of_wide 6 Try.f6 rfl rfl rfl rfl rfl rfl rfl ⟨rfl, rfl, rfl, rfl, rfl⟩ rfl rfl rfl rfl rfl (by kernel_rfl) Try.func6 (by kernel_rfl)
    (of_decide_eq_true (by kernel_rfl)) (by unfold Func.isWrapper; first | (rw [if_pos (by decide +kernel)]; kernel_rfl) | (rw [if_neg (by decide +kernel)]; exact ⟨rfl, rfl⟩))
    (fun os started H enc _ => lifted os started H enc)

/-- THE STATEMENT -/
theorem proved : Rows.StoreKeepsSaid := over
#print axioms proved
end Go.Proofs.Ythgopodjplpefaa.storeKeeps
