/-
  PROVED: for every word w, every instruction o and every number at the law CodeReads returns true (of any word Decode makes the instruction whose word it is, or none and the zero instruction; the word of an instruction that may be is read; the document's example holds), and the arguments read as they did. No condition.
-/
import Derived.Test.YtllgmiabidnpjaaRows
import Derived.Test.YtllgmiabidnpjaaCL
import Derived.WalkKit
import Derived.ProofKit
import Derived.OpenShut
import Derived.ShutString
import Derived.ChangeOld
import Derived.Below
namespace Go.Proofs.Ytllgmiabidnpjaa.codeReads
open Go.Proofs.Ytllgmiabidnpjaa Go.Proofs.Ytllgmiabidnpjaa.WM Go.Proofs.Ytllgmiabidnpjaa.CM
open Go.ChangeShapes Go.WideShapes Go.ChangeAt Go.RowKit
open Go.ChangeMaps (open_string shut_string)
set_option linter.unusedVariables false

theorem own : ownKnob Try.prog.godebug = none := by kernel_rfl
theorem laidOut : laidOutB Try.prog = true := by kernel_rfl
theorem wf_u32 {a : Int} (h : (Lit.int .u32 a).wf = true) : ∃ n : Nat, a = n ∧ n < 4294967296 := by
  simp only [Lit.wf, IntKind.min, IntKind.max, IntKind.signed, IntKind.bits, Bool.and_eq_true] at h
  simp at h
  exact ⟨a.toNat, by omega, by omega⟩
theorem wf_u8 {a : Int} (h : (Lit.int .u8 a).wf = true) : ∃ n : Nat, a = n ∧ n < 256 := by
  simp only [Lit.wf, IntKind.min, IntKind.max, IntKind.signed, IntKind.bits, Bool.and_eq_true] at h
  simp at h
  exact ⟨a.toNat, by omega, by omega⟩
theorem wf_i16 {a : Int} (h : (Lit.int .i16 a).wf = true) : -32768 ≤ a ∧ a ≤ 32767 := by
  simp only [Lit.wf, IntKind.min, IntKind.max, IntKind.signed, IntKind.bits, Bool.and_eq_true, decide_eq_true_eq] at h
  simp at h
  omega
theorem array24 {α : Type} {cs : Array α} (h : cs.size = 5) : ∃ v0 v1 v2 v3 v4, cs = #[v0, v1, v2, v3, v4] := by
  obtain ⟨l⟩ := cs
  match l, h with
  | [v0, v1, v2, v3, v4], _ => exact ⟨v0, v1, v2, v3, v4, rfl⟩
theorem open24 {H : Type} {enc : TypeId × Value → H} {w : World} {base : Nat} {spare : Nat → Bool} {held : Bool} {r : Reach} {b0 : Nat} {v : Value} {d : DataW H} {p : List MemPlace}
    (hv : Value.okWide Try.prog w r b0 24 v) (h : DataW.Trod enc Try.prog w base spare held 24 v d p) :
    ∃ (v0 : Int) (v1 : Int) (v2 : Int) (v3 : Int) (v4 : Int), v = .agg #[.int .u8 v0, .int .u8 v1, .int .u8 v2, .int .u8 v3, .int .i16 v4] ∧ (Lit.int .u8 v0).wf = true ∧ (Lit.int .u8 v1).wf = true ∧ (Lit.int .u8 v2).wf = true ∧ (Lit.int .u8 v3).wf = true ∧ (Lit.int .i16 v4).wf = true := by
  obtain ⟨cs, rfl, hsz⟩ := okWide_struct Try.underlying24 hv
  obtain ⟨c0, c1, c2, c3, c4, rfl⟩ := array24 (hsz.trans (by kernel_rfl))
  obtain ⟨fuel, hf⟩ := h
  obtain ⟨xs, m, _, _, _, hlen, hall⟩ := DataW.trod_struct Try.underlying24 hf
  obtain ⟨y0, hy0⟩ : ∃ y, xs[0]? = some y := ⟨_, List.getElem?_eq_getElem (by rw [hlen]; decide)⟩
  have t0 : DataW.trod enc Try.prog w base spare held m 5 (List.take (Try.prog.cellsOf 5) (List.drop 0 (Value.agg #[c0, c1, c2, c3, c4]).cells.toList)) = some y0 := (hall 0 _ rfl).trans hy0
  rw [show Try.prog.cellsOf 5 = 1 from by kernel_rfl] at t0
  obtain ⟨z0, e0, _, w0⟩ := DataW.trod_int Try.underlying5 t0
  simp [Value.cells] at e0
  obtain ⟨y1, hy1⟩ : ∃ y, xs[1]? = some y := ⟨_, List.getElem?_eq_getElem (by rw [hlen]; decide)⟩
  have t1 : DataW.trod enc Try.prog w base spare held m 5 (List.take (Try.prog.cellsOf 5) (List.drop 1 (Value.agg #[c0, c1, c2, c3, c4]).cells.toList)) = some y1 := (hall 1 _ rfl).trans hy1
  rw [show Try.prog.cellsOf 5 = 1 from by kernel_rfl] at t1
  obtain ⟨z1, e1, _, w1⟩ := DataW.trod_int Try.underlying5 t1
  simp [Value.cells] at e1
  obtain ⟨y2, hy2⟩ : ∃ y, xs[2]? = some y := ⟨_, List.getElem?_eq_getElem (by rw [hlen]; decide)⟩
  have t2 : DataW.trod enc Try.prog w base spare held m 5 (List.take (Try.prog.cellsOf 5) (List.drop 2 (Value.agg #[c0, c1, c2, c3, c4]).cells.toList)) = some y2 := (hall 2 _ rfl).trans hy2
  rw [show Try.prog.cellsOf 5 = 1 from by kernel_rfl] at t2
  obtain ⟨z2, e2, _, w2⟩ := DataW.trod_int Try.underlying5 t2
  simp [Value.cells] at e2
  obtain ⟨y3, hy3⟩ : ∃ y, xs[3]? = some y := ⟨_, List.getElem?_eq_getElem (by rw [hlen]; decide)⟩
  have t3 : DataW.trod enc Try.prog w base spare held m 5 (List.take (Try.prog.cellsOf 5) (List.drop 3 (Value.agg #[c0, c1, c2, c3, c4]).cells.toList)) = some y3 := (hall 3 _ rfl).trans hy3
  rw [show Try.prog.cellsOf 5 = 1 from by kernel_rfl] at t3
  obtain ⟨z3, e3, _, w3⟩ := DataW.trod_int Try.underlying5 t3
  simp [Value.cells] at e3
  obtain ⟨y4, hy4⟩ : ∃ y, xs[4]? = some y := ⟨_, List.getElem?_eq_getElem (by rw [hlen]; decide)⟩
  have t4 : DataW.trod enc Try.prog w base spare held m 22 (List.take (Try.prog.cellsOf 22) (List.drop 4 (Value.agg #[c0, c1, c2, c3, c4]).cells.toList)) = some y4 := (hall 4 _ rfl).trans hy4
  rw [show Try.prog.cellsOf 22 = 1 from by kernel_rfl] at t4
  obtain ⟨z4, e4, _, w4⟩ := DataW.trod_int Try.underlying22 t4
  simp [Value.cells] at e4
  subst e0 e1 e2 e3 e4
  exact ⟨z0, z1, z2, z3, z4, rfl, w0, w1, w2, w3, w4⟩

/-! ### the walk -/
set_option maxRecDepth 100000
/-- One of three. -/
def pick3 (x v y k : Nat) : Nat := if k = 0 then x else if k = 1 then v else y
theorem pick3_lt {x v y : Nat} (hx : x < 4294967296) (hv : v < 4294967296) (hy : y < 4294967296) (k : Nat) : pick3 x v y k < 4294967296 := by
  unfold pick3; split
  · exact hx
  · split
    · exact hv
    · exact hy
theorem row3 (W : World) (t : TypeId) (x v y k : Nat) (hk : k < 3) : (W.alloc (.cells #[.int .u32 x, .int .u32 v, .int .u32 y] t)).cell? ⟨W.heap.size, k, none⟩ = some (.int .u32 (pick3 x v y k : Nat)) := by
  rw [World.cell?_alloc_new]
  have h : k = 0 ∨ k = 1 ∨ k = 2 := by omega
  rcases h with rfl | rfl | rfl <;> rfl
theorem walk (p_w : Nat) (hp_w : p_w < 4294967296) (p_o_Code : Nat) (hp_o_Code : p_o_Code < 256) (p_o_A : Nat) (hp_o_A : p_o_A < 256) (p_o_B : Nat) (hp_o_B : p_o_B < 256) (p_o_C : Nat) (hp_o_C : p_o_C < 256) (p_o_N : Int) (hp_o_N : -32768 ≤ p_o_N ∧ p_o_N ≤ 32767) (p_at : Nat) (hp_at : p_at < 256) (w : World)  :
    Calls Try.prog 5 #[.int .u32 p_w, .agg #[.int .u8 p_o_Code, .int .u8 p_o_A, .int .u8 p_o_B, .int .u8 p_o_C, .int .i16 p_o_N], .int .u8 p_at] w fun e w' => e = .returned (.bool true) ∧ Below w.heap.size w w' := by
  have HN := Lib.hid (fun W => near_in p_o_Code p_o_A p_o_B p_o_C p_o_N W)
  unfold opV at HN
  have hr := near_right p_o_Code p_o_A p_o_B p_o_C p_o_N
  have hn := near_n (c := p_o_Code) hp_o_N
  generalize nC p_o_Code = c at *
  generalize nA p_o_Code p_o_A = a at *
  generalize nB p_o_Code p_o_B = b at *
  generalize nD p_o_Code p_o_C = d at *
  generalize nN p_o_Code p_o_N = n at *
  have hlt := right_lt hr
  have HE := Lib.hid (fun W => encode_yes c a b d n W hr)
  have hww := word_lt (n := n) (show c < 64 by omega) hlt.2.1 hlt.2.2.1 hlt.2.2.2
  have HIV := Lib.hid (word_is hr hn)
  unfold opV at HE
  clear hr hn hlt hp_o_Code hp_o_A hp_o_B hp_o_C hp_o_N
  generalize wordN c a b d n = v at *
  have HV := Lib.hid hww
  have HX := Lib.hid hp_w
  go_enter Try.func5, Try.ntmps5
  go_wp2_with fail
  refine (HN.out _).mono ?_
  rintro e W1 ⟨rfl, h1⟩
  have g1 := below_up (below_new w _) h1
  clear h1
  go_wp2_with fail
  refine (HE.out _).mono ?_
  rintro e W2 ⟨rfl, h2⟩
  have g2 := below_up g1 h2
  clear h2 g1
  go_wp2_with fail
  obtain ⟨y, hy, hylt⟩ := wf_u32 (wf_bits .xor .u32 (v : Int) (2 ^ (p_at % 32) % 4294967296))
  rw [hy]
  have HL := Lib.hid (fun k (hk : k < 3) => row3 W2 30 p_w v y k hk)
  have gV := below_more g2 (.cells #[.int .u32 p_w, .int .u32 v, .int .u32 y] 30)
  have hsz : W2.heap.size < (W2.alloc (.cells #[.int .u32 p_w, .int .u32 v, .int .u32 y] 30)).heap.size := by simp
  have HP := Lib.hid (fun k => pick3_lt hp_w hww hylt k)
  clear hy hylt g2 HX hww hp_w
  generalize W2.alloc (.cells #[.int .u32 p_w, .int .u32 v, .int .u32 y] 30) = V at *
  have HSZ := Lib.hid hsz
  clear hsz
  generalize W2.heap.size = lb at *
  go_loopw [10] (fun i wr => ∃ k : Nat, k ≤ 3 ∧ i = .int .i64 k ∧ Below V.heap.size V wr) (fun i _ => (3 - intOf i).toNat)
  case atStart => exact ⟨0, by omega, rfl, Below.refl _ _⟩
  case round =>
    obtain ⟨k, hk, rfl, hb⟩ := hrel
    by_cases hlt : k < 3
    · have kc : wr.cell? ⟨lb, k, none⟩ = some (.int .u32 (pick3 p_w v y k : Nat)) := (hb.cell (by exact HSZ.out)).trans (HL.out k hlt)
      have hz := HP.out k
      have gr : Below w.heap.size w wr := below_up gV hb
      have hlr : lb < wr.heap.size := Nat.lt_of_lt_of_le HSZ.out hb.size
      have HB := Lib.hid hb
      clear HP HL gV hb HSZ
      generalize pick3 p_w v y k = z at *
      cases hw : isW z
      · have HD := Lib.hid (fun W => decode_no z W hz hw)
        unfold opV at HD
        clear hw hz
        go_wp2_with fail
        refine (HD.out _).mono ?_
        rintro e W3 ⟨rfl, h3⟩
        have hk3 := fun s => (lies_zero W3 24).later (below_later _ s)
        have q0 := fun s => (hk3 s).k0
        have q1 := fun s => (hk3 s).k1
        have q2 := fun s => (hk3 s).k2
        have q3 := fun s => (hk3 s).k3
        have q4 := fun s => (hk3 s).k4
        have gW := fun s => below_up (below_more (below_up HB.out h3) (.cells #[.int .u8 0, .int .u8 0, .int .u8 0, .int .u8 0, .int .i16 0] 24)) (below_later _ s)
        have GW := Lib.hid gW
        clear hk3 kc gW hlr
        go_wp2_with fail
        refine wp_region_later (by kernel_rfl) (by kernel_rfl) ?_
        repeat (go_big_quiet_step (fail))
        refine wpQuiet_nil ?_
        rintro _ ⟨s, rfl⟩
        go_wp2
        go_roundw
        case rel => exact ⟨k + 1, by omega, by go_num, GW.out s⟩
        case measure => simp [intOf]; omega
      · have HD := Lib.hid (fun W => decode_yes z W hz hw)
        unfold opV at HD
        unfold isW at hw
        simp only [Bool.and_eq_true, beq_iff_eq] at hw
        obtain ⟨hr, he⟩ := hw
        have hlt4 := right_lt hr
        have HS := Lib.hid (fun W => refright_in (pC z) (pA z) (pB z) (pD z) (pN z) W)
        have HW := Lib.hid (fun W => refword_in (pC z) (pA z) (pB z) (pD z) (pN z) W hlt4.1 hlt4.2.1 hlt4.2.2.1 hlt4.2.2.2)
        rw [hr] at HS
        rw [he] at HW
        clear hr he hlt4 hz
        generalize pC z = c3 at *
        generalize pA z = a3 at *
        generalize pB z = b3 at *
        generalize pD z = d3 at *
        generalize pN z = n3 at *
        go_wp2_with fail
        refine (HD.out _).mono ?_
        rintro e W3 ⟨rfl, h3⟩
        have hk3 := fun s => (lies_new W3 c3 a3 b3 d3 n3 24).later (below_later _ s)
        have q0 := fun s => (hk3 s).k0
        have q1 := fun s => (hk3 s).k1
        have q2 := fun s => (hk3 s).k2
        have q3 := fun s => (hk3 s).k3
        have q4 := fun s => (hk3 s).k4
        have kc3 : W3.cell? ⟨lb, k, none⟩ = some (.int .u32 (z : Nat)) := (h3.cell hlr).trans kc
        have hl3 : lb < W3.heap.size := Nat.lt_of_lt_of_le hlr h3.size
        have kc4 := fun s => (later_cell (w := W3.alloc (.cells #[.int .u8 c3, .int .u8 a3, .int .u8 b3, .int .u8 d3, .int .i16 n3] 24)) (s := s) (a := ⟨lb, k, none⟩) (by simp; omega)).trans ((World.cell?_alloc_past _ lb k hl3).trans kc3)
        have gW := fun s => below_up (below_more (below_up HB.out h3) (.cells #[.int .u8 c3, .int .u8 a3, .int .u8 b3, .int .u8 d3, .int .i16 n3] 24)) (below_later _ s)
        have GW := Lib.hid gW
        clear hk3 kc gW hlr kc3 hl3
        go_wp2_with fail
        refine wp_region_later (by kernel_rfl) (by kernel_rfl) ?_
        repeat (go_big_quiet_step (first | (go_at_call 11; exact later_left (HS.out _)) | (go_at_call 14; exact later_left (HW.out _))))
        refine wpQuiet_nil ?_
        rintro _ ⟨s, rfl⟩
        go_wp2
        go_roundw
        case rel => exact ⟨k + 1, by omega, by go_num, GW.out s⟩
        case measure => simp [intOf]; omega
    · obtain rfl : k = 3 := by omega
      have HD := Lib.hid (fun W => decode_yes v W HV.out HIV.out)
      unfold opV at HD
      have gr : Below w.heap.size w wr := below_up gV hb
      clear HP HL gV hb HSZ
      generalize pC v = c3 at *
      generalize pA v = a3 at *
      generalize pB v = b3 at *
      generalize pD v = d3 at *
      generalize pN v = n3 at *
      go_wp2_with fail
      refine (HD.out _).mono ?_
      rintro e W3 ⟨rfl, h3⟩
      go_wp2_with fail
      refine (awake2_in _).mono ?_
      rintro e W4 ⟨rfl, h4⟩
      go_wp2
      go_ret
      exact ⟨rfl, below_up (below_more (below_up gr h3) _) h4⟩

/-! ### the row's step -/
set_option maxRecDepth 100000 in
theorem lifted (os : Os) (started : os.Started) (H : Type) (enc : TypeId × Value → H) :
    ReturnsInHanded {} Try.checked os 5 .any (Rows.codeReadsSpec.pre6 enc Try.prog Try.f5 Rows.codeReadsRow.domain false) (Rows.codeReadsSpec.post enc Try.prog Try.f5 false true false false) := by
  refine returnsInHanded_of_change (C := Try.checked) own started (by kernel_rfl) Try.func5
    (ChangeSpec.witness6 (enc := enc) (C := Try.checked) false ⟨#[], #[.int .u32 0, .agg #[.int .u8 0, .int .u8 0, .int .u8 0, .int .u8 0, .int .i16 0], .int .u8 0], []⟩ 8 (by kernel_rfl) (by kernel_rfl) (by kernel_rfl) (by kernel_rfl)) ?_
  intro W base args ds gs before hval0 hW hcnd _
  have hval : ∀ (j : Nat) t v, Try.f5.params[j]? = some t → args[j]? = some v → Value.okWide Try.prog W .any base t v := hval0
  have hW' := hW
  obtain ⟨p, q, hA0, hV, rfl, hfz, hnd⟩ := hW
  have hA : DataW.TrodAll enc Try.prog W 0 (fun _ => true) true Try.f5.params.toList args.toList ds p := hA0
  rw [Try.params5] at hA hval
  obtain ⟨v0, vs0, d0, ds0, p0, q0, hargs, rfl, rfl, h0, r0⟩ := trodAll_cons hA
  obtain ⟨v1, vs1, d1, ds1, p1, q1, rfl, rfl, rfl, h1, r1⟩ := trodAll_cons r0
  obtain ⟨v2, vs2, d2, ds2, p2, q2, rfl, rfl, rfl, h2, r2⟩ := trodAll_cons r1
  obtain ⟨rfl, rfl, rfl⟩ := trodAll_nil r2
  obtain rfl : args = #[v0, v1, v2] := by cases args; simp_all
  obtain ⟨rfl, rfl⟩ := trodVars_none hV
  obtain ⟨a0, rfl, rfl, rfl, w0⟩ := open_int Try.underlying30 (hval 0 30 v0 rfl rfl) h0
  obtain ⟨n0, rfl, b0⟩ := wf_u32 w0
  have k1 := h1
  have lt1 : ∀ x ∈ p1, x.block < W.heap.size := by obtain ⟨m, hm⟩ := k1; exact DataW.trod_lt m _ _ _ hm
  obtain ⟨x1_0, x1_1, x1_2, x1_3, x1_4, rfl, w1_0, w1_1, w1_2, w1_3, w1_4⟩ := open24 (hval 1 24 v1 rfl rfl) h1
  obtain ⟨n1_0, rfl, b1_0⟩ := wf_u8 w1_0
  obtain ⟨n1_1, rfl, b1_1⟩ := wf_u8 w1_1
  obtain ⟨n1_2, rfl, b1_2⟩ := wf_u8 w1_2
  obtain ⟨n1_3, rfl, b1_3⟩ := wf_u8 w1_3
  have b1_4 := wf_i16 w1_4
  obtain ⟨a2, rfl, rfl, rfl, w2⟩ := open_int Try.underlying5 (hval 2 5 v2 rfl rfl) h2
  obtain ⟨n2, rfl, b2⟩ := wf_u8 w2
  clear hA0 hval0
  refine (walk n0 b0 n1_0 b1_0 n1_1 b1_1 n1_2 b1_2 n1_3 b1_3 x1_4 b1_4 n2 b2 W ).mono fun e W' ⟨he, bel⟩ => ?_
  subst he
  exact ⟨_, rfl, _, _, _, [], _, [], hW', trodAll_mk1 (shut_bool Try.underlying4 _), (trodAll_cons_mk (shut_int Try.underlying30 w0) (trodAll_cons_mk (Below.trod laidOut (by kernel_rfl) (of_decide_eq_true (by kernel_rfl)) k1 bel lt1) (trodAll_cons_mk (shut_int Try.underlying5 w2) trodAll_mk0))), rfl, bel.frame _, fun h => by cases h⟩

theorem over : Rows.codeReadsRow.holds Try.pinned (OpenSpec.ofChange Rows.codeReadsSpec) :=
  OpenClaim.holds_of_wide 5 Try.f5 rfl rfl rfl rfl rfl rfl rfl ⟨rfl, rfl, rfl, rfl, rfl⟩ rfl rfl rfl rfl rfl (by kernel_rfl) Try.func5 (by kernel_rfl)
    (of_decide_eq_true (by kernel_rfl)) (by unfold Func.isWrapper; first | (rw [if_pos (by decide +kernel)]; kernel_rfl) | (rw [if_neg (by decide +kernel)]; exact ⟨rfl, rfl⟩))
    (fun os started H enc _ => lifted os started H enc)

/-- THE STATEMENT -/
theorem proved : Rows.CodeReadsSaid := over
#print axioms proved
end Go.Proofs.Ytllgmiabidnpjaa.codeReads
