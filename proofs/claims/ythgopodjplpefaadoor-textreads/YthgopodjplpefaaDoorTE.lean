/-
  TextReads: a text as bytes, one of them another one, and back as a text; the walk.
-/
import Derived.Test.YthgopodjplpefaaDoorTD
import Derived.Test.YthgopodjplpefaaDoorCN
import Derived.Test.YthgopodjplpefaaDoorTP
import Derived.Test.YthgopodjplpefaaDoorTL
import Derived.Lib.ConvBytes
import Derived.Laws.BytesArg
import Derived.Deep.Slices
import Derived.Deep.Fields
namespace Go.Proofs.YthgopodjplpefaaDoor
open Go.ChangeShapes Go.WideShapes Go.ChangeAt Go.RowKit
open WM CM
set_option maxRecDepth 100000
set_option linter.unusedVariables false
set_option linter.unusedSimpArgs false
theorem conv_str (W : World) (y : ByteArray) :
    ∃ (V : World) (cap : Nat) (g : Nat → Nat), (convert 9 34 (.string y)).run Tryd.prog W = .ok (.slice (some ⟨W.heap.size, 0, none⟩) y.size cap) V ∧ Below W.heap.size W V ∧ W.heap.size < V.heap.size ∧ (∀ j, g j < 256) ∧
      (∀ j, j < y.size → V.cell? ⟨W.heap.size, j, none⟩ = some (.int .u8 (g j : Nat))) ∧ (∀ j, j < y.size → V.frozen? ⟨W.heap.size, j, none⟩ = false) := by
  refine ⟨Lib.bytesWorld W 5 y, _, fun j => (y.data.toList.getD j 0).toNat, Lib.run_convert_string_bytes W _ _ 5 y (u := .string) Tryd.underlying9 Tryd.underlying34 Tryd.underlying5, below_bytes W _ y, ?_, fun j => UInt8.toNat_lt _, fun j hj => Lib.bytesWorld_cell W _ y j hj, fun j hj => ?_⟩
  · rw [Lib.bytesWorld_size]; omega
  · have hs : y.size ≤ (Lib.bytesCells W 5 y).size := by
      rcases Nat.lt_or_ge ((Lib.bytesCells W 5 y).size) y.size with h | h
      · have h1 := Lib.bytesWorld_cell W 5 y _ h
        unfold World.cell? at h1
        rw [Lib.bytesWorld_at_new] at h1
        simp at h1
      · exact h
    unfold World.frozen?
    simp only [Lib.bytesWorld_at_new]
    simp
    omega
theorem conv_back (W : World) (B n cap : Nat) (g : Nat → Nat) (hc : ∀ j, j < n → W.cell? ⟨B, j, none⟩ = some (.int .u8 (g j : Nat))) :
    (convert 34 9 (.slice (some ⟨B, 0, none⟩) n cap)).run Tryd.prog W = .ok (.string (strOfNums ((List.range n).map fun j => (g j : Int)))) W := by
  refine run_convert_bytes_arg W _ 5 Tryd.underlying34 Tryd.underlying5 B 0 n cap _ (by simp) (fun i hi => ?_) _ Tryd.underlying9
  rw [Nat.zero_add, hc i hi]
  simp [List.getD_eq_getElem?_getD, hi]
theorem nums_size (n : Nat) (g : Nat → Nat) : (strOfNums ((List.range n).map fun j => (g j : Int))).size = n := by rw [strOfNums_size]; simp
/-- One of four. -/
def pick4 (s z : ByteArray) (k : Nat) : ByteArray := if k = 0 then s else if k = 1 then z else if k = 2 then z ++ ⟨#[32]⟩ else z ++ ⟨#[48]⟩
theorem pick4_size (s z : ByteArray) (k : Nat) (hs : s.size ≤ 50) (hz : z.size ≤ 50) : (pick4 s z k).size ≤ 51 := by
  have e1 : (z ++ (⟨#[32]⟩ : ByteArray)).size = z.size + 1 := by rw [ByteArray.size_append]; rfl
  have e2 : (z ++ (⟨#[48]⟩ : ByteArray)).size = z.size + 1 := by rw [ByteArray.size_append]; rfl
  unfold pick4
  split
  · omega
  · split
    · omega
    · split <;> omega
theorem row4 (W : World) (t : TypeId) (s z : ByteArray) (k : Nat) (hk : k < 4) : (W.alloc (.cells #[.string s, .string z, .string (z ++ ⟨#[32]⟩), .string (z ++ ⟨#[48]⟩)] t)).cell? ⟨W.heap.size, k, none⟩ = some (.string (pick4 s z k)) := by
  rw [World.cell?_alloc_new]
  have h : k = 0 ∨ k = 1 ∨ k = 2 ∨ k = 3 := by omega
  rcases h with rfl | rfl | rfl | rfl <;> rfl
theorem lies_put {W : World} {B c a b d : Nat} {n : Int} (h : Lies W B c a b d n) (c' a' b' d' : Nat) (n' : Int) :
    Lies (((((W.setCell ⟨B, 0, none⟩ (.int .u8 c')).setCell ⟨B, 1, none⟩ (.int .u8 a')).setCell ⟨B, 2, none⟩ (.int .u8 b')).setCell ⟨B, 3, none⟩ (.int .u8 d')).setCell ⟨B, 4, none⟩ (.int .i16 n')) B c' a' b' d' n' := by
  obtain ⟨r0, r1, r2, r3, r4⟩ := set5 W B (.int .u8 c') (.int .u8 a') (.int .u8 b') (.int .u8 d') (.int .i16 n') (by simp [h.k0]) (by simp [h.k1]) (by simp [h.k2]) (by simp [h.k3]) (by simp [h.k4])
  exact ⟨r0, r1, r2, r3, r4, by simp [World.setCell]; exact h.lt, fun i => by simp [h.fz i]⟩
theorem below_put {w W : World} {B : Nat} (h : Below w.heap.size w W) (hB : w.heap.size ≤ B) {v0 v1 v2 v3 v4 : Value} :
    Below w.heap.size w (((((W.setCell ⟨B, 0, none⟩ v0).setCell ⟨B, 1, none⟩ v1).setCell ⟨B, 2, none⟩ v2).setCell ⟨B, 3, none⟩ v3).setCell ⟨B, 4, none⟩ v4) :=
  ((((h.setCell hB _).setCell hB _).setCell hB _).setCell hB _).setCell hB _
theorem show_pos (c a b d : Nat) (n : Int) (hr : rightB c a b d n = true) : 0 < (showL c a b d n).length := by
  obtain ⟨hc, _⟩ := right_lt hr
  have h : ∀ c : Fin 23, 0 < (nameL c.1).length := by decide
  have := h ⟨c, hc⟩
  unfold showL
  simp only [List.length_append]
  simp only at this
  omega
set_option maxHeartbeats 2000000 in
theorem reads_walk (s : ByteArray) (pc pa pb pd : Nat) (pn : Int) (at' ch : Nat) (w : World) (hs : s.size ≤ 50) (hpn : -32768 ≤ pn ∧ pn ≤ 32767) (hat : at' < 256) (hch : ch < 256) (hT : TW w) :
    Calls Tryd.prog 4 #[.string s, .agg #[.int .u8 pc, .int .u8 pa, .int .u8 pb, .int .u8 pd, .int .i16 pn], .int .u8 at', .int .u8 ch] w fun e w' => e = .returned (.bool true) ∧ Below w.heap.size w w' := by
  have HN := Lib.hid (fun W => near_in pc pa pb pd pn W)
  unfold opV at HN
  have hr := near_right pc pa pb pd pn
  have hn := near_n (c := pc) hpn
  generalize nC pc = c at *
  generalize nA pc pa = a at *
  generalize nB pc pb = b at *
  generalize nD pc pd = d at *
  generalize nN pc pn = n at *
  have HT := Lib.hid hT
  have HX := Lib.hid (fun W => reftext_in c a b d n W hn hr)
  have HA := Lib.hid (fun W hW => awake3_in W hW)
  have hl1 := show_len c a b d n hr hn
  have hl2 := show_pos c a b d n hr
  rw [← str_size] at hl1 hl2
  clear hr hn hpn hT
  generalize str (showL c a b d n) = y at *
  have LO := lies_new w pc pa pb pd pn 24
  have B0 := below_new w (.cells #[.int .u8 pc, .int .u8 pa, .int .u8 pb, .int .u8 pd, .int .i16 pn] 24)
  have hs' : ¬ (50 : Int) < s.size := by omega
  go_enter Tryd.func4, Tryd.ntmps4
  go_wp2_with fail
  refine (HA.out _ ((HT.out).later B0)).mono ?_
  rintro e W1 ⟨rfl, b1⟩
  have B1 := below_up B0 b1
  have L1 := LO.later b1
  have LH := Lib.hid L1
  obtain ⟨k0, k1, k2, k3, k4, kl, kf⟩ := L1
  clear B0 b1 LO
  go_wp2_with fail
  refine (HN.out _).mono ?_
  rintro e W2 ⟨rfl, b2⟩
  have B2 := below_put (v0 := .int .u8 c) (v1 := .int .u8 a) (v2 := .int .u8 b) (v3 := .int .u8 d) (v4 := .int .i16 n) (below_up B1 b2) (Nat.le_refl _)
  have L2 := lies_put ((LH.out).later b2) c a b d n
  have l2 := (LH.out).later b2
  clear k0 k1 k2 k3 k4 kl kf LH B1 b2
  have LH := Lib.hid L2
  have B2H := Lib.hid B2
  obtain ⟨k0, k1, k2, k3, k4, kl, kf⟩ := l2
  clear B2 L2
  go_wp2_with fail
  refine (HX.out _).mono ?_
  rintro e W3 ⟨rfl, b3⟩
  have B3 := below_up B2H.out b3
  clear k0 k1 k2 k3 k4 kl kf LH B2H b3 HX HN
  obtain ⟨V, cap, g, hcv, hbV, hsV, hg, hcV, hfV⟩ := conv_str W3 y
  have BV := below_up B3 hbV
  obtain ⟨m, hm⟩ : ∃ m, y.size = m := ⟨_, rfl⟩
  rw [hm] at hcv hcV hfV hl1 hl2
  have him : at' % m < m := Nat.mod_lt _ hl2
  have htm : Int.tmod (at' : Int) (m : Int) = ((at' % m : Nat) : Int) := by rw [Int.tmod_eq_emod_of_nonneg (by omega)]; rfl
  have hne : (m : Int) ≠ 0 := by omega
  have hcI := hcV (at' % m) him
  have hfI := hfV (at' % m) him
  have HV := Lib.hid hcV
  generalize at' % m = i at *
  have BW : Below w.heap.size w (V.setCell ⟨W3.heap.size, i, none⟩ (.int .u8 ch)) := BV.setCell B3.size _
  have hcW : ∀ j, j < m → (V.setCell ⟨W3.heap.size, i, none⟩ (.int .u8 ch)).cell? ⟨W3.heap.size, j, none⟩ = some (.int .u8 ((if j = i then ch else g j : Nat))) := by
    intro j hj
    by_cases h : j = i
    · subst h
      rw [if_pos rfl]; exact set_same _ _ _ _ (by simp [hcI])
    · rw [if_neg h, set_other _ _ _ _ _ (Ne.symm h)]
      exact hcV j hj
  have hback := conv_back (V.setCell ⟨W3.heap.size, i, none⟩ (.int .u8 ch)) W3.heap.size m cap _ hcW
  have hzs := nums_size m (fun j => if j = i then ch else g j)
  generalize strOfNums ((List.range m).map fun j => (((fun j => if j = i then ch else g j) j : Nat) : Int)) = z at *
  clear hcV hfV hbV hcW hg HV
  go_wp2_with fail
  have gV := below_more BW (.cells #[.string s, .string z, .string (z ++ ⟨#[32]⟩), .string (z ++ ⟨#[48]⟩)] 9)
  have HL := Lib.hid (fun k hk => row4 (V.setCell ⟨W3.heap.size, i, none⟩ (.int .u8 ch)) 9 s z k hk)
  have HP := Lib.hid (fun k => pick4_size s z k hs (by omega))
  have HSZ := Lib.hid (show (V.setCell ⟨W3.heap.size, i, none⟩ (.int .u8 ch)).heap.size < ((V.setCell ⟨W3.heap.size, i, none⟩ (.int .u8 ch)).alloc (.cells #[.string s, .string z, .string (z ++ ⟨#[32]⟩), .string (z ++ ⟨#[48]⟩)] 9)).heap.size by simp)
  have esz : (V.setCell ⟨W3.heap.size, i, none⟩ (.int .u8 ch)).heap.size = V.heap.size := by simp
  rw [esz] at HL HSZ
  try simp only [esz]
  clear esz hcI hfI hback hcv BV BW B3 hsV hzs htm hne him hl1 hl2 hs' hs hat hch
  generalize (V.setCell ⟨W3.heap.size, i, none⟩ (.int .u8 ch)).alloc (.cells #[.string s, .string z, .string (z ++ ⟨#[32]⟩), .string (z ++ ⟨#[48]⟩)] 9) = U at *
  generalize V.heap.size = lb at *
  go_loopw [55] (fun i wr => ∃ k : Nat, k ≤ 4 ∧ i = .int .i64 k ∧ Below U.heap.size U wr) (fun i _ => (4 - intOf i).toNat)
  case atStart => exact ⟨0, by omega, rfl, Below.refl _ _⟩
  case round =>
    obtain ⟨k, hk, rfl, hb⟩ := hrel
    by_cases hlt : k < 4
    · have kc : wr.cell? ⟨lb, k, none⟩ = some (.string (pick4 s z k)) := (hb.cell (by exact HSZ.out)).trans (HL.out k hlt)
      have hz := HP.out k
      have GR := Lib.hid (below_up gV hb)
      have HB := Lib.hid hb
      clear HP HL gV hb HSZ
      obtain ⟨l, hl⟩ : ∃ l, pick4 s z k = str l := ⟨(pick4 s z k).data.toList, (str_same _).symm⟩
      rw [hl] at kc hz
      rw [str_size] at hz
      clear hl
      have hz' : l.length ≤ 1000000 := by omega
      cases hw : readB l
      · have HD := Lib.hid (fun W hW => read_no l W hz' hW hw)
        unfold opV at HD
        clear hw hz hz'
        go_wp2_with fail
        refine (HD.out _ ((HT.out).later GR.out)).mono ?_
        rintro e X1 ⟨rfl, x1⟩
        obtain ⟨k0, k1, k2, k3, k4, kl, kf⟩ := lies_zero X1 24
        have HB2 := Lib.hid (below_more (below_up HB.out x1) (.cells #[.int .u8 0, .int .u8 0, .int .u8 0, .int .u8 0, .int .i16 0] 24))
        clear x1 kc
        go_wp2
        go_roundw
        case rel => exact ⟨k + 1, by omega, by go_num, HB2.out⟩
        case measure => simp [intOf]; omega
      · have HD := Lib.hid (fun W hW => read_yes l W hz' hW hw)
        have hgn := gN_in l
        unfold readB at hw
        simp only [Bool.and_eq_true, beq_iff_eq] at hw
        obtain ⟨hr, he⟩ := hw
        have HS := Lib.hid (fun W => refright_in (gC l) (gA l) (gB l) (gD l) (gN l) W)
        have HX := Lib.hid (fun W => reftext_in (gC l) (gA l) (gB l) (gD l) (gN l) W hgn hr)
        rw [hr] at HS
        rw [he] at HX
        unfold opV at HD
        clear hr he hz hz' hgn
        generalize gC l = c3 at *
        generalize gA l = a3 at *
        generalize gB l = b3 at *
        generalize gD l = d3 at *
        generalize gN l = n3 at *
        go_wp2_with fail
        refine (HD.out _ ((HT.out).later GR.out)).mono ?_
        rintro e X1 ⟨rfl, x1⟩
        have LN := lies_new X1 c3 a3 b3 d3 n3 24
        have LNH := Lib.hid LN
        obtain ⟨k0, k1, k2, k3, k4, kl, kf⟩ := LN
        have HB2 := Lib.hid (below_more (below_up HB.out x1) (.cells #[.int .u8 c3, .int .u8 a3, .int .u8 b3, .int .u8 d3, .int .i16 n3] 24))
        clear x1 kc
        go_wp2_with fail
        refine (HS.out _).mono ?_
        rintro e X2 ⟨rfl, x2⟩
        have LN2 := (LNH.out).later x2
        have HB3 := Lib.hid (below_up HB2.out x2)
        clear x2 LNH k0 k1 k2 k3 k4 kl kf HB2
        obtain ⟨k0, k1, k2, k3, k4, kl, kf⟩ := LN2
        go_wp2_with fail
        refine (HX.out _).mono ?_
        rintro e X3 ⟨rfl, x3⟩
        have HB4 := Lib.hid (below_up HB3.out x3)
        clear x3 k0 k1 k2 k3 k4 kl kf HB3
        have tt : ((str l).toList != (str l).toList) = false := by simp
        go_wp2
        go_roundw
        case rel => exact ⟨k + 1, by omega, by go_num, HB4.out⟩
        case measure => simp [intOf]; omega
    · obtain rfl : k = 4 := by omega
      have bW := below_up gV hb
      go_wp2
      go_ret
      exact ⟨rfl, bW⟩
theorem reads_long (s : ByteArray) (pc pa pb pd : Nat) (pn : Int) (at' ch : Nat) (w : World) (hs : ¬ s.size ≤ 50) (hm : s.size ≤ 9223372036854775807) (hT : TW w) :
    Calls Tryd.prog 4 #[.string s, .agg #[.int .u8 pc, .int .u8 pa, .int .u8 pb, .int .u8 pd, .int .i16 pn], .int .u8 at', .int .u8 ch] w fun e w' => e = .returned (.bool true) ∧ Below w.heap.size w w' := by
  have HA := Lib.hid (fun W hW => awake3_in W hW)
  have HT := Lib.hid hT
  have t1 : (50 : Int) < s.size := by omega
  have B0 := below_new w (.cells #[.int .u8 pc, .int .u8 pa, .int .u8 pb, .int .u8 pd, .int .i16 pn] 24)
  clear hT
  go_enter Tryd.func4, Tryd.ntmps4
  go_wp2_with fail
  refine (HA.out _ ((HT.out).later B0)).mono ?_
  rintro e w1 ⟨rfl, b1⟩
  have B1 := below_up B0 b1
  go_wp2_with fail
  refine (HA.out _ ((HT.out).later B1)).mono ?_
  rintro e w2 ⟨rfl, b2⟩
  go_wp2
  go_ret
  exact ⟨rfl, below_up B1 b2⟩
end Go.Proofs.YthgopodjplpefaaDoor
