/-
  Package text's Lay: lines, parted by semicolons, as bytes; or the first that is none.
-/
import Derived.Test.YtclieoeaknlfbaaDoorTP
import Derived.Test.YtclieoeaknlfbaaDoorTL
import Derived.Shelf.Strings.Trim
namespace Go.Proofs.YtclieoeaknlfbaaDoor
open Go.Shelf Go.Proofs
shelf_lay Lays.n160 Nm 160 at Tryd as lays_trim
open Go.ChangeShapes Go.WideShapes Go.ChangeAt Go.RowKit
open WM CM
set_option maxRecDepth 100000
set_option linter.unusedVariables false
set_option linter.unusedSimpArgs false
theorem trim_in (l : List UInt8) (w : World) (hl : l.length ≤ 1000000) :
    Calls Tryd.prog 15 #[.string (str l), .string ⟨#[32]⟩] w fun e w' => e = .returned (.string (str (Lib.trimB l 32))) ∧ Below w.heap.size w w' :=
  (Any.strings_Trim_one lays_trim (str l) 32 (by decide) w (by rw [str_size]; omega)).mono fun _ _ ⟨he, hw⟩ => ⟨he, by
    rcases hw with rfl | rfl
    · exact Below.refl _ _
    · exact below_dr w⟩
theorem ixc_at (c : UInt8) (p r : List UInt8) (h : c ∉ p) : Lib.indexByte (p ++ c :: r) c = (p.length : Int) := by
  induction p with
  | nil => simp [Lib.indexByte]
  | cons b l ih =>
    simp only [List.mem_cons, not_or] at h
    have h1 : (b == c) = false := by rw [beq_eq_false_iff_ne]; exact fun e => h.1 e.symm
    rw [List.cons_append]
    unfold Lib.indexByte
    rw [h1, ih h.2]
    have : ((l.length : Int) == -1) = false := by rw [beq_eq_false_iff_ne]; omega
    rw [this]
    simp
theorem ixc_no (c : UInt8) (p : List UInt8) (h : c ∉ p) : Lib.indexByte p c = -1 := by
  induction p with
  | nil => rfl
  | cons b l ih =>
    simp only [List.mem_cons, not_or] at h
    have h1 : (b == c) = false := by rw [beq_eq_false_iff_ne]; exact fun e => h.1 e.symm
    unfold Lib.indexByte
    rw [h1, ih h.2]
    rfl
/-- Lines, parted by semicolons. -/
def joinL : List (List UInt8) → List UInt8
  | [] => []
  | [l] => l
  | l :: m :: ls => l ++ 59 :: joinL (m :: ls)
theorem cut_join (l : List UInt8) (ls : List (List UInt8)) (h : (59 : UInt8) ∉ l) : Lib.cut (joinL (l :: ls)) [59] = (l, joinL ls, decide (0 < ls.length)) := by
  unfold Lib.cut
  rw [Lib.index_one]
  cases ls with
  | nil =>
    rw [show joinL [l] = l from rfl, ixc_no 59 l h, if_neg (by omega)]
    rfl
  | cons m ls =>
    rw [show joinL (l :: m :: ls) = l ++ 59 :: joinL (m :: ls) from rfl, ixc_at 59 l _ h, if_pos (by omega)]
    have h1 : ((l.length : Int)).toNat = l.length := by omega
    rw [h1]
    congr 1
    · simp
    · congr 1
      rw [List.drop_append]; simp
theorem join_len (l : List UInt8) (ls : List (List UInt8)) : l.length ≤ (joinL (l :: ls)).length ∧ (joinL ls).length ≤ (joinL (l :: ls)).length := by
  cases ls with
  | nil => exact ⟨Nat.le_refl _, Nat.zero_le _⟩
  | cons m ls =>
    rw [show joinL (l :: m :: ls) = l ++ 59 :: joinL (m :: ls) from rfl]
    simp only [List.length_append, List.length_cons]
    omega
theorem join_drop (ls : List (List UInt8)) : ∀ j, (joinL (ls.drop j)).length ≤ (joinL ls).length := by
  induction ls with
  | nil => intro j; simp
  | cons l ls ih =>
    intro j
    cases j with
    | zero => exact Nat.le_refl _
    | succ j => exact Nat.le_trans (ih j) (join_len l ls).2
theorem trimB_len (l : List UInt8) : (Lib.trimB l 32).length ≤ l.length := by
  have h : ∀ l : List UInt8, (l.dropWhile (· == 32)).length ≤ l.length := fun l => (List.dropWhile_sublist _).length_le
  unfold Lib.trimB Lib.trimLeftB Lib.trimRightB
  refine Nat.le_trans (h _) ?_
  rw [List.length_reverse]
  exact Nat.le_trans (h _) (by simp)
/-- A line's word. -/
def lw (l : List UInt8) : Nat := wordN (gC (Lib.trimB l 32)) (gA (Lib.trimB l 32)) (gB (Lib.trimB l 32)) (gD (Lib.trimB l 32)) (gN (Lib.trimB l 32))
def w4V (X : Nat) : List Value := [.int .u8 ((X : Int) % 256), .int .u8 ((X : Int) / 256 % 256), .int .u8 ((X : Int) / 65536 % 256), .int .u8 ((X : Int) / 16777216)]
def layV (ls : List (List UInt8)) (k : Nat) : List Value := (ls.take k).flatMap fun l => w4V (lw l)
theorem layV_next (ls : List (List UInt8)) (k : Nat) (l : List UInt8) (h : ls[k]? = some l) : layV ls k ++ w4V (lw l) = layV ls (k + 1) := by
  unfold layV
  rw [List.take_add_one, h]
  simp
theorem four_u8 (W : World) (x0 x1 x2 x3 : Int) : ∀ (j : Nat) (u : Value), [Value.int .u8 x0, .int .u8 x1, .int .u8 x2, .int .u8 x3][j]? = some u →
    (W.alloc (.cells #[.int .u8 x0, .int .u8 x1, .int .u8 x2, .int .u8 x3] 5)).cell? ((⟨W.heap.size, 0, none⟩ : Addr).add j) = some u := by
  intro j u hj
  have hplain : (⟨W.heap.size, 0, none⟩ : Addr).add j = ⟨W.heap.size, j, none⟩ := by unfold Addr.add; split <;> simp_all
  rw [hplain, World.cell?_alloc_new]
  simpa using hj
theorem infoB : (Tryd.prog.info? 5).map (fun i => (i.zero, i.size, i.bytes)) = some (some (.int .u8 0), 1, 1) := by kernel_rfl
theorem undB : Tryd.prog.underlying 23 = some (.slice 5) := by kernel_rfl
structure YI (w wr : World) (ls : List (List UInt8)) (j : Nat) (v : Value) : Prop where
  own : wr.ownsRow w.heap.size 5 1 v (4 * j) (layV ls j)
  bel : Below w.heap.size w wr
set_option maxHeartbeats 4000000 in
theorem lay_in (ls : List (List UInt8)) (k : Nat) (w : World) (hk : k ≤ ls.length) (hne : 0 < ls.length) (hL : ls.length ≤ 100) (h59 : ∀ l ∈ ls, (59 : UInt8) ∉ l) (hlen : (joinL ls).length ≤ 1000000)
    (hok : ∀ j l, j < k → ls[j]? = some l → readB (Lib.trimB l 32) = true) (hno : ∀ l, ls[k]? = some l → readB (Lib.trimB l 32) = false) (hT : TW w) :
    Calls Tryd.prog 8 #[.string (str (joinL ls))] w fun e w' => Below w.heap.size w w' ∧
      ((k < ls.length ∧ e = .returned (.tuple #[.slice none 0 0, .int .i64 k, .int .i64 4])) ∨ (k = ls.length ∧ ∃ v, e = .returned (.tuple #[v, .int .i64 0, .int .i64 0]) ∧ w'.ownsRow w.heap.size 5 1 v (4 * k) (layV ls k))) := by
  have H0 : Hid (YI w w ls 0 (.slice none 0 0)) := Lib.hid ⟨World.ownsRow_nil _ _ _ _, Below.refl _ _⟩
  have HT := Lib.hid hT
  have HOK := Lib.hid hok
  have HNO := Lib.hid hno
  have H59 := Lib.hid h59
  have HJ := Lib.hid (fun j => Nat.le_trans (join_drop ls j) hlen)
  clear hT hok hno h59 hlen
  go_enter Tryd.func8, Tryd.ntmps8
  go_wp2_with fail
  go_loopw [0, 5, 6, 7] (fun s v i m wr => ∃ j : Nat, j ≤ k ∧ s = .string (str (joinL (ls.drop j))) ∧ i = .int .i64 j ∧ m = .bool (decide (j < ls.length)) ∧ YI w wr ls j v) (fun _ _ i _ _ => (200 - intOf i).toNat)
  case atStart => exact ⟨0, by omega, by simp, rfl, by simp [hne], H0.out⟩
  case round =>
    obtain ⟨j, hj, rfl, rfl, rfl, HY⟩ := hrel
    have HY' := Lib.hid HY
    clear HY H0
    by_cases hlt : j < ls.length
    · obtain ⟨l, hl⟩ : ∃ l, ls[j]? = some l := ⟨_, List.getElem?_eq_getElem hlt⟩
      have hdr : ls.drop j = l :: ls.drop (j + 1) := by
        rw [List.drop_eq_getElem_cons hlt]
        congr 1
        have := List.getElem?_eq_getElem hlt
        rw [this] at hl
        exact Option.some.inj hl
      have hcj := cut_join l (ls.drop (j + 1)) ((H59.out) l (List.mem_of_getElem? hl))
      have hjl := HJ.out j
      rw [hdr] at hjl ⊢
      have hll : l.length ≤ 1000000 := Nat.le_trans (join_len l _).1 hjl
      have HC := Lib.hid (fun W hW => cut_in (str (joinL (l :: ls.drop (j + 1)))) ⟨#[59]⟩ W (by rw [str_size]; exact hjl) hW)
      rw [str_data, show (⟨#[59]⟩ : ByteArray).data.toList = [59] from rfl, hcj] at HC
      have hdl : decide (0 < (ls.drop (j + 1)).length) = decide (j + 1 < ls.length) := by rw [List.length_drop]; congr 1; simp; omega
      simp only [hdl] at HC
      have HTR := Lib.hid (fun W => trim_in l W hll)
      have htl : (Lib.trimB l 32).length ≤ 1000000 := Nat.le_trans (trimB_len l) hll
      have HLN := Lib.hid (layV_next ls j l hl)
      have Hl := Lib.hid hl
      clear hdl hcj hdr hjl hll hl
      have hmv : decide (j < ls.length) = true := by simp [hlt]
      rw [hmv]
      clear hmv
      obtain ⟨sn, hsn⟩ : ∃ sn, str (joinL (ls.drop (j + 1))) = sn := ⟨_, rfl⟩
      obtain ⟨so, hso⟩ : ∃ so, str (joinL (l :: ls.drop (j + 1))) = so := ⟨_, rfl⟩
      obtain ⟨mo, hmo⟩ : ∃ mo, decide (j + 1 < ls.length) = mo := ⟨_, rfl⟩
      rw [hsn, hso, hmo] at HC
      rw [hso]
      have HSN := Lib.hid hsn
      have HMO := Lib.hid hmo
      clear hsn hso hmo
      go_wp2_with fail
      refine (HC.out _ ((HT.out).later (HY'.out).bel)).mono ?_
      rintro e W1 ⟨rfl, b1⟩
      have B1 := Lib.hid (below_up (HY'.out).bel b1)
      have O1 := Lib.hid (own_below (HY'.out).own b1)
      clear b1 HC HY'
      go_wp2_with fail
      refine (HTR.out _).mono ?_
      rintro e W2 ⟨rfl, b2⟩
      have B2 := Lib.hid (below_up (B1.out) b2)
      have O2 := Lib.hid (own_below (O1.out) b2)
      clear b2 HTR B1 O1
      by_cases hjk : j < k
      · have hrd := (HOK.out) j l hjk (Hl.out)
        have HD := Lib.hid (fun W hW => read_yes (Lib.trimB l 32) W htl hW hrd)
        unfold readB at hrd
        simp only [Bool.and_eq_true, beq_iff_eq] at hrd
        obtain ⟨hr, _⟩ := hrd
        have HE := Lib.hid (fun W => encode_yes _ _ _ _ _ W hr)
        have hX : wordN (gC (Lib.trimB l 32)) (gA (Lib.trimB l 32)) (gB (Lib.trimB l 32)) (gD (Lib.trimB l 32)) (gN (Lib.trimB l 32)) < 4294967296 := by
          obtain ⟨q1, q2, q3, q4⟩ := right_lt hr
          exact word_lt (by omega) q2 q3 q4
        have HLN' := HLN.out
        unfold lw at HLN'
        have HLN := Lib.hid HLN'
        unfold opV at HD HE
        clear hr HLN'
        generalize Lib.trimB l 32 = t at *
        generalize gC t = c3 at *
        generalize gA t = a3 at *
        generalize gB t = b3 at *
        generalize gD t = d3 at *
        generalize gN t = n3 at *
        generalize wordN c3 a3 b3 d3 n3 = X at *
        go_wp2_with fail
        refine (HD.out _ ((HT.out).later (B2.out))).mono ?_
        rintro e W3 ⟨rfl, x3⟩
        have B3 := Lib.hid (below_more (below_up (B2.out) x3) (.cells #[.int .u8 c3, .int .u8 a3, .int .u8 b3, .int .u8 d3, .int .i16 n3] 27))
        have O3 := Lib.hid (World.ownsRow.alloc (own_below (O2.out) x3) (.cells #[.int .u8 c3, .int .u8 a3, .int .u8 b3, .int .u8 d3, .int .i16 n3] 27))
        obtain ⟨k0, k1, k2, k3, k4, kl, kf⟩ := lies_new W3 c3 a3 b3 d3 n3 27
        clear x3 B2 O2 HD
        go_wp2_with fail
        refine (HE.out _).mono ?_
        rintro e W4 ⟨rfl, b4⟩
        have B4 := Lib.hid (below_up (B3.out) b4)
        have O4 := Lib.hid (own_below (O3.out) b4)
        clear b4 B3 O3 HE k0 k1 k2 k3 k4 kl kf
        obtain ⟨i0, hi0, hz0, hz1, hz2⟩ := info_parts infoB
        go_wp2_with (at_builtin
                     refine wpList_append_own _ rfl (.tmp 37) (.tmp 49) _ rfl w.heap.size 5 i0 (.int .u8 0) 1 1 undB hi0 hz0 hz1 hz2 rfl (by omega) u5 (4 * j) (layV ls j) rfl
                       (World.ownsRow.alloc (O4.out) _) ⟨W4.heap.size, 0, none⟩ 4 4 (w4V X) rfl rfl (four_u8 W4 _ _ _ _) (by simp [w4V, Value.oneCell']) (by unfold maxLen; omega) (by omega) (by have := (B4.out).size; simp; omega) ?_
                     intro v7 w7 ho7 hg7 hat7
                     rw [HLN.out] at ho7
                     have b7 := (below_more (B4.out) _).grown hg7 (below_more (B4.out) _).size (fun j hj => by have := (World.ownsRow.lt (O4.out) j hj).1; omega)
                     have O7 := Lib.hid ho7
                     have B7 := Lib.hid b7
                     clear ho7 hg7 hat7 b7 hi0 hz0 hz1 hz2)
        go_roundw
        case rel => exact ⟨j + 1, by omega, by rw [HSN.out], by go_num, by rw [HMO.out], ⟨O7.out, B7.out⟩⟩
        case measure => simp [intOf]; omega
      · obtain rfl : j = k := by omega
        have hrd := (HNO.out) l (Hl.out)
        have HD := Lib.hid (fun W hW => read_no (Lib.trimB l 32) W htl hW hrd)
        unfold opV at HD
        clear hrd
        generalize Lib.trimB l 32 = t at *
        go_wp2_with fail
        refine (HD.out _ ((HT.out).later (B2.out))).mono ?_
        rintro e W3 ⟨rfl, x3⟩
        have B3 := Lib.hid (below_more (below_up (B2.out) x3) (.cells #[.int .u8 0, .int .u8 0, .int .u8 0, .int .u8 0, .int .i16 0] 27))
        clear x3 HD
        go_wp2
        go_ret3
        exact ⟨B3.out, .inl ⟨hlt, rfl⟩⟩
    · obtain rfl : j = k := by omega
      have hjL : j = ls.length := by omega
      have hmv : decide (j < ls.length) = false := by simp [hlt]
      rw [hmv]
      clear hmv
      go_wp2
      go_ret3
      exact ⟨(HY'.out).bel, .inr ⟨hjL, _, rfl, (HY'.out).own⟩⟩
end Go.Proofs.YtclieoeaknlfbaaDoor
