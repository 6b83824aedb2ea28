/-
  The way back: what a line of Show is guessed as is the instruction that it was made of. No program in it.
-/
import Derived.Test.YtclieoeaknlfbaaDoorTD
import Derived.Lib.ParseIntBCases
import Derived.Lib.IndexBytes
import Derived.Lib.ItoaMem
namespace Go.Proofs.YtclieoeaknlfbaaDoor
open WM CM
set_option maxRecDepth 100000
set_option linter.unusedVariables false
set_option linter.unusedSimpArgs false
/-! ### blanks -/
theorem ix_at (p r : List UInt8) (h : (32 : UInt8) ∉ p) : Lib.indexByte (p ++ 32 :: r) 32 = (p.length : Int) := by
  induction p with
  | nil => simp [Lib.indexByte]
  | cons b l ih =>
    simp only [List.mem_cons, not_or] at h
    have h1 : (b == 32) = false := by rw [beq_eq_false_iff_ne]; exact fun e => h.1 e.symm
    rw [List.cons_append]
    unfold Lib.indexByte
    rw [h1, ih h.2]
    have : ((l.length : Int) == -1) = false := by rw [beq_eq_false_iff_ne]; omega
    rw [this]
    simp
theorem ix_no (p : List UInt8) (h : (32 : UInt8) ∉ p) : Lib.indexByte p 32 = -1 := by
  induction p with
  | nil => rfl
  | cons b l ih =>
    simp only [List.mem_cons, not_or] at h
    have h1 : (b == 32) = false := by rw [beq_eq_false_iff_ne]; exact fun e => h.1 e.symm
    unfold Lib.indexByte
    rw [h1, ih h.2]
    rfl
theorem cut_at (p r : List UInt8) (h : (32 : UInt8) ∉ p) : Lib.cut (p ++ 32 :: r) [32] = (p, r, true) := by
  unfold Lib.cut
  rw [Lib.index_one, ix_at p r h, if_pos (by omega)]
  have h1 : ((p.length : Int)).toNat = p.length := by omega
  rw [h1]
  congr 1
  · simp
  · congr 1
    rw [List.drop_append]
    simp
theorem cut_none (p : List UInt8) (h : (32 : UInt8) ∉ p) : Lib.cut p [32] = (p, [], false) := by
  unfold Lib.cut
  rw [Lib.index_one, ix_no p h, if_neg (by omega)]
/-! ### numbers -/
theorem dig_toNat (u : Nat) (h : u < 10) : (UInt8.ofNat (48 + u)).toNat = 48 + u := by
  rw [UInt8.toNat_ofNat']; omega
theorem dec_big (u : Nat) (h : ¬ u < 10) : Lib.decDigits u = Lib.decDigits (u / 10) ++ [UInt8.ofNat (48 + u % 10)] := by
  rw [Lib.decDigits, dif_neg h]
theorem dec_digit (u : Nat) : ∀ x ∈ Lib.decDigits u, 48 ≤ x.toNat ∧ x.toNat ≤ 57 := by
  induction u using Nat.strongRecOn with
  | ind u ih =>
    by_cases h : u < 10
    · rw [Lib.decDigits_one h]
      intro x hx
      simp only [List.mem_singleton] at hx
      subst hx
      rw [dig_toNat u h]; omega
    · rw [dec_big u h]
      intro x hx
      rw [List.mem_append] at hx
      rcases hx with hx | hx
      · exact ih (u / 10) (by omega) x hx
      · simp only [List.mem_singleton] at hx
        subst hx
        rw [dig_toNat _ (by omega)]; omega
theorem dec_parse (M u : Nat) (hM : M < 1000000) : ∀ r : List UInt8, u ≤ M → Lib.parseUintM M 0 (Lib.decDigits u ++ r) = Lib.parseUintM M u r := by
  induction u using Nat.strongRecOn with
  | ind u ih =>
    intro r hu
    by_cases h : u < 10
    · rw [Lib.decDigits_one h]
      simp only [List.cons_append, List.nil_append]
      rw [Lib.parseUintM, dig_toNat u h, if_pos (by omega), if_neg (by omega), if_neg (by omega)]
      congr 1
      omega
    · rw [dec_big u h, List.append_assoc, ih (u / 10) (by omega) _ (by omega)]
      simp only [List.cons_append, List.nil_append]
      rw [Lib.parseUintM, dig_toNat _ (by omega), if_pos (by omega), if_neg (by omega), if_neg (by omega)]
      congr 1
      omega
theorem dec_ne (u : Nat) : Lib.decDigits u ≠ [] := by
  by_cases h : u < 10
  · rw [Lib.decDigits_one h]; simp
  · rw [dec_big u h]; simp
theorem dec_parseB (B u : Nat) (hB : 2 ^ B - 1 < 1000000) (hu : u ≤ 2 ^ B - 1) : Lib.parseUintB B (Lib.decDigits u) = .ok u := by
  unfold Lib.parseUintB
  rw [if_neg (dec_ne u)]
  have := dec_parse (2 ^ B - 1) u hB [] hu
  rw [List.append_nil] at this
  rw [this]; rfl
theorem pint_back (n : Int) (hn : -32768 ≤ n ∧ n ≤ 32767) : pintV (Lib.itoa n) = n := by
  unfold pintV
  by_cases h : n < 0
  · have e : Lib.itoa n = 45 :: Lib.decDigits n.natAbs := by unfold Lib.itoa; rw [if_pos h]
    rw [e, Lib.parseIntB_minus, dec_parseB 16 _ (by decide) (by show _ ≤ 65535; omega)]
    simp only [Lib.signedC]
    rw [if_neg (by show ¬ 32768 < _; omega)]
    show -((n.natAbs : Nat) : Int) = n
    omega
  · have e : Lib.itoa n = Lib.decDigits n.toNat := by unfold Lib.itoa; rw [if_neg h]
    rw [e]
    have hp := dec_parseB 16 n.toNat (by decide) (by show _ ≤ 65535; omega)
    have hd := dec_digit n.toNat
    cases hl : Lib.decDigits n.toNat with
    | nil => exact absurd hl (dec_ne _)
    | cons c r =>
      rw [hl] at hp hd
      have := hd c (by simp)
      rw [Lib.parseIntB_plain _ _ _ (by omega) (by omega), hp]
      simp only [Lib.signlessC]
      rw [if_neg (by show ¬ 32768 ≤ _; omega)]
      show ((n.toNat : Nat) : Int) = n
      omega
theorem puint_back (r : Nat) (hr : r < 256) : puintV (Lib.decDigits r) = r := by
  unfold puintV
  rw [dec_parseB 8 r (by decide) (by show _ ≤ 255; omega)]
theorem itoa_nat (r : Nat) : Lib.itoa (r : Int) = Lib.decDigits r := Lib.itoa_nonneg r
theorem dec_blank (u : Nat) : (32 : UInt8) ∉ Lib.decDigits u := by
  intro h
  have := dec_digit u _ h
  have e : (32 : UInt8).toNat = 32 := rfl
  omega
/-! ### registers -/
theorem reg_blank (r : Nat) : (32 : UInt8) ∉ (114 :: Lib.itoa (r : Int)) := by
  rw [itoa_nat]
  simp only [List.mem_cons, not_or]
  exact ⟨by decide, dec_blank r⟩
theorem trim_reg (r : Nat) : Lib.trimPrefix (114 :: Lib.itoa (r : Int)) [114] = Lib.decDigits r := by
  rw [itoa_nat]; simp [Lib.trimPrefix, Lib.hasPrefix]
theorem regV_more (r : Nat) (t : List UInt8) (hr : r < 16) : regV (114 :: Lib.itoa (r : Int) ++ 32 :: t) = r := by
  unfold regV
  rw [cut_at _ _ (reg_blank r), trim_reg, puint_back r (by omega)]
  omega
theorem regR_more (r : Nat) (t : List UInt8) : regR (114 :: Lib.itoa (r : Int) ++ 32 :: t) = t := by
  unfold regR
  rw [cut_at _ _ (reg_blank r)]
theorem regV_last (r : Nat) (hr : r < 16) : regV (114 :: Lib.itoa (r : Int)) = r := by
  unfold regV
  rw [cut_none _ (reg_blank r), trim_reg, puint_back r (by omega)]
  omega
/-! ### names -/
theorem name_back : ∀ c : Fin 23, opOf (nameL c.1) = c.1 ∧ (32 : UInt8) ∉ nameL c.1 := by decide
theorem gC_more (c : Nat) (t : List UInt8) (hc : c < 23) : gC (nameL c ++ 32 :: t) = c := by
  unfold gC
  rw [cut_at _ _ (name_back ⟨c, hc⟩).2]
  exact (name_back ⟨c, hc⟩).1
theorem g0_more (c : Nat) (t : List UInt8) (hc : c < 23) : g0 (nameL c ++ 32 :: t) = t := by
  unfold g0
  rw [cut_at _ _ (name_back ⟨c, hc⟩).2]
theorem gC_last (c : Nat) (hc : c < 23) : gC (nameL c) = c := by
  unfold gC
  rw [cut_none _ (name_back ⟨c, hc⟩).2]
  exact (name_back ⟨c, hc⟩).1
theorem wrap16_same (n : Int) (hn : -32768 ≤ n ∧ n ≤ 32767) : IntKind.i16.wrap n = n := IntWalk.i16_in n hn
/-- The way back. -/
theorem back (c a b d : Nat) (n : Int) (hr : rightB c a b d n = true) (hn : -32768 ≤ n ∧ n ≤ 32767) :
    gC (showL c a b d n) = c ∧ gA (showL c a b d n) = a ∧ gB (showL c a b d n) = b ∧ gD (showL c a b d n) = d ∧ gN (showL c a b d n) = n := by
  obtain ⟨hc, ha, hb, hd⟩ := right_lt hr
  unfold rightB numB numH regB at hr
  rcases kinds c hc with ⟨_, k1, k2, k3, k4, _⟩ | ⟨_, k1, k2, k3, k4⟩ | ⟨_, k1, k2, k3, k4, _⟩ | ⟨_, k1, k2, k3, k4, _⟩ | ⟨_, k1, k2, k3, k4, _⟩
  · have e : showL c a b d n = nameL c := by unfold showL; simp [k1, k2, k3, k4]
    simp only [k1, k2, k3, k4, Bool.and_eq_true, decide_eq_true_eq, if_false, Bool.false_eq_true] at hr
    obtain ⟨⟨⟨⟨_, h1⟩, h2⟩, h3⟩, h4⟩ := hr
    subst h1 h2 h3 h4
    have e1 := gC_last c hc
    rw [e]
    unfold gA gB gD gN
    rw [e1, k1, k2, k3, k4]
    simp
  · have e : showL c a b d n = nameL c ++ 32 :: (114 :: Lib.itoa (a : Int) ++ 32 :: Lib.itoa n) := by unfold showL regL; simp [k1, k2, k3, k4]
    simp only [k1, k2, k3, k4, Bool.and_eq_true, decide_eq_true_eq, if_false, if_true, Bool.false_eq_true] at hr
    obtain ⟨⟨⟨⟨_, h1⟩, h2⟩, h3⟩, h4⟩ := hr
    subst h2 h3
    rw [e]
    unfold gA gB gD gN g3 g2 g1
    rw [gC_more c _ hc, g0_more c _ hc, k1, k2, k3, k4]
    simp only [if_true, if_false, Bool.false_eq_true, regV_more a _ ha, regR_more, pint_back n hn, wrap16_same n hn, and_self]
  · have e : showL c a b d n = nameL c ++ 32 :: Lib.itoa n := by unfold showL; simp [k1, k2, k3, k4]
    simp only [k1, k2, k3, k4, Bool.and_eq_true, decide_eq_true_eq, if_false, if_true, Bool.false_eq_true] at hr
    obtain ⟨⟨⟨⟨_, h1⟩, h2⟩, h3⟩, h4⟩ := hr
    subst h1 h2 h3
    rw [e]
    unfold gA gB gD gN g3 g2 g1
    rw [gC_more c _ hc, g0_more c _ hc, k1, k2, k3, k4]
    simp only [if_true, if_false, Bool.false_eq_true, pint_back n hn, wrap16_same n hn, and_self]
  · have e : showL c a b d n = nameL c ++ 32 :: (114 :: Lib.itoa (a : Int) ++ 32 :: (114 :: Lib.itoa (b : Int) ++ 32 :: Lib.itoa n)) := by unfold showL regL; simp [k1, k2, k3, k4]
    simp only [k1, k2, k3, k4, Bool.and_eq_true, decide_eq_true_eq, if_false, if_true, Bool.false_eq_true] at hr
    obtain ⟨⟨⟨⟨_, h1⟩, h2⟩, h3⟩, h4⟩ := hr
    subst h3
    rw [e]
    unfold gA gB gD gN g3 g2 g1
    rw [gC_more c _ hc, g0_more c _ hc, k1, k2, k3, k4]
    simp only [if_true, if_false, Bool.false_eq_true, regV_more a _ ha, regV_more b _ hb, regR_more, pint_back n hn, wrap16_same n hn, and_self]
  · have e : showL c a b d n = nameL c ++ 32 :: (114 :: Lib.itoa (a : Int) ++ 32 :: (114 :: Lib.itoa (b : Int) ++ 32 :: (114 :: Lib.itoa (d : Int)))) := by unfold showL regL; simp [k1, k2, k3, k4]
    simp only [k1, k2, k3, k4, Bool.and_eq_true, decide_eq_true_eq, if_false, if_true, Bool.false_eq_true] at hr
    obtain ⟨⟨⟨⟨_, h1⟩, h2⟩, h3⟩, h4⟩ := hr
    subst h4
    rw [e]
    unfold gA gB gD gN g3 g2 g1
    rw [gC_more c _ hc, g0_more c _ hc, k1, k2, k3, k4]
    simp only [if_true, if_false, Bool.false_eq_true, regV_more a _ ha, regV_more b _ hb, regV_last d hd, regR_more, and_self]
theorem back_read (c a b d : Nat) (n : Int) (hr : rightB c a b d n = true) (hn : -32768 ≤ n ∧ n ≤ 32767) : readB (showL c a b d n) = true := by
  obtain ⟨h1, h2, h3, h4, h5⟩ := back c a b d n hr hn
  unfold readB
  rw [h1, h2, h3, h4, h5, hr]
  simp
theorem show_len (c a b d : Nat) (n : Int) (hr : rightB c a b d n = true) (hn : -32768 ≤ n ∧ n ≤ 32767) : (showL c a b d n).length ≤ 50 := by
  obtain ⟨hc, ha, hb, hd⟩ := right_lt hr
  have q0 := name_size c hc
  have q1 := reg_size a (by omega)
  have q2 := reg_size b (by omega)
  have q3 := reg_size d (by omega)
  have q4 := itoa_size n (by omega) (by omega)
  rw [str_size] at q0 q1 q2 q3 q4
  unfold showL
  simp only [List.length_append]
  repeat' split
  all_goals simp only [List.length_cons, List.length_nil]
  all_goals omega
end Go.Proofs.YtclieoeaknlfbaaDoor
