/-
  Lines with blanks around: what Trim leaves of them; lines joined one by one. No program in it.
-/
import Derived.Test.YtclieoeaknlfbaaDoorTY
namespace Go.Proofs.YtclieoeaknlfbaaDoor
open WM CM
set_option maxRecDepth 100000
set_option linter.unusedVariables false
set_option linter.unusedSimpArgs false
theorem drop_blanks (a : Nat) (l : List UInt8) (h : ∀ x, l.head? = some x → x ≠ 32) : (List.replicate a 32 ++ l).dropWhile (· == (32 : UInt8)) = l := by
  induction a with
  | zero =>
    cases l with
    | nil => rfl
    | cons x r =>
      have := h x rfl
      simp [List.dropWhile, this]
  | succ a ih =>
    rw [List.replicate_succ, List.cons_append, List.dropWhile_cons]
    simp only [beq_self_eq_true, if_true]
    exact ih
theorem trim_pad (a b : Nat) (l : List UInt8) (h1 : ∀ x, l.head? = some x → x ≠ 32) (h2 : ∀ x, l.getLast? = some x → x ≠ 32) : Lib.trimB (List.replicate a 32 ++ l ++ List.replicate b 32) 32 = l := by
  by_cases hn : l = []
  · subst hn
    have e : List.replicate a (32 : UInt8) ++ [] ++ List.replicate b 32 = List.replicate (a + b) 32 := by simp
    unfold Lib.trimB Lib.trimRightB Lib.trimLeftB
    rw [e, List.reverse_replicate]
    have := drop_blanks (a + b) [] (fun x hx => by cases hx)
    rw [List.append_nil] at this
    rw [this]; rfl
  · unfold Lib.trimB Lib.trimRightB Lib.trimLeftB
    have e : (List.replicate a (32 : UInt8) ++ l ++ List.replicate b 32).reverse = List.replicate b 32 ++ (List.replicate a (32 : UInt8) ++ l).reverse := by simp
    rw [e, drop_blanks b _ (fun x hx => ?_), List.reverse_reverse, drop_blanks a l h1]
    rw [List.head?_reverse, List.getLast?_append] at hx
    cases hl : l.getLast? with
    | none => exact absurd (List.getLast?_eq_none_iff.1 hl) hn
    | some y =>
      rw [hl] at hx
      simp at hx
      subst hx
      exact h2 y hl
/-- A list that ends in one with no blank. -/
theorem last_no (p q : List UInt8) (hq : q ≠ []) (h : (32 : UInt8) ∉ q) : ∀ x, (p ++ q).getLast? = some x → x ≠ 32 := by
  intro x hx e
  subst e
  rw [List.getLast?_append] at hx
  cases hl : q.getLast? with
  | none => exact hq (List.getLast?_eq_none_iff.1 hl)
  | some y =>
    rw [hl] at hx
    simp at hx
    subst hx
    exact h (List.mem_of_getLast? hl)
theorem itoa_ne (n : Int) : Lib.itoa n ≠ [] := by
  unfold Lib.itoa
  split
  · simp
  · exact dec_ne _
theorem itoa_mem (n : Int) (x : UInt8) (hx : x ∈ Lib.itoa n) : x = 45 ∨ (48 ≤ x.toNat ∧ x.toNat ≤ 57) := by
  unfold Lib.itoa at hx
  split at hx
  · rcases List.mem_cons.1 hx with rfl | hx
    · exact .inl rfl
    · exact .inr (dec_digit _ _ hx)
  · exact .inr (dec_digit _ _ hx)
theorem itoa_blank (n : Int) : (32 : UInt8) ∉ Lib.itoa n := by
  intro h
  rcases itoa_mem n _ h with h | h
  · exact absurd h (by decide)
  · exact absurd h.1 (by decide)
theorem itoa_semi (n : Int) : (59 : UInt8) ∉ Lib.itoa n := by
  intro h
  rcases itoa_mem n _ h with h | h
  · exact absurd h (by decide)
  · exact absurd h.2 (by decide)
theorem name_facts : ∀ c : Fin 23, nameL c.1 ≠ [] ∧ (32 : UInt8) ∉ nameL c.1 ∧ (59 : UInt8) ∉ nameL c.1 := by decide
theorem show_head (c a b d : Nat) (n : Int) (hc : c < 23) : ∀ x, (showL c a b d n).head? = some x → x ≠ 32 := by
  intro x hx e
  subst e
  obtain ⟨h1, h2, _⟩ := name_facts ⟨c, hc⟩
  unfold showL at hx
  cases hl : nameL c with
  | nil => exact h1 hl
  | cons y r =>
    rw [hl] at hx
    simp at hx
    subst hx
    exact h2 (by rw [hl]; simp)
theorem show_last (c a b d : Nat) (n : Int) (hc : c < 23) : ∀ x, (showL c a b d n).getLast? = some x → x ≠ 32 := by
  obtain ⟨h1, h2, _⟩ := name_facts ⟨c, hc⟩
  rcases kinds c hc with ⟨_, k1, k2, k3, k4, _⟩ | ⟨_, k1, k2, k3, k4⟩ | ⟨_, k1, k2, k3, k4, _⟩ | ⟨_, k1, k2, k3, k4, _⟩ | ⟨_, k1, k2, k3, k4, _⟩
  · have e : showL c a b d n = [] ++ nameL c := by unfold showL; simp [k1, k2, k3, k4]
    rw [e]; exact last_no _ _ h1 h2
  · have e : showL c a b d n = (nameL c ++ regL a ++ [32]) ++ Lib.itoa n := by unfold showL; simp [k1, k2, k3, k4]
    rw [e]; exact last_no _ _ (itoa_ne n) (itoa_blank n)
  · have e : showL c a b d n = (nameL c ++ [32]) ++ Lib.itoa n := by unfold showL; simp [k1, k2, k3, k4]
    rw [e]; exact last_no _ _ (itoa_ne n) (itoa_blank n)
  · have e : showL c a b d n = (nameL c ++ regL a ++ regL b ++ [32]) ++ Lib.itoa n := by unfold showL; simp [k1, k2, k3, k4]
    rw [e]; exact last_no _ _ (itoa_ne n) (itoa_blank n)
  · have e : showL c a b d n = (nameL c ++ regL a ++ regL b ++ [32, 114]) ++ Lib.itoa (d : Int) := by unfold showL regL; simp [k1, k2, k3, k4]
    rw [e]; exact last_no _ _ (itoa_ne _) (itoa_blank _)
theorem reg_semi (r : Nat) : (59 : UInt8) ∉ regL r := by
  unfold regL
  simp only [List.mem_cons, not_or]
  exact ⟨by decide, by decide, itoa_semi _⟩
theorem show_semi (c a b d : Nat) (n : Int) (hc : c < 23) : (59 : UInt8) ∉ showL c a b d n := by
  obtain ⟨_, _, h3⟩ := name_facts ⟨c, hc⟩
  unfold showL
  simp only [List.mem_append, not_or]
  refine ⟨⟨⟨⟨h3, ?_⟩, ?_⟩, ?_⟩, ?_⟩
  all_goals split
  all_goals first | exact reg_semi _ | (simp only [List.mem_cons, not_or]; exact ⟨by decide, itoa_semi _⟩) | simp
/-- A line with blanks around. -/
def padL (p q : Nat) (l : List UInt8) : List UInt8 := List.replicate p 32 ++ l ++ List.replicate q 32
theorem pad_semi (p q : Nat) (l : List UInt8) (h : (59 : UInt8) ∉ l) : (59 : UInt8) ∉ padL p q l := by
  unfold padL
  simp only [List.mem_append, not_or, List.mem_replicate]
  exact ⟨⟨by simp, h⟩, by simp⟩
theorem trim_show (p q c a b d : Nat) (n : Int) (hc : c < 23) : Lib.trimB (padL p q (showL c a b d n)) 32 = showL c a b d n :=
  trim_pad p q _ (show_head c a b d n hc) (show_last c a b d n hc)
def whatL : List UInt8 := [119, 104, 97, 116]
theorem trim_what (p q : Nat) : Lib.trimB (padL p q whatL) 32 = whatL := trim_pad p q _ (by decide) (by decide)
theorem what_no : readB whatL = false := by decide
theorem what_semi : (59 : UInt8) ∉ whatL := by decide
theorem join_snoc (ls : List (List UInt8)) (m : List UInt8) : joinL (ls ++ [m]) = if ls = [] then m else joinL ls ++ 59 :: m := by
  induction ls with
  | nil => rfl
  | cons l ls ih =>
    cases ls with
    | nil => rfl
    | cons l' ls =>
      rw [if_neg (by simp)] at ih ⊢
      show l ++ 59 :: joinL (l' :: ls ++ [m]) = (l ++ 59 :: joinL (l' :: ls)) ++ 59 :: m
      rw [ih]; simp
end Go.Proofs.YtclieoeaknlfbaaDoor
