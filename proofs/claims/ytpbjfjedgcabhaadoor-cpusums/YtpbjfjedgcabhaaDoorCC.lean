/-
  Contracts of package code (fieldsOf, register, number, Right): each returns what the plain text names; what was there is left alone.
-/
import Derived.Test.YtpbjfjedgcabhaaDoorWC
import Derived.Test.YtpbjfjedgcabhaaDoorCM
import Derived.Test.YtpbjfjedgcabhaaDoorLT
namespace Go.Proofs.YtpbjfjedgcabhaaDoor
open Go.ChangeShapes Go.WideShapes Go.ChangeAt Go.RowKit
open WM CM
set_option maxRecDepth 100000

/-- An instruction as a value. -/
def opV (c a b d : Nat) (n : Int) : Value := .agg #[.int .u8 c, .int .u8 a, .int .u8 b, .int .u8 d, .int .i16 n]

/-! ### which fields -/
set_option maxHeartbeats 4000000 in
theorem fieldsOf_eq (c : Nat) (w : World) :
    Calls Tryd.prog 58 #[.int .u8 c] w fun e w' => e = .returned (.agg #[.bool (hasA c), .bool (hasB c), .bool (hasC c), .bool (hasN c)]) ∧ w.alloc (.cells #[.bool (hasA c), .bool (hasB c), .bool (hasC c), .bool (hasN c)] 112) = w' := by
  by_cases h : c ≤ 22
  · have hs : c = 0 ∨ c = 1 ∨ c = 2 ∨ c = 3 ∨ c = 4 ∨ c = 5 ∨ c = 6 ∨ c = 7 ∨ c = 8 ∨ c = 9 ∨ c = 10 ∨ c = 11 ∨ c = 12 ∨ c = 13 ∨ c = 14 ∨ c = 15 ∨ c = 16 ∨ c = 17 ∨ c = 18 ∨ c = 19 ∨ c = 20 ∨ c = 21 ∨ c = 22 := by omega
    clear h
    rcases hs with rfl | rfl | rfl | rfl | rfl | rfl | rfl | rfl | rfl | rfl | rfl | rfl | rfl | rfl | rfl | rfl | rfl | rfl | rfl | rfl | rfl | rfl | rfl
    all_goals as_aux_lemma =>
      go_enter Tryd.func58, Tryd.ntmps58
      go_wp2
      refine bodyPost_ret (v := .agg #[.bool (hasA _), .bool (hasB _), .bool (hasC _), .bool (hasN _)]) (by simp [results, Tryd.results58, go_sem, hasA, hasB, hasC, hasN]; done) rfl ⟨rfl, rfl⟩
  · have hA : hasA c = false := by unfold hasA; simp; omega
    have hB : hasB c = false := by unfold hasB; simp; omega
    have hC : hasC c = false := by unfold hasC; simp; omega
    have hN : hasN c = false := by unfold hasN; simp; omega
    rw [hA, hB, hC, hN]
    clear hA hB hC hN
    have hc : 22 < (c : Int) := by omega
    clear h
    go_enter Tryd.func58, Tryd.ntmps58
    go_wp2
    refine bodyPost_ret (v := .agg #[.bool false, .bool false, .bool false, .bool false]) (by simp [results, Tryd.results58, go_sem]) rfl ⟨rfl, rfl⟩
theorem fieldsOf_in (c : Nat) (w : World) :
    Calls Tryd.prog 58 #[.int .u8 c] w fun e w' => e = .returned (.agg #[.bool (hasA c), .bool (hasB c), .bool (hasC c), .bool (hasN c)]) ∧ Below w.heap.size w w' :=
  (fieldsOf_eq c w).mono fun _ _ ⟨he, hw⟩ => ⟨he, by subst hw; exact below_new _ _⟩

theorem ret_bool {a b : Bool} (h : a = b) : Ending.returned (.bool a) = .returned (.bool b) := by rw [h]
theorem register_in (r : Nat) (h : Bool) (w : World) :
    Calls Tryd.prog 71 #[.int .u8 r, .bool h] w fun e w' => e = .returned (.bool (regB r h)) ∧ w = w' := by
  cases h
  all_goals
    go_enter Tryd.func71, Tryd.ntmps71
    go_wp2
    go_ret
    exact ⟨ret_bool (Bool.eq_iff_iff.2 (by unfold regB; simp <;> omega)), rfl⟩

theorem number_in (c a b d : Nat) (n : Int) (h : Bool) (w : World) :
    Calls Tryd.prog 72 #[opV c a b d n, .bool h] w fun e w' => e = .returned (.bool (numH c n h)) ∧ Below w.heap.size w w' := by
  unfold opV
  cases h
  · go_enter Tryd.func72, Tryd.ntmps72
    go_wp2
    go_ret
    exact ⟨ret_bool (Bool.eq_iff_iff.2 (by unfold numH; simp <;> omega)), below_new _ _⟩
  · by_cases h1 : c = 18
    · subst h1
      by_cases h2 : 0 ≤ n
      · go_enter Tryd.func72, Tryd.ntmps72
        go_wp2
        go_ret
        exact ⟨ret_bool (Bool.eq_iff_iff.2 (by unfold numH; simp <;> omega)), below_new _ _⟩
      · go_enter Tryd.func72, Tryd.ntmps72
        go_wp2
        go_ret
        exact ⟨ret_bool (Bool.eq_iff_iff.2 (by unfold numH; simp <;> omega)), below_new _ _⟩
    · by_cases h1' : c = 19
      · subst h1'
        by_cases h2 : 0 ≤ n
        · go_enter Tryd.func72, Tryd.ntmps72
          go_wp2
          go_ret
          exact ⟨ret_bool (Bool.eq_iff_iff.2 (by unfold numH; simp <;> omega)), below_new _ _⟩
        · go_enter Tryd.func72, Tryd.ntmps72
          go_wp2
          go_ret
          exact ⟨ret_bool (Bool.eq_iff_iff.2 (by unfold numH; simp <;> omega)), below_new _ _⟩
      · have k1 : ((c : Int) == 18) = false := by simp; omega
        have k2 : ((c : Int) == 19) = false := by simp; omega
        have e : numH c n true = true := by unfold numH; simp [h1, h1']
        rw [e]
        clear e h1 h1'
        go_enter Tryd.func72, Tryd.ntmps72
        go_wp2
        go_ret
        exact ⟨rfl, below_new _ _⟩
end Go.Proofs.YtpbjfjedgcabhaaDoor
