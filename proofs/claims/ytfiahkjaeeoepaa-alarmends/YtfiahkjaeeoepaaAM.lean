/-
  The alarms up to a time, in order: what the stable insertion sort makes of the seats' alarms. Nothing of any program stands here.
-/
import Derived.Test.YtfiahkjaeeoepaaAS
namespace Go.Proofs.Ytfiahkjaeeoepaa
open Go.Sort
set_option maxRecDepth 100000

def lexB (x y : AL) : Bool := decide (x.tm < y.tm ∨ (x.tm = y.tm ∧ x.p < y.p))
theorem swo_lex : SWO lexB where
  irrefl x := by unfold lexB; exact decide_eq_false (by omega)
  trans x y z h1 h2 := by unfold lexB at *; simp only [decide_eq_true_eq] at *; omega
  ntrans x y z h1 h2 := by unfold lexB at *; simp only [decide_eq_false_iff_not] at *; omega
theorem lt_cf (x y : AL) : ltOf cfA x y = decide (x.tm < y.tm) := by
  unfold ltOf cfA
  by_cases h1 : x.tm < y.tm
  · simp [h1]
  · by_cases h2 : y.tm < x.tm <;> simp [h1, h2]
theorem lt_lex (x y : AL) (h : y.p < x.p) : ltOf cfA x y = lexB x y := by
  rw [lt_cf]; unfold lexB
  congr 1; apply propext; omega
theorem inner_same : ∀ (j : Nat) (d : Array AL), j < d.size → (∀ i, i < j → d[i]!.p < d[j]!.p) → insInner (ltOf cfA) 0 j d = insInner lexB 0 j d
  | 0, _, _, _ => rfl
  | j + 1, d, hj, h => by
    unfold insInner
    rw [lt_lex _ _ (h j (by omega))]
    by_cases hc : (decide (j + 1 > 0) && lexB d[j + 1]! d[j]!) = true
    · rw [if_pos hc, if_pos hc]
      refine inner_same j (swp d (j + 1) j) (by rw [swp_size]; omega) (fun i hi => ?_)
      have g := swp_get d hj (show j < d.size by omega)
      rw [g, g, if_neg (by omega), if_neg (by omega), if_pos rfl]
      exact h i (by omega)
    · rw [if_neg hc, if_neg hc]
theorem inner_perm (lt : AL → AL → Bool) (b : Nat) : ∀ (j : Nat) (d : Array AL), j < b → b ≤ d.size → PermIn 0 b d (insInner lt 0 j d)
  | 0, d, _, _ => permIn_refl d 0 b
  | j + 1, d, hj, hb => by
    unfold insInner
    split
    · exact permIn_trans _ _ _ 0 b (swp_permIn d 0 b (j + 1) j (by omega) hj (by omega) (by omega) hb) (inner_perm lt b j (swp d (j + 1) j) (by omega) (by rw [swp_size]; exact hb))
    · exact permIn_refl d 0 b
theorem outer_same (n : Nat) : ∀ (m i : Nat) (d : Array AL), n - i = m → n ≤ d.size → (∀ i', i ≤ i' → i' < n → ∀ k, k < i' → d[k]!.p < d[i']!.p) → insOuter (ltOf cfA) 0 n i d = insOuter lexB 0 n i d
  | 0, i, d, hm, _, _ => by rw [insOuter, if_neg (by omega), insOuter, if_neg (by omega)]
  | m + 1, i, d, hm, hn, h => by
    have hlt : i < n := by omega
    rw [insOuter_go _ _ _ _ _ hlt, insOuter_go _ _ _ _ _ hlt, inner_same i d (by omega) (h i (Nat.le_refl _) hlt)]
    have hp := inner_perm lexB (i + 1) i d (by omega) (by omega)
    refine outer_same n m (i + 1) _ (by omega) (by rw [hp.1]; exact hn) (fun i' h1 h2 k hk => ?_)
    rw [hp.2.1 i' (.inr h1)]
    by_cases hki : i + 1 ≤ k
    · rw [hp.2.1 k (.inr hki)]; exact h i' (by omega) h2 k hk
    · exact permIn_all d _ 0 (i + 1) (fun x => x.p < d[i']!.p) (by omega) hp (fun q _ hq => h i' (by omega) h2 q (by omega)) k (Nat.zero_le _) (by omega)
/-- The seats' alarms up to a time, seat by seat. -/
def alL (on : Nat → Bool) (tm : Nat → Nat) (last k : Nat) : List AL := ((List.range k).filter (fun p => on p && decide (tm p ≤ last))).map (fun p => ⟨tm p, p⟩)
def upA (on : Nat → Bool) (tm : Nat → Nat) (last : Nat) : Array AL := Sort.insertionSort (ltOf cfA) (alL on tm last 18).toArray 0 (alL on tm last 18).toArray.size
/-- The alarms up to a time, in order. -/
def upL (on : Nat → Bool) (tm : Nat → Nat) (last : Nat) : List AL := (upA on tm last).toList
theorem alL_succ (on : Nat → Bool) (tm : Nat → Nat) (last k : Nat) : alL on tm last (k + 1) = alL on tm last k ++ (if (on k && decide (tm k ≤ last)) = true then [⟨tm k, k⟩] else []) := by
  unfold alL
  rw [List.range_succ, List.filter_append, List.map_append]
  congr 1
  by_cases h : (on k && decide (tm k ≤ last)) = true
  · rw [if_pos h]; simp [List.filter_cons]; simpa using h
  · rw [if_neg h]; simp [List.filter_cons]; simpa using h
theorem alL_mem (on : Nat → Bool) (tm : Nat → Nat) (last k : Nat) (x : AL) : x ∈ alL on tm last k ↔ x.p < k ∧ on x.p = true ∧ tm x.p ≤ last ∧ x.tm = tm x.p := by
  unfold alL
  constructor
  · intro h
    obtain ⟨p, hp, rfl⟩ := List.mem_map.1 h
    rw [List.mem_filter, List.mem_range] at hp
    simp at hp
    exact ⟨hp.1, hp.2.1, hp.2.2, rfl⟩
  · rintro ⟨h1, h2, h3, h4⟩
    refine List.mem_map.2 ⟨x.p, List.mem_filter.2 ⟨List.mem_range.2 h1, by simp [h2, h3]⟩, ?_⟩
    cases x; simp at h4 ⊢; exact h4.symm
theorem alL_len (on : Nat → Bool) (tm : Nat → Nat) (last k : Nat) : (alL on tm last k).length ≤ k := by
  unfold alL
  rw [List.length_map]
  exact Nat.le_trans (List.length_filter_le _ _) (by simp)
theorem alL_rise (on : Nat → Bool) (tm : Nat → Nat) (last k : Nat) : (alL on tm last k).Pairwise (fun x y => x.p < y.p) := by
  unfold alL
  rw [List.pairwise_map]
  exact List.Pairwise.filter _ List.pairwise_lt_range
theorem up_both (on : Nat → Bool) (tm : Nat → Nat) (last : Nat) : PermIn 0 (alL on tm last 18).toArray.size (alL on tm last 18).toArray (upA on tm last) ∧ SortedIn lexB 0 (alL on tm last 18).toArray.size (upA on tm last) := by
  have e : upA on tm last = Sort.insertionSort lexB (alL on tm last 18).toArray 0 (alL on tm last 18).toArray.size := by
    unfold upA Sort.insertionSort
    refine outer_same _ _ 1 _ rfl (Nat.le_refl _) (fun i' _ h2 k hk => ?_)
    have hr := List.pairwise_iff_getElem.1 (alL_rise on tm last 18) k i' (by simp at h2; omega) (by simpa using h2) hk
    rw [getElem!_pos _ k (by omega), getElem!_pos _ i' h2]
    simpa using hr
  rw [e]
  exact insertionSort_holds swo_lex _ 0 _ (Nat.zero_le _) (Nat.le_refl _)
theorem up_perm (on : Nat → Bool) (tm : Nat → Nat) (last : Nat) : (upL on tm last).Perm (alL on tm last 18) := by
  obtain ⟨⟨hs, _, hp⟩, _⟩ := up_both on tm last
  unfold upL
  rw [← hs] at hp
  rw [Array.extract_size, hs, Array.extract_size] at hp
  simpa using hp
theorem up_mem (on : Nat → Bool) (tm : Nat → Nat) (last : Nat) (x : AL) : x ∈ upL on tm last ↔ x.p < 18 ∧ on x.p = true ∧ tm x.p ≤ last ∧ x.tm = tm x.p := by
  rw [(up_perm on tm last).mem_iff]; exact alL_mem on tm last 18 x
theorem up_len (on : Nat → Bool) (tm : Nat → Nat) (last : Nat) : (upL on tm last).length = (alL on tm last 18).length := (up_perm on tm last).length_eq
theorem up_rise (on : Nat → Bool) (tm : Nat → Nat) (last : Nat) : (upL on tm last).Pairwise (fun x y => lexB x y = true) := by
  obtain ⟨⟨hs, _, hp⟩, hso⟩ := up_both on tm last
  have hnd : (upL on tm last).Pairwise (fun x y => x.p ≠ y.p) := by
    refine ((up_perm on tm last).pairwise_iff (fun {x y} h => Ne.symm h)).2 ?_
    exact (alL_rise on tm last 18).imp (fun h => by omega)
  rw [List.pairwise_iff_getElem] at hnd ⊢
  intro i j hi hj hij
  have h1 := hnd i j hi hj hij
  have hi' : i < (upA on tm last).size := by unfold upL at hi; simpa using hi
  have hj' : j < (upA on tm last).size := by unfold upL at hj; simpa using hj
  have h2 := hso i j (Nat.zero_le _) hij (by omega)
  rw [getElem!_pos _ j hj', getElem!_pos _ i hi'] at h2
  have e1 : (upL on tm last)[i] = (upA on tm last)[i] := by unfold upL; simp
  have e2 : (upL on tm last)[j] = (upA on tm last)[j] := by unfold upL; simp
  rw [← e1, ← e2] at h2
  unfold lexB at h2 ⊢
  simp only [decide_eq_false_iff_not, decide_eq_true_eq] at h2 ⊢
  omega
theorem up_size (on : Nat → Bool) (tm : Nat → Nat) (last : Nat) : (upA on tm last).size = (alL on tm last 18).length := by
  obtain ⟨⟨hs, _, _⟩, _⟩ := up_both on tm last
  simpa using hs
end Go.Proofs.Ytfiahkjaeeoepaa
