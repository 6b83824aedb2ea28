/-
  Plain heaps of numbers: what stays true when one goes up, or down; which numbers are in it; how many truths there are. Nothing of any program stands here.
-/
import Derived.Lib.Hide
namespace Go.Proofs.Ytfjkomglljcfjaa
namespace PM

/-- One place with another one in it. -/
def upd {α : Type} (f : Nat → α) (i : Nat) (x : α) : Nat → α := fun j => if j = i then x else f j
theorem upd_at {α : Type} (f : Nat → α) (i : Nat) (x : α) : upd f i x i = x := by simp [upd]
theorem upd_ne {α : Type} (f : Nat → α) (i : Nat) (x : α) {j : Nat} (h : j ≠ i) : upd f i x j = f j := by simp [upd, h]
/-- Two places changed for one another. -/
def swp (h : Nat → Nat) (i j : Nat) : Nat → Nat := fun k => if k = i then h j else if k = j then h i else h k
theorem swp_upd (h : Nat → Nat) (i j : Nat) : swp h i j = upd (upd h j (h i)) i (h j) := by
  funext k; unfold swp upd; split
  · rfl
  · rfl
theorem swp_upd2 (h : Nat → Nat) (i j : Nat) : swp h i j = upd (upd h i (h j)) j (h i) := by
  funext k; unfold swp upd
  by_cases c : k = i
  · subst c
    by_cases d : k = j
    · subst d; simp
    · simp [d]
  · by_cases d : k = j
    · subst d; simp [c]
    · simp [c, d]
theorem swp_l (h : Nat → Nat) (i j : Nat) : swp h i j i = h j := by simp [swp]
theorem swp_r (h : Nat → Nat) (i j : Nat) : swp h i j j = h i := by
  unfold swp; split
  · rename_i e; rw [e]
  · simp
theorem swp_o (h : Nat → Nat) (i j : Nat) {k : Nat} (h1 : k ≠ i) (h2 : k ≠ j) : swp h i j k = h k := by simp [swp, h1, h2]

/-- A heap of n numbers. -/
def Hp (h : Nat → Nat) (n : Nat) : Prop := ∀ i, 0 < i → i < n → h ((i - 1) / 2) ≤ h i
theorem Hp.min {h : Nat → Nat} {n : Nat} (H : Hp h n) : ∀ i, i < n → h 0 ≤ h i := by
  intro i
  induction i using Nat.strongRecOn with
  | ind i ih =>
    intro hi
    by_cases h0 : i = 0
    · subst h0; exact Nat.le_refl _
    · exact Nat.le_trans (ih ((i - 1) / 2) (by omega) (by omega)) (H i (by omega) hi)
theorem Hp.none (h : Nat → Nat) : Hp h 0 := fun _ _ h => by omega
theorem Hp.congr {h g : Nat → Nat} {n : Nat} (H : Hp h n) (e : ∀ i, i < n → h i = g i) : Hp g n := by
  intro i h0 hi
  rw [← e i hi, ← e ((i - 1) / 2) (by omega)]
  exact H i h0 hi
theorem Hp.rising (n : Nat) : Hp (fun i => i) n := fun i _ _ => by show (i - 1) / 2 ≤ i; omega

/-- A heap but for what is below i. -/
def Dn (h : Nat → Nat) (n i : Nat) : Prop := (∀ c, 0 < c → c < n → (c - 1) / 2 ≠ i → h ((c - 1) / 2) ≤ h c) ∧ (0 < i → ∀ c, 0 < c → c < n → (c - 1) / 2 = i → h ((i - 1) / 2) ≤ h c)
theorem Dn.start {h : Nat → Nat} {n : Nat} (H : Hp h (n + 1)) : Dn (swp h 0 n) n 0 := by
  refine ⟨fun c h0 hc hp => ?_, fun h0 => by omega⟩
  rw [swp_o h 0 n (by omega) (by omega), swp_o h 0 n (by omega) (by omega)]
  exact H c h0 (by omega)
theorem Dn.leaf {h : Nat → Nat} {n i : Nat} (H : Dn h n i) (hn : n ≤ 2 * i + 1) : Hp h n := fun c h0 hc => H.1 c h0 hc (by omega)
theorem Dn.done {h : Nat → Nat} {n i : Nat} (H : Dn h n i) (h1 : h i ≤ h (2 * i + 1)) (h2 : 2 * i + 2 < n → h i ≤ h (2 * i + 2)) : Hp h n := by
  intro c h0 hc
  by_cases e : (c - 1) / 2 = i
  · rw [e]
    by_cases e1 : c = 2 * i + 1
    · rw [e1]; exact h1
    · have e2 : c = 2 * i + 2 := by omega
      rw [e2]; exact h2 (by omega)
  · exact H.1 c h0 hc e
theorem Dn.step {h : Nat → Nat} {n i j : Nat} (H : Dn h n i) (hj : (j - 1) / 2 = i) (h0 : 0 < j) (hn : j < n) (hl : h j ≤ h i) (ho : ∀ c, 0 < c → c < n → (c - 1) / 2 = i → h j ≤ h c) : Dn (swp h i j) n j := by
  have hij : i < j := by omega
  constructor
  · intro c c0 hc hp
    by_cases e : (c - 1) / 2 = i
    · rw [e, swp_l]
      by_cases e1 : c = j
      · rw [e1, swp_r]; exact hl
      · rw [swp_o h i j (by omega) e1]; exact ho c c0 hc e
    · rw [swp_o h i j e hp]
      by_cases e1 : c = i
      · rw [e1, swp_l]
        exact H.2 (by omega) j h0 hn hj
      · have e2 : c ≠ j := fun e2 => e (by rw [e2]; exact hj)
        rw [swp_o h i j e1 e2]
        exact H.1 c c0 hc e
  · intro _ c c0 hc hp
    rw [hj, swp_l, swp_o h i j (by omega) (by omega)]
    have := H.1 c c0 hc (by omega)
    rw [hp] at this
    exact this

/-- A heap but for what is above j. -/
def Up (h : Nat → Nat) (n j : Nat) : Prop := (∀ c, 0 < c → c < n → c ≠ j → h ((c - 1) / 2) ≤ h c) ∧ (0 < j → ∀ c, 0 < c → c < n → (c - 1) / 2 = j → h ((j - 1) / 2) ≤ h c)
theorem Up.start {h : Nat → Nat} {n : Nat} (H : Hp h n) (x : Nat) : Up (upd h n x) (n + 1) n := by
  refine ⟨fun c h0 hc hp => ?_, fun h0 c c0 hc hp => by omega⟩
  rw [upd_ne h n x (by omega), upd_ne h n x (by omega)]
  exact H c h0 (by omega)
theorem Up.top {h : Nat → Nat} {n : Nat} (H : Up h n 0) : Hp h n := fun c h0 hc => H.1 c h0 hc (by omega)
theorem Up.done {h : Nat → Nat} {n j : Nat} (H : Up h n j) (h1 : h ((j - 1) / 2) ≤ h j) : Hp h n := by
  intro c h0 hc
  by_cases e : c = j
  · rw [e]; exact h1
  · exact H.1 c h0 hc e
theorem Up.step {h : Nat → Nat} {n j : Nat} (H : Up h n j) (h0 : 0 < j) (hn : j < n) (hl : h j ≤ h ((j - 1) / 2)) : Up (swp h ((j - 1) / 2) j) n ((j - 1) / 2) := by
  obtain ⟨p, hp⟩ : ∃ p, (j - 1) / 2 = p := ⟨_, rfl⟩
  rw [hp] at hl ⊢
  have hpj : p < j := by omega
  constructor
  · intro c c0 hc ne
    by_cases e : c = j
    · subst e
      rw [hp, swp_l, swp_r]; exact hl
    · rw [swp_o h p j ne e]
      by_cases e1 : (c - 1) / 2 = j
      · rw [e1, swp_r]
        have := H.2 h0 c c0 hc e1
        rw [hp] at this; exact this
      · by_cases e2 : (c - 1) / 2 = p
        · rw [e2, swp_l]
          have := H.1 c c0 hc e
          rw [e2] at this
          omega
        · rw [swp_o h p j e2 e1]
          exact H.1 c c0 hc e
  · intro p0 c c0 hc hcp
    rw [swp_o h p j (by omega) (by omega)]
    have h1 := H.1 p p0 (by omega) (by omega)
    by_cases e : c = j
    · rw [e, swp_r]; exact h1
    · rw [swp_o h p j (by omega) e]
      have := H.1 c c0 hc e
      rw [hcp] at this
      omega

/-- Which numbers are in it, each once. -/
def Bag (h : Nat → Nat) (n : Nat) (S : Nat → Bool) : Prop := (∀ i, i < n → S (h i) = true) ∧ (∀ x, S x = true → ∃ i, i < n ∧ h i = x) ∧ (∀ i j, i < n → j < n → h i = h j → i = j)
theorem Bag.congr {h : Nat → Nat} {n : Nat} {S T : Nat → Bool} (H : Bag h n S) (e : ∀ x, S x = T x) : Bag h n T := by
  have : S = T := funext e
  rw [← this]; exact H
theorem Bag.swp {h : Nat → Nat} {n : Nat} {S : Nat → Bool} (H : Bag h n S) {i j : Nat} (hi : i < n) (hj : j < n) : Bag (swp h i j) n S := by
  have key : ∀ k, k < n → ∃ k', k' < n ∧ PM.swp h i j k = h k' ∧ PM.swp h i j k' = h k := by
    intro k hk
    by_cases e : k = i
    · subst e; exact ⟨j, hj, swp_l h k j, swp_r h k j⟩
    · by_cases e2 : k = j
      · subst e2; exact ⟨i, hi, swp_r h i k, swp_l h i k⟩
      · exact ⟨k, hk, swp_o h i j e e2, swp_o h i j e e2⟩
  refine ⟨fun k hk => ?_, fun x hx => ?_, fun a b ha hb e => ?_⟩
  · obtain ⟨k', h1, h2, _⟩ := key k hk
    rw [h2]; exact H.1 k' h1
  · obtain ⟨k, hk, rfl⟩ := H.2.1 x hx
    obtain ⟨k', h1, _, h3⟩ := key k hk
    exact ⟨k', h1, h3⟩
  · unfold PM.swp at e
    by_cases a1 : a = i
    · by_cases b1 : b = i
      · omega
      · by_cases b2 : b = j
        · simp only [a1, b2, if_true] at e
          split at e
          · omega
          · have := H.2.2 _ _ hj hi e; omega
        · simp only [a1, b1, b2, if_true, if_false] at e
          have := H.2.2 _ _ hj hb e; omega
    · by_cases a2 : a = j
      · by_cases b1 : b = i
        · simp only [b1, a2, if_true] at e
          split at e
          · omega
          · have := H.2.2 _ _ hi hj e; omega
        · by_cases b2 : b = j
          · omega
          · simp only [a2, b1, b2, if_true, if_false] at e
            split at e
            · omega
            · have := H.2.2 _ _ hi hb e; omega
      · by_cases b1 : b = i
        · simp only [a1, a2, b1, if_true, if_false] at e
          have := H.2.2 _ _ ha hj e; omega
        · by_cases b2 : b = j
          · simp only [a1, a2, b2, if_true, if_false] at e
            split at e
            · omega
            · have := H.2.2 _ _ ha hi e; omega
          · simp only [a1, a2, b1, b2, if_false] at e
            exact H.2.2 _ _ ha hb e
theorem Bag.pop {h : Nat → Nat} {n : Nat} {S : Nat → Bool} (H : Bag h (n + 1) S) : Bag h n (fun x => S x && x != h n) := by
  refine ⟨fun i hi => ?_, fun x hx => ?_, fun i j hi hj => H.2.2 i j (by omega) (by omega)⟩
  · simp only [Bool.and_eq_true, bne_iff_ne, ne_eq]
    exact ⟨H.1 i (by omega), fun e => by have := H.2.2 i n (by omega) (by omega) e; omega⟩
  · simp only [Bool.and_eq_true, bne_iff_ne, ne_eq] at hx
    obtain ⟨i, hi, rfl⟩ := H.2.1 x hx.1
    exact ⟨i, by have : i ≠ n := fun e => hx.2 (by rw [e]); omega, rfl⟩
theorem Bag.push {h : Nat → Nat} {n : Nat} {S : Nat → Bool} (H : Bag h n S) {x : Nat} (hx : S x = false) : Bag (upd h n x) (n + 1) (fun y => S y || y == x) := by
  have ne : ∀ i, i < n → h i ≠ x := fun i hi e => by have := H.1 i hi; rw [e, hx] at this; cases this
  refine ⟨fun i hi => ?_, fun y hy => ?_, fun i j hi hj e => ?_⟩
  · by_cases e : i = n
    · subst e; rw [upd_at]; simp
    · show (S _ || _) = true
      rw [upd_ne h n x e, H.1 i (by omega)]; rfl
  · simp only [Bool.or_eq_true, beq_iff_eq] at hy
    by_cases c : y = x
    · exact ⟨n, by omega, by rw [upd_at, c]⟩
    · obtain ⟨i, hi, rfl⟩ := H.2.1 y (hy.resolve_right c)
      exact ⟨i, by omega, upd_ne h n x (by omega)⟩
  · by_cases c : i = n
    · by_cases d : j = n
      · omega
      · rw [c, upd_at, upd_ne h n x d] at e
        exact absurd e.symm (ne j (by omega))
    · by_cases d : j = n
      · rw [d, upd_at, upd_ne h n x c] at e
        exact absurd e (ne i (by omega))
      · rw [upd_ne h n x c, upd_ne h n x d] at e
        exact H.2.2 i j (by omega) (by omega) e
theorem Bag.hcongr {h g : Nat → Nat} {n : Nat} {S : Nat → Bool} (H : Bag h n S) (e : ∀ i, i < n → h i = g i) : Bag g n S := by
  refine ⟨fun i hi => by rw [← e i hi]; exact H.1 i hi, fun x hx => ?_, fun i j hi hj hh => H.2.2 i j hi hj (by rw [e i hi, e j hj]; exact hh)⟩
  obtain ⟨i, hi, h1⟩ := H.2.1 x hx
  exact ⟨i, hi, by rw [← e i hi]; exact h1⟩

/-- Which of k frames are free. -/
def fr (us : Nat → Bool) (k : Nat) (x : Nat) : Bool := decide (x < k) && !us x
theorem fr_iff (us : Nat → Bool) (k x : Nat) : fr us k x = true ↔ x < k ∧ us x = false := by simp [fr]
/-- How many of k are free. -/
def cnt (us : Nat → Bool) : Nat → Nat
  | 0 => 0
  | k + 1 => cnt us k + if us k = true then 0 else 1
theorem cnt_le (us : Nat → Bool) : ∀ k, cnt us k ≤ k
  | 0 => Nat.le_refl _
  | k + 1 => by have := cnt_le us k; unfold cnt; split <;> omega
theorem cnt_congr {us vs : Nat → Bool} : ∀ {k : Nat}, (∀ x, x < k → us x = vs x) → cnt us k = cnt vs k
  | 0, _ => rfl
  | k + 1, h => by unfold cnt; rw [cnt_congr (fun x hx => h x (by omega)), h k (by omega)]
theorem cnt_take {us : Nat → Bool} {x : Nat} : ∀ {k : Nat}, x < k → us x = false → cnt (upd us x true) k + 1 = cnt us k
  | 0, h, _ => by omega
  | k + 1, h, hx => by
    unfold cnt
    by_cases e : x = k
    · subst e
      rw [upd_at, hx, cnt_congr (fun y hy => upd_ne us x true (show y ≠ x by omega))]
      simp
    · have := cnt_take (k := k) (by omega) hx
      rw [upd_ne us x true (Ne.symm e)]
      omega
theorem cnt_give {us : Nat → Bool} {x : Nat} {k : Nat} (h : x < k) (hx : us x = true) : cnt (upd us x false) k = cnt us k + 1 := by
  have h1 := cnt_take (us := upd us x false) (x := x) (k := k) h (upd_at _ _ _)
  have h2 : cnt (upd (upd us x false) x true) k = cnt us k := by
    apply cnt_congr
    intro y _
    by_cases e : y = x
    · subst e; rw [upd_at, hx]
    · rw [upd_ne _ _ _ e, upd_ne _ _ _ e]
  omega
theorem cnt_all (k : Nat) : cnt (fun _ => false) k = k := by
  induction k with
  | zero => rfl
  | succ k ih => simp [cnt, ih]
theorem cnt_zero {us : Nat → Bool} : ∀ {k : Nat}, cnt us k = 0 → ∀ x, x < k → us x = true
  | 0, _, x, hx => by omega
  | k + 1, h, x, hx => by
    unfold cnt at h
    by_cases e : x = k
    · subst e
      by_cases c : us x = true
      · exact c
      · rw [if_neg c] at h; omega
    · exact cnt_zero (k := k) (by omega) x (by omega)
theorem cnt_full {us : Nat → Bool} : ∀ {k : Nat}, (∀ x, x < k → us x = true) → cnt us k = 0
  | 0, _ => rfl
  | k + 1, h => by unfold cnt; rw [cnt_full (fun x hx => h x (by omega)), h k (by omega)]; rfl
theorem cnt_pos {us : Nat → Bool} {x k : Nat} (hx : x < k) (h : us x = false) : 0 < cnt us k := by
  have := cnt_take hx h; omega
theorem fr_take (us : Nat → Bool) (k x y : Nat) : (fr us k y && y != x) = fr (upd us x true) k y := by
  unfold fr
  by_cases e : y = x
  · subst e; simp [upd_at]
  · rw [upd_ne us x true e]; simp [e]
theorem fr_give (us : Nat → Bool) (k x y : Nat) (hx : x < k) : (fr us k y || y == x) = fr (upd us x false) k y := by
  unfold fr
  by_cases e : y = x
  · subst e; simp [upd_at, hx]
  · rw [upd_ne us x false e]; simp [e]
/-- The frames that are free, rising. -/
def wl (us : Nat → Bool) : Nat → List Nat
  | 0 => []
  | k + 1 => wl us k ++ if us k = true then [] else [k]
theorem wl_length (us : Nat → Bool) : ∀ k, (wl us k).length = cnt us k
  | 0 => rfl
  | k + 1 => by
    unfold wl cnt
    rw [List.length_append, wl_length us k]
    by_cases e : us k = true <;> simp [e]
theorem wl_mem (us : Nat → Bool) (x : Nat) : ∀ k, x ∈ wl us k ↔ x < k ∧ us x = false
  | 0 => by simp [wl]
  | k + 1 => by
    unfold wl
    rw [List.mem_append, wl_mem us x k]
    by_cases e : us k = true
    · rw [if_pos e]
      simp only [List.not_mem_nil, or_false]
      constructor
      · intro h; exact ⟨by omega, h.2⟩
      · intro h
        refine ⟨?_, h.2⟩
        have : x ≠ k := fun c => by rw [c, e] at h; exact absurd h.2 (by simp)
        omega
    · rw [if_neg e]
      simp only [List.mem_singleton]
      constructor
      · rintro (h | rfl)
        · exact ⟨by omega, h.2⟩
        · exact ⟨by omega, by simpa using e⟩
      · intro h
        by_cases c : x = k
        · exact .inr c
        · exact .inl ⟨by omega, h.2⟩
theorem wl_congr {us vs : Nat → Bool} : ∀ {k : Nat}, (∀ x, x < k → us x = vs x) → wl us k = wl vs k
  | 0, _ => rfl
  | k + 1, h => by unfold wl; rw [wl_congr (fun x hx => h x (by omega)), h k (by omega)]
theorem wl_used {us : Nat → Bool} : ∀ {k : Nat}, (∀ x, x < k → us x = true) → wl us k = []
  | 0, _ => rfl
  | k + 1, h => by unfold wl; rw [wl_used (fun x hx => h x (by omega)), h k (by omega)]; rfl
/-- The least one is taken. -/
theorem wl_take {us : Nat → Bool} {x : Nat} : ∀ {k : Nat}, x < k → us x = false → (∀ y, y < x → us y = true) → wl us k = x :: wl (upd us x true) k
  | 0, h, _, _ => by omega
  | k + 1, h, hx, hm => by
    unfold wl
    by_cases e : x = k
    · subst e
      rw [wl_used hm, hx, upd_at, wl_used (us := upd us x true) (fun y hy => by rw [upd_ne us x true (by omega)]; exact hm y hy)]
      rfl
    · rw [wl_take (k := k) (by omega) hx hm, upd_ne us x true (Ne.symm e)]
      rfl
theorem wl_rising (us : Nat → Bool) : ∀ k, (wl us k).Pairwise (· < ·)
  | 0 => List.Pairwise.nil
  | k + 1 => by
    unfold wl
    rw [List.pairwise_append]
    refine ⟨wl_rising us k, by split <;> simp, fun a ha b hb => ?_⟩
    split at hb
    · simp at hb
    · simp at hb
      rw [hb]; exact ((wl_mem us a k).1 ha).1
/-- So many of the list L are used too. -/
def tks (us : Nat → Bool) (L : List Nat) (i : Nat) : Nat → Bool := fun x => us x || decide (x ∈ L.take i)
theorem tks_zero (us : Nat → Bool) (L : List Nat) : tks us L 0 = us := by funext x; simp [tks]
theorem tks_succ (us : Nat → Bool) (L : List Nat) (i x : Nat) (h : L[i]? = some x) : upd (tks us L i) x true = tks us L (i + 1) := by
  funext y
  unfold upd tks
  rw [List.take_add_one, h]
  by_cases e : y = x
  · simp [e]
  · simp [e]
/-- So many of the list L are free again. -/
def gvs (us : Nat → Bool) (L : List Nat) (i : Nat) : Nat → Bool := fun x => us x && !decide (x ∈ L.take i)
theorem gvs_zero (us : Nat → Bool) (L : List Nat) : gvs us L 0 = us := by funext x; simp [gvs]
theorem gvs_succ (us : Nat → Bool) (L : List Nat) (i x : Nat) (h : L[i]? = some x) : upd (gvs us L i) x false = gvs us L (i + 1) := by
  funext y
  unfold upd gvs
  rw [List.take_add_one, h]
  by_cases e : y = x
  · simp [e]
  · simp [e]
end PM
end Go.Proofs.Ytfjkomglljcfjaa
