/-
  Regions that draw their order in which a few operations, one behind the other, turn the world (a new block, a store), and all others only read and see no difference: ONE walk, in the text's order, serves every order.
  The world stands at stage k, W k, when k of the turning ones have come; what only reads must answer the same at every stage. Nothing of any program stands here.
-/
import Derived.Test.YtpbjfjedgcabhaaDoorLT
import Derived.Deep.Quiet
import Derived.Laws.Rows
import Derived.Laws.Tables
import Derived.Laws.CopyRow
namespace Go.Proofs.YtpbjfjedgcabhaaDoor.RQ
open Go Go.RowKit
set_option maxRecDepth 100000
set_option linter.unusedVariables false
section
variable {P : Program} {ops : Array Oper} {md : Region.Mode} {C : Nat → World → Prop} {sp : Nat → Bool}

/-- It yields v, and leaves a world of the class D. -/
def turnsUpon (P : Program) (D : World → Prop) (v : Value) : Result Next → Prop
  | .ok (.value u) w' => u = v ∧ D w'
  | .ok .skip w' => v = undef ∧ D w'
  | .ok (.enter f args) w' => Calls P f args w' (fun e w'' => e = .returned v ∧ D w'')
  | _ => False
def turns (P : Program) (o : Oper) (a : Act) (C D : World → Prop) (v : Value) : Prop := ∀ w, C w → turnsUpon P D v ((execOp a.eval o).run P w)
theorem turns_of_quiet {o : Oper} {a : Act} {D : World → Prop} {v : Value} (h : ∀ w, D w → o.quietAt P a D w v) : turns P o a D D v := by
  intro w hw
  have h1 := h w hw
  unfold Oper.quietAt at h1
  generalize (execOp a.eval o).run P w = r at *
  cases r with
  | ok n w' =>
    cases n <;> simp only [Oper.quietUpon] at h1 <;> simp only [turnsUpon]
    case value u => obtain ⟨rfl, rfl⟩ := h1; exact ⟨rfl, hw⟩
    case skip => obtain ⟨rfl, rfl⟩ := h1; exact ⟨rfl, hw⟩
    case enter f args => obtain ⟨rfl, h2⟩ := h1; exact h2
  | halt x w' => simp only [Oper.quietUpon] at h1
/-- What operation i must do, when k turning ones have come. -/
def does (P : Program) (C : Nat → World → Prop) (sp : Nat → Bool) (i k : Nat) (o : Oper) (a : Act) (v : Value) : Prop :=
  if sp i = true then turns P o a (C k) (C (k + 1)) v else ∀ j, turns P o a (C j) (C j) v
def bump (sp : Nat → Bool) (i k : Nat) : Nat := if sp i = true then k + 1 else k
def YT (P : Program) (ops : Array Oper) (C : Nat → World → Prop) (sp : Nat → Bool) (i k : Nat) (o : Oper) (v : Value) (a : Act) : Prop :=
  (Region.wanted o (yielded ops a.tmps) = true ∧ does P C sp i k o a v) ∨ (Region.wanted o (yielded ops a.tmps) = false ∧ sp i = false ∧ v = undef)
def tOp (P : Program) (ops : Array Oper) (C : Nat → World → Prop) (sp : Nat → Bool) (i k : Nat) (K : Nat → Act → Prop) (a : Act) : Prop :=
  match ops[i]? with
  | none => K k a
  | some o => ∃ v, YT P ops C sp i k o v a ∧ K (bump sp i k) (a.put o.dst v)
theorem tOp_mono {i k : Nat} {a : Act} {K K' : Nat → Act → Prop} (h : ∀ k a, K k a → K' k a) (hh : tOp P ops C sp i k K a) : tOp P ops C sp i k K' a := by
  unfold tOp at *
  split
  · rename_i ho; simp only [ho] at hh; exact h _ _ hh
  · rename_i o ho
    simp only [ho] at hh
    obtain ⟨v, h1, h2⟩ := hh
    exact ⟨v, h1, h _ _ h2⟩
def wpAnyT (P : Program) (md : Region.Mode) (ops : Array Oper) (C : Nat → World → Prop) (sp : Nat → Bool) (Q : Nat → Act → Prop) : Nat → Array Bool → Nat → Act → Prop
  | 0, listed, k, a => Region.ready md ops listed = [] ∧ Q k a
  | fuel + 1, listed, k, a => (Region.ready md ops listed = [] → Q k a) ∧ ∀ i ∈ Region.ready md ops listed, tOp P ops C sp i k (fun k' a' => wpAnyT P md ops C sp Q fuel (listed.setIfInBounds i true) k' a') a
theorem wp_of_turns {o : Oper} {a : Act} {D E : World → Prop} {v : Value} {K' : Act → World → Prop} {Q' : Exit → Act → World → Prop} {w : World} (hw : D w) (h : turns P o a D E v) (hK : ∀ w', E w' → K' (a.put o.dst v) w') : o.wp P a w K' Q' := by
  have h3 := h w hw
  unfold Oper.wp
  generalize (execOp a.eval o).run P w = r at *
  cases r with
  | ok n w' =>
    cases n <;> simp only [turnsUpon] at h3 <;> simp only [Oper.upon]
    case value u => obtain ⟨rfl, h4⟩ := h3; exact hK _ h4
    case skip => obtain ⟨rfl, h4⟩ := h3; exact hK _ h4
    case enter f args => exact h3.mono fun e w'' ⟨he, h4⟩ => by subst he; exact hK _ h4
  | halt x w' => simp only [turnsUpon] at h3
theorem wpOp_of_tOp {i k : Nat} {a : Act} {K : Nat → Act → Prop} {K' : Act → World → Prop} {Q' : Exit → Act → World → Prop} {w : World} (hC : C k w) (h : ∀ k a w', C k w' → K k a → K' a w') (hh : tOp P ops C sp i k K a) : wpOp P ops Q' i K' a w := by
  unfold tOp at hh
  unfold wpOp
  split
  · rename_i ho; simp only [ho] at hh; exact h _ _ _ hC hh
  · rename_i o ho
    simp only [ho] at hh
    obtain ⟨v, hy, hK⟩ := hh
    rcases hy with ⟨hw, hd⟩ | ⟨hw, hs, rfl⟩
    · rw [if_pos hw]
      refine .inl ?_
      unfold does at hd
      unfold bump at hK
      by_cases hs : sp i = true
      · rw [if_pos hs] at hd hK
        exact wp_of_turns hC hd (fun w' hw' => h _ _ _ hw' hK)
      · rw [if_neg hs] at hd hK
        exact wp_of_turns hC (hd k) (fun w' hw' => h _ _ _ hw' hK)
    · rw [if_neg (by rw [hw]; simp)]
      unfold bump at hK
      rw [if_neg (by rw [hs]; simp)] at hK
      exact h _ _ _ hC hK
theorem wpAny_of_T {Q : Nat → Act → Prop} {Q' : Exit → Act → World → Prop} (hQ : ∀ k a w, C k w → Q k a → Q' .normal a w) : ∀ (fuel : Nat) (listed : Array Bool) (k : Nat) (a : Act) (w : World), C k w → wpAnyT P md ops C sp Q fuel listed k a → wpAny P md ops Q' fuel listed a w
  | 0, _, _, _, _, hw, h => ⟨h.1, hQ _ _ _ hw h.2⟩
  | fuel + 1, _, _, _, _, hw, h => ⟨fun h0 => hQ _ _ _ hw (h.1 h0), fun i hi => wpOp_of_tOp hw (fun k' a' w' hw' => wpAny_of_T hQ fuel _ k' a' w' hw') (h.2 i hi)⟩
theorem YT.of_same {i k : Nat} {o : Oper} {v : Value} {a a' : Act} (hy : YT P ops C sp i k o v a) (he : execOp a'.eval o = execOp a.eval o) (hw : Region.wanted o (yielded ops a'.tmps) = Region.wanted o (yielded ops a.tmps)) : YT P ops C sp i k o v a' := by
  unfold YT does turns at *
  rw [he, hw]
  exact hy
theorem YT.any {i k k' : Nat} {o : Oper} {v : Value} {a : Act} (hs : ¬ sp i = true) (hy : YT P ops C sp i k o v a) : YT P ops C sp i k' o v a := by
  unfold YT does at *
  rw [if_neg hs] at *
  exact hy
/-- Whether oi has come already makes no difference to oj. -/
theorem tOp_put {i j k : Nat} {oi oj : Oper} {v : Value} (hj : ops[j]? = some oj) (hap : oi.apart ops oj = true) (hsi : ∀ cs b, oi.op ≠ .select cs b) (hsj : ∀ cs b, oj.op ≠ .select cs b)
    (hone : ¬ (sp i = true ∧ sp j = true)) {K : Nat → Act → Prop} {a : Act} (hy : YT P ops C sp i k oi v a) (h : tOp P ops C sp j (bump sp i k) K (a.put oi.dst v)) :
    tOp P ops C sp j k (fun k' a' => YT P ops C sp i k' oi v a' ∧ K (bump sp i k') (a'.put oi.dst v)) a := by
  obtain ⟨h1, h2, h3⟩ := Oper.apart_spec hap
  have keep : ∀ u, YT P ops C sp i k oi v (a.put oj.dst u) := fun u => hy.of_same (execOp_put oi hsi a oj.dst u h3) (wanted_put oi a oj.dst u h3)
  unfold tOp at *
  simp only [hj] at *
  obtain ⟨u, hyj, hK⟩ := h
  refine ⟨u, ?_, ?_, ?_⟩
  · have hyj' : YT P ops C sp j (bump sp i k) oj u a := hyj.of_same (execOp_put oj hsj a oi.dst v h1).symm (wanted_put oj a oi.dst v h1).symm
    by_cases hs : sp i = true
    · exact hyj'.any (fun hsj => hone ⟨hs, hsj⟩)
    · unfold bump at hyj'
      rwa [if_neg hs] at hyj'
  · by_cases hs : sp i = true
    · have : ¬ sp j = true := fun hsj => hone ⟨hs, hsj⟩
      unfold bump
      rw [if_neg this]
      exact keep u
    · exact (keep u).any hs
  · rw [← Act.put_comm a v u h2]
    have e : bump sp j (bump sp i k) = bump sp i (bump sp j k) := by
      unfold bump
      split <;> split <;> rfl
    rw [← e]
    exact hK
theorem YT.tOp {i k : Nat} {o : Oper} {v : Value} {a : Act} (hi : ops[i]? = some o) (hy : YT P ops C sp i k o v a) {K : Nat → Act → Prop} (h : K (bump sp i k) (a.put o.dst v)) : tOp P ops C sp i k K a := by
  unfold RQ.tOp
  simp only [hi]
  exact ⟨v, hy, h⟩
/-- An operation that may come now may be taken first. -/
theorem wpAnyT_first {Q : Nat → Act → Prop} {i : Nat} {oi : Oper} {v : Value} (hi : ops[i]? = some oi) (hsel : ∀ (j : Nat) (o : Oper) cs b, ops[j]? = some o → o.op ≠ .select cs b) :
    ∀ (fuel : Nat) (listed : Array Bool) (k : Nat) (a : Act),
      (∀ j oj, ops[j]? = some oj → j ≠ i → listed.getD j true = false → (∀ e ∈ oj.after, Region.binds md e = true → e.on ≠ i) → oi.apart ops oj = true ∧ ¬ (sp i = true ∧ sp j = true)) →
      i ∈ Region.ready md ops listed → YT P ops C sp i k oi v a →
      wpAnyT P md ops C sp Q fuel (listed.setIfInBounds i true) (bump sp i k) (a.put oi.dst v) → wpAnyT P md ops C sp Q (fuel + 1) listed k a := by
  intro fuel
  induction fuel with
  | zero =>
    intro listed k a _ hr hy H
    refine ⟨fun h => (by rw [h] at hr; cases hr), fun j hj => ?_⟩
    by_cases hji : j = i
    · subst hji; exact hy.tOp hi H
    · have := ready_mono hj hji
      rw [H.1] at this
      cases this
  | succ fuel ih =>
    intro listed k a hfree hr hy H
    refine ⟨fun h => (by rw [h] at hr; cases hr), fun j hj => ?_⟩
    by_cases hji : j = i
    · subst hji; exact hy.tOp hi H
    · have h1 := H.2 j (ready_mono hj hji)
      obtain ⟨hjun, oj, hoj, hall⟩ := mem_ready.1 hj
      have hnot : ∀ e ∈ oj.after, Region.binds md e = true → e.on ≠ i := fun e he hb heq => by
        have h1 := hall e he hb
        have h0 := (mem_ready.1 hr).1
        rw [heq] at h1
        rcases Nat.lt_or_ge i listed.size with h' | h'
        · simp [h'] at h0 h1; rw [h0] at h1; cases h1
        · simp [Array.getElem?_eq_none h'] at h1
      obtain ⟨hap, hone⟩ := hfree j oj hoj hji hjun hnot
      have h2 := tOp_put hoj hap (fun cs b => hsel i oi cs b hi) (fun cs b => hsel j oj cs b hoj) hone hy h1
      refine tOp_mono (fun k' a' h3 => ih (listed.setIfInBounds j true) k' a' (fun m om hm hmi hun hno => hfree m om hm hmi ?_ hno) (ready_mono hr (Ne.symm hji)) h3.1 ?_) h2
      · by_cases hjm : j = m
        · subst hjm; exact hjun
        · rw [getD_set_ne true hjm] at hun; exact hun
      · rw [Array.setIfInBounds_comm _ _ hji]
        exact h3.2

/-! ### the text's order -/
def wpT (P : Program) (ops : Array Oper) (C : Nat → World → Prop) (sp : Nat → Bool) (Q : Nat → Act → Prop) : List Oper → Nat → Nat → Act → Prop
  | [], _, k, a => Q k a
  | o :: rest, i, k, a => ∃ v, YT P ops C sp i k o v a ∧ wpT P ops C sp Q rest (i + 1) (bump sp i k) (a.put o.dst v)
/-- Each waits only for what stands ahead of it. -/
def okA (md : Region.Mode) : Nat → List Oper → Bool
  | _, [] => true
  | k, o :: l => o.after.toList.all (fun e => !Region.binds md e || Nat.blt e.on k) && okA md (k + 1) l
/-- Of two, the latter waits for the former, or they are apart, and not both turn the world. -/
def okB (md : Region.Mode) (ops : Array Oper) (sp : Nat → Bool) (o : Oper) (k : Nat) : Nat → List Oper → Bool
  | _, [] => true
  | j, oj :: l => (oj.after.toList.any (fun e => Region.binds md e && e.on == k) || (o.apart ops oj && !(sp k && sp j))) && okB md ops sp o k (j + 1) l
def okC (md : Region.Mode) (ops : Array Oper) (sp : Nat → Bool) : Nat → List Oper → Bool
  | _, [] => true
  | k, o :: l => okB md ops sp o k (k + 1) l && okC md ops sp (k + 1) l
theorem okA_at : ∀ (l : List Oper) (k : Nat), okA md k l = true → ∀ (i : Nat) (o : Oper), l[i]? = some o → ∀ e ∈ o.after, Region.binds md e = true → e.on < k + i
  | [], _, _, i, o, ho, _, _, _ => by simp at ho
  | x :: l, k, h, i, o, ho, e, he, hb => by
    simp only [okA, Bool.and_eq_true, List.all_eq_true] at h
    cases i with
    | zero =>
      simp only [List.getElem?_cons_zero, Option.some.injEq] at ho
      subst ho
      have h1 := h.1 e (by simpa using he)
      rw [hb] at h1
      simp only [Bool.not_true, Bool.false_or] at h1
      rw [Nat.blt_eq] at h1
      omega
    | succ i =>
      have := okA_at l (k + 1) h.2 i o (by simpa using ho) e he hb
      omega
theorem okB_at {o : Oper} {k : Nat} : ∀ (l : List Oper) (j : Nat), okB md ops sp o k j l = true → ∀ (i : Nat) (oj : Oper), l[i]? = some oj →
    oj.after.any (fun e => Region.binds md e && e.on == k) = true ∨ (o.apart ops oj = true ∧ ¬ (sp k = true ∧ sp (j + i) = true))
  | [], _, _, i, oj, ho => by simp at ho
  | x :: l, j, h, i, oj, ho => by
    simp only [okB, Bool.and_eq_true, Bool.or_eq_true, Bool.not_eq_true', Bool.and_eq_false_iff] at h
    cases i with
    | zero =>
      simp only [List.getElem?_cons_zero, Option.some.injEq] at ho
      subst ho
      rcases h.1 with h1 | ⟨h1, h2⟩
      · exact .inl (by simpa using h1)
      · refine .inr ⟨h1, ?_⟩
        rw [Nat.add_zero]
        rintro ⟨h3, h4⟩
        rw [h3, h4] at h2
        simp at h2
    | succ i =>
      have := okB_at l (j + 1) h.2 i oj (by simpa using ho)
      rw [show j + (i + 1) = j + 1 + i by omega]
      exact this
theorem okC_at : ∀ (l : List Oper) (k : Nat), okC md ops sp k l = true → ∀ (i j : Nat) (oi oj : Oper), i < j → l[i]? = some oi → l[j]? = some oj →
    oj.after.any (fun e => Region.binds md e && e.on == k + i) = true ∨ (oi.apart ops oj = true ∧ ¬ (sp (k + i) = true ∧ sp (k + j) = true))
  | [], _, _, i, _, o, _, _, ho, _ => by simp at ho
  | x :: l, k, h, i, j, oi, oj, hij, hi, hj => by
    simp only [okC, Bool.and_eq_true] at h
    obtain ⟨j, rfl⟩ : ∃ j', j = j' + 1 := ⟨j - 1, by omega⟩
    have hj' : l[j]? = some oj := by simpa using hj
    cases i with
    | zero =>
      simp only [List.getElem?_cons_zero, Option.some.injEq] at hi
      subst hi
      have := okB_at l (k + 1) h.1 j oj hj'
      rw [show k + (j + 1) = k + 1 + j by omega, Nat.add_zero]
      exact this
    | succ i =>
      have := okC_at l (k + 1) h.2 i j oi oj (by omega) (by simpa using hi) hj'
      rw [show k + (i + 1) = k + 1 + i by omega, show k + (j + 1) = k + 1 + j by omega]
      exact this
def Pre (n k : Nat) (listed : Array Bool) : Prop := listed.size = n ∧ ∀ i, i < n → listed[i]? = some (decide (i < k))
theorem Pre.at {n k : Nat} {listed : Array Bool} (h : Pre n k listed) (i : Nat) (hi : i < n) (b : Bool) : listed.getD i b = decide (i < k) := by
  have := h.2 i hi
  rw [Array.getD_eq_getD_getElem?, this]; rfl
theorem Pre.next {n k : Nat} {listed : Array Bool} (h : Pre n k listed) : Pre n (k + 1) (listed.setIfInBounds k true) := by
  refine ⟨by simp [h.1], fun i hi => ?_⟩
  by_cases e : i = k
  · subst e
    rw [Array.getElem?_setIfInBounds_self_of_lt (by rw [h.1]; exact hi)]
    simp
  · rw [Array.getElem?_setIfInBounds_ne (Ne.symm e), h.2 i hi]
    congr 1
    exact decide_eq_decide.2 (by omega)
theorem wpAnyT_lex {Q : Nat → Act → Prop} (L : List Oper) (hn : Region.noSelect L.toArray = true) (hA : okA md 0 L = true) (hB : okC md L.toArray sp 0 L = true) :
    ∀ (l : List Oper) (i : Nat) (listed : Array Bool) (k : Nat) (a : Act), L.drop i = l → i + l.length = L.length → Pre L.length i listed → wpT P L.toArray C sp Q l i k a → wpAnyT P md L.toArray C sp Q l.length listed k a
  | [], i, listed, k, a, hd, hl, hp, h => by
    refine ⟨List.eq_nil_iff_forall_not_mem.2 (fun j hj => ?_), h⟩
    obtain ⟨h1, o, ho, _⟩ := mem_ready.1 hj
    have hjl : j < L.length := by
      have := (Array.getElem?_eq_some_iff.1 ho).1
      simpa using this
    rw [hp.at j hjl] at h1
    simp at h1 hl
    omega
  | o :: l, i, listed, k, a, hd, hl, hp, h => by
    obtain ⟨v, hy, hK⟩ := h
    have hil : i < L.length := by simp at hl; omega
    have ho : L[i]? = some o := by
      have := congrArg (fun x => x[0]?) hd
      simpa using this
    have ho' : L.toArray[i]? = some o := by simpa using ho
    have hd' : L.drop (i + 1) = l := by rw [← List.drop_drop, hd]; rfl
    refine wpAnyT_first ho' (Region.noSelect_spec hn) l.length listed k a (fun j oj hj hji hun hno => ?_) ?_ hy (wpAnyT_lex L hn hA hB l (i + 1) _ _ _ hd' (by simp at hl; omega) hp.next hK)
    · have hjl : j < L.length := by
        have := (Array.getElem?_eq_some_iff.1 hj).1
        simpa using this
      rw [hp.at j hjl] at hun
      simp at hun
      rcases okC_at L 0 hB i j o oj (by omega) ho (by simpa using hj) with h1 | h1
      · obtain ⟨e, he, hb⟩ := Array.any_eq_true'.1 h1
        simp only [Bool.and_eq_true, beq_iff_eq, Nat.zero_add] at hb
        exact absurd hb.2 (hno e he hb.1)
      · simpa using h1
    · refine mem_ready.2 ⟨by rw [hp.at i hil]; simp, o, ho', fun e he hb => ?_⟩
      have := okA_at L 0 hA i o ho e he hb
      rw [hp.at e.on (by omega)]
      simp; omega
/-- ONE WALK IN THE TEXT's ORDER SERVES EVERY ORDER. W k: the world when k turning operations have come; 'sp': which these are. -/
theorem wp_region_turns {id : Nat} {Q : Exit → Act → World → Prop} {a : Act} {w : World} {L : List Oper} (W : Nat → World) (sp : Nat → Bool) (hm : P.follows .mixedOrders = true) (hn : Region.noSelect L.toArray = true)
    (hA : okA .any 0 L = true) (hB : okC .any L.toArray sp 0 L = true) (h0 : W 0 = w)
    (h : wpT P L.toArray (fun k w' => ∃ n, w' = (W k).drewN n) sp (fun k a' => ∀ n, Q .normal a' ((W k).drewN n)) L 0 0 a) : (Code.region id L.toArray true).wp P Q a w := by
  subst h0
  refine wp_region_any hm ?_
  have hs : L.toArray.size = L.length := by simp
  rw [hs]
  refine wpAny_of_T (C := fun k w' => ∃ n, w' = (W k).drewN n) (sp := sp) (Q := fun k a' => ∀ n, Q .normal a' ((W k).drewN n)) (fun k a' w' ⟨n, hw⟩ hq => by subst hw; exact hq n) L.length _ 0 a _ ⟨1, rfl⟩ ?_
  exact wpAnyT_lex L hn hA hB L 0 _ 0 a (by simp) (by simp) ⟨by simp, fun i hi => by rw [Array.getElem?_replicate, if_pos hi]; simp⟩ h

/-! ### the steps of a walk -/
/-- One that only reads. -/
theorem wpT_reads {Q : Nat → Act → Prop} {o : Oper} {rest : List Oper} {i k : Nat} {a : Act} (hs : sp i = false)
    (h : ∀ K : Act → Prop, (∀ a, wpT P ops C sp Q rest (i + 1) k a → K a) → if Region.wanted o (yielded ops a.tmps) then ∃ v, (∀ j w, C j w → o.quietAt P a (C j) w v) ∧ K (a.put o.dst v) else K (a.put o.dst undef)) : wpT P ops C sp Q (o :: rest) i k a := by
  have h1 := h _ (fun _ h => h)
  have e : bump sp i k = k := by unfold bump; rw [if_neg (by rw [hs]; simp)]
  split at h1
  · rename_i hw
    obtain ⟨v, h2, h3⟩ := h1
    refine ⟨v, .inl ⟨hw, ?_⟩, by rw [e]; exact h3⟩
    unfold does
    rw [if_neg (by rw [hs]; simp)]
    exact fun j => turns_of_quiet (h2 j)
  · rename_i hw
    exact ⟨undef, .inr ⟨by simpa using hw, hs, rfl⟩, by rw [e]; exact h1⟩
/-- One that turns the world. -/
theorem wpT_turns {Q : Nat → Act → Prop} {o : Oper} {rest : List Oper} {i k : Nat} {a : Act} (hs : sp i = true) (hw : Region.wanted o (yielded ops a.tmps) = true) (v : Value) (h1 : turns P o a (C k) (C (k + 1)) v)
    (h : wpT P ops C sp Q rest (i + 1) (k + 1) (a.put o.dst v)) : wpT P ops C sp Q (o :: rest) i k a := by
  have e : bump sp i k = k + 1 := by unfold bump; rw [if_pos hs]
  refine ⟨v, .inl ⟨hw, ?_⟩, by rw [e]; exact h⟩
  unfold does
  rw [if_pos hs]
  exact h1
theorem wpT_nil {Q : Nat → Act → Prop} {i k : Nat} {a : Act} (h : Q k a) : wpT P ops C sp Q [] i k a := h
end
/-- A new block. -/
theorem turns_alloc {P : Program} {o : Oper} {a : Act} {W : Nat → World} {k : Nat} (t : TypeId) (ho : o.op = .alloc t) (cs : Array Value) (hz : ∀ w, (zeroValue t).run P w = .ok (.agg cs) w) (hW : W (k + 1) = (W k).alloc (.cells cs t)) :
    turns P o a (fun w' => ∃ n, w' = (W k).drewN n) (fun w' => ∃ n, w' = (W (k + 1)).drewN n) (.pointer (some ⟨(W k).heap.size, 0, none⟩)) := by
  rintro w' ⟨n, rfl⟩
  have h : (execOp a.eval o).run P ((W k).drewN n) = .ok (.value (.pointer (some ⟨(W k).heap.size, 0, none⟩))) (((W k).alloc (.cells cs t)).drewN n) := by
    simp [execOp, ho, go_sem, hz]
    rfl
  rw [h]
  exact ⟨rfl, n, by rw [hW]⟩
/-- A whole value over a block known whole. -/
theorem turns_store_row {P : Program} {o : Oper} {a : Act} {W : Nat → World} {k : Nat} (ty : TypeId) (x y : Operand) (ho : o.op = .store ty x y) (g : Nat) (cs old : Array Value) (t : TypeId) (hx : a.eval x = .pointer (some ⟨g, 0, none⟩)) (hy : a.eval y = .agg cs)
    (hg : (W k).heap[g]? = some (.cells old t (0, 0))) (hi : (P.info? ty).map (·.size) = some cs.size) (hold : old.size = cs.size) (h1 : cs.all (·.oneCell') = true) (hW : W (k + 1) = (W k).setRow g cs) :
    turns P o a (fun w' => ∃ n, w' = (W k).drewN n) (fun w' => ∃ n, w' = (W (k + 1)).drewN n) undef := by
  rintro w' ⟨n, rfl⟩
  have h := run_storeVar_row (P := P) ((W k).drewN n) g t ty old cs hg hi hold h1
  have h2 : (execOp a.eval o).run P ((W k).drewN n) = .ok .skip (((W k).setRow g cs).drewN n) := by
    unfold execOp
    simp only [ho, hx, hy, Instr.storeAt, Instr.sureAddr, Sem.run_bind, Sem.run_pure, Result.andThen_ok, h]
    rfl
  rw [h2]
  exact ⟨rfl, n, by rw [hW]⟩
theorem turns_copy_row {P : Program} {o : Oper} {a : Act} {W : Nat → World} {k : Nat} (d s : Operand) (dT sT : TypeId) (ho : o.op = .call { callee := .builtin .copy, args := #[d, s], argTypes := #[dT, sT] })
    (elem : TypeId) (hu : P.underlying dT = some (.slice elem)) (hsz : (P.info? elem).map (·.size) = some 1)
    (g off dLen dCap : Nat) (ad : Addr) (sLen sCap : Nat) (hd : a.eval d = .slice (some ⟨g, off, none⟩) dLen dCap) (hs : a.eval s = .slice (some ad) sLen sCap)
    (cur : Array Value) (t : TypeId) (hg : (W k).heap[g]? = some (.cells cur t (0, 0))) (cs : List Value) (hn : cs.length = Nat.min sLen dLen)
    (hsrc : ∀ j v, cs[j]? = some v → (W k).cell? (ad.add j) = some v) (hfit : off + cs.length ≤ cur.size) (h1 : ∀ v ∈ cs, v.oneCell' = true)
    (hW : W (k + 1) = (W k).setRow g (cur.toList.take off ++ cs ++ cur.toList.drop (off + cs.length)).toArray) :
    turns P o a (fun w' => ∃ n, w' = (W k).drewN n) (fun w' => ∃ n, w' = (W (k + 1)).drewN n) (goInt cs.length) := by
  rintro w' ⟨n, rfl⟩
  have hrun := run_copy_row (P := P) ((W k).drewN n) dT sT o.type elem g off dLen dCap ad sLen sCap cur t cs hu hsz hg hn hsrc hfit h1
  have h2 : (execOp a.eval o).run P ((W k).drewN n) = .ok (.value (goInt cs.length)) (((W k).drewN n).setRow g (cur.toList.take off ++ cs ++ cur.toList.drop (off + cs.length)).toArray) := by
    simp [execOp, ho, resolve, invoke, builtin, hd, hs, hrun, Result.andThen]
  rw [h2]
  exact ⟨rfl, n, by rw [hW]; rfl⟩
/-- One that yields a value whatever the world: a struct or array put together. -/
theorem wpT_build {P : Program} {ops : Array Oper} {C : Nat → World → Prop} {sp : Nat → Bool} {Q : Nat → Act → Prop} {o : Oper} {rest : List Oper} {i k : Nat} {a : Act} (hs : sp i = false) (hw : Region.wanted o (yielded ops a.tmps) = true)
    (t : TypeId) (parts : Array (Nat × Operand)) (ho : o.op = .build t parts) (l : List (Nat × Value)) (hl : (parts.map fun (i, x) => (i, a.eval x)).toList = l) (cs : Array Value) (hb : P.built t l = some cs)
    (h : wpT P ops C sp Q rest (i + 1) k (a.put o.dst (.agg cs))) : wpT P ops C sp Q (o :: rest) i k a := by
  subst hl
  refine wpT_reads hs (fun K hK => ?_)
  rw [if_pos hw]
  refine ⟨.agg cs, fun j w' _ => ?_, hK _ h⟩
  unfold Oper.quietAt execOp
  simp only [ho, Sem.run_bind, run_build w' t _ cs hb, Result.andThen_ok]
  exact ⟨rfl, rfl⟩
/-- A call that makes no difference but for draws. -/
theorem wpT_call {P : Program} {ops : Array Oper} {W : Nat → World} {sp : Nat → Bool} {Q : Nat → Act → Prop} {o : Oper} {rest : List Oper} {i k : Nat} {a : Act} (hs : sp i = false) (hw : Region.wanted o (yielded ops a.tmps) = true)
    (f : FuncId) (args : Array Value) (ho : ∀ w, (execOp a.eval o).run P w = .ok (.enter f args) w) (v : Value) (hc : ∀ j n, Calls P f args ((W j).drewN n) (fun e w'' => e = .returned v ∧ ∃ m, w'' = (W j).drewN m))
    (h : wpT P ops (fun k w' => ∃ n, w' = (W k).drewN n) sp Q rest (i + 1) k (a.put o.dst v)) : wpT P ops (fun k w' => ∃ n, w' = (W k).drewN n) sp Q (o :: rest) i k a := by
  refine wpT_reads hs (fun K hK => ?_)
  rw [if_pos hw]
  refine ⟨v, fun j w' hw' => ?_, hK _ h⟩
  obtain ⟨n, rfl⟩ := hw'
  unfold Oper.quietAt
  rw [ho]
  exact ⟨rfl, hc j n⟩
end Go.Proofs.YtpbjfjedgcabhaaDoor.RQ
