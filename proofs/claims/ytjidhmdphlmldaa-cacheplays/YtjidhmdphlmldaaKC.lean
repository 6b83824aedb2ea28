/-
  slices.DeleteFunc over package cache's rows, its contract.
-/
import Derived.Test.YtjidhmdphlmldaaKB
namespace Go.Proofs.Ytjidhmdphlmldaa
open Go.ChangeShapes Go.WideShapes Go.ChangeAt Go.RowKit
set_option maxRecDepth 100000

def zero5 : Array Value := #[.int .i64 0, .int .i64 0, .bool false, .int .i64 0, .bool false]
theorem zero5_run (W : World) : (zeroValue 73).run Try.prog W = .ok (.agg zero5) W := by kernel_rfl
theorem und_rows : Try.prog.underlying 25 = some (.slice 73) := by kernel_rfl
theorem zero5_one : ∀ u ∈ (Value.agg zero5).cells.toList, u.oneCell' = true := by
  intro u hu
  simp [Value.cells, zero5] at hu
  rcases hu with rfl | rfl | rfl | rfl | rfl <;> rfl
theorem wpList_clr {w : World} {ops : Array Oper} {rest : List Oper} {o : Oper} {a : Act} {Q : Exit → Act → World → Prop} (hgd : o.guard = none) (x : Operand)
    (ho : o.op = .call { callee := .builtin .clear, args := #[x], argTypes := #[25] }) (base g n cap k m c : Nat) (xs : List Value) (hx : a.eval x = .slice (some ⟨g, k * 5, none⟩) m c)
    (hown : w.ownsRow base 73 5 (.slice (some ⟨g, 0, none⟩) n cap) n xs) (hk : k ≤ n) (hkm : k + m ≤ cap) (hm : 0 < m)
    (h : ∀ w', w'.ownsRow base 73 5 (.slice (some ⟨g, 0, none⟩) k cap) k (xs.take (k * 5)) → w.grownBy w' (some g) → wpList Try.prog ops Q rest (a.put o.dst (.tuple #[])) w') : wpList Try.prog ops Q (o :: rest) a w := by
  refine wpList_plain hgd fun K hK => ?_
  obtain ⟨w', hrun, h1, h2⟩ := run_clear_own (P := Try.prog) (size := 5) o.type und_rows zero5_run rfl (by omega) zero5_one hown k m c hk hkm hm
  unfold Oper.wp
  simp [execOp, ho, resolve, invoke, builtin, hx, hrun, Result.andThen]
  exact hK _ _ (h w' h1 h2)
/-- What DeleteFunc leaves. -/
def Dl (w : World) (base : Nat) (v : Value) (m : List R5) (e : Ending) (w' : World) : Prop :=
  ∃ v', e = .returned v' ∧ w'.ownsRow base 73 5 v' m.length (rowL m) ∧ w.grownBy w' v.ownBlock ∧ v'.ownBlock = v.ownBlock
theorem filter_none {d : R5 → Bool} {l : List R5} (h : idxI d l = -1) : l.filter (fun r => !d r) = l := by
  apply List.filter_eq_self.2
  intro r hr
  unfold idxI at h
  split at h
  · omega
  · rename_i hn
    cases hd : d r
    · rfl
    · exact absurd ⟨r, hr, hd⟩ hn
theorem delete_nil (F : Value) (w : World) (base : Nat) (d : R5 → Bool) :
    Calls Try.prog 41 #[.slice none 0 0, F] w (Dl w base (.slice none 0 0) ([].filter (fun r => !d r))) := by
  have HI := Lib.hid (index_nil F w)
  have HE : Hid (∀ U, Below w.heap.size w U → Dl w base (.slice none 0 0) [] (.returned (.slice none 0 0)) U) := Lib.hid (fun U hb => ⟨_, rfl, World.ownsRow_nil _ _ _ _, grown_below hb _, rfl⟩)
  rw [List.filter_nil]
  go_enter Try.func41, Try.ntmps41
  go_wp2_with fail
  refine (HI.out).mono ?_
  rintro e w2 ⟨rfl, b2⟩
  have HE2 := Lib.hid ((HE.out) _ b2)
  clear b2
  go_wp2
  go_ret
  exact HE2.out
theorem delete_none {w : World} {base g n cap P : Nat} {l : List R5} {d : R5 → Bool} (own : w.ownsRow base 73 5 (.slice (some ⟨g, 0, none⟩) n cap) n (rowL l)) (hn : n = l.length) (hl : n ≤ 8) (hd : DF w (some g) d P) (hi : idxI d l = -1) :
    Calls Try.prog 41 #[.slice (some ⟨g, 0, none⟩) n cap, .func (.func 42) #[] #[.pointer (some ⟨P, 0, none⟩)]] w (Dl w base (.slice (some ⟨g, 0, none⟩) n cap) (l.filter (fun r => !d r))) := by
  have hx := index_some own hn hl (fun U hU r => hd U (grown_any hU) r)
  rw [hi] at hx
  have HI := Lib.hid hx
  have HE : Hid (∀ U, Below w.heap.size w U → Dl w base (.slice (some ⟨g, 0, none⟩) n cap) (l.filter (fun r => !d r)) (.returned (.slice (some ⟨g, 0, none⟩) n cap)) U) :=
    Lib.hid (fun U hb => ⟨_, rfl, by rw [filter_none hi, ← hn]; exact owns_below own hb, grown_below hb _, rfl⟩)
  clear own hd hi hx hn
  go_enter Try.func41, Try.ntmps41
  go_wp2_with fail
  refine (HI.out).mono ?_
  rintro e w2 ⟨rfl, b2⟩
  have HE2 := Lib.hid ((HE.out) _ b2)
  clear b2
  go_wp2
  go_ret
  exact HE2.out
theorem DI.done {w wr : World} {base g n cap : Nat} {l : List R5} {d : R5 → Bool} {j : Nat} {x : List R5} (h : DI w wr base g n cap l d j x) (hj : j = l.length) {U : World}
    (ho : U.ownsRow base 73 5 (.slice (some ⟨g, 0, none⟩) (kept d l j) cap) (kept d l j) ((rowL ((l.take j).filter (fun r => !d r) ++ x ++ l.drop j)).take (kept d l j * 5))) (hg : wr.grownBy U (some g)) (v : Value) (hv : v.ownBlock = some g) :
    Dl w base v (l.filter (fun r => !d r)) (.returned (.slice (some ⟨g, 0, none⟩) (kept d l j) cap)) U := by
  have hk : kept d l j = (l.filter (fun r => !d r)).length := by unfold kept; rw [hj, List.take_length]
  rw [rowL_take, hj, List.take_length, List.append_assoc, List.take_append_of_le_length (by rw [← hj, hk]; exact Nat.le_refl _), ← hj, hk, List.take_length] at ho
  refine ⟨_, rfl, ?_, by rw [hv]; exact grown_trans h.gr hg, by rw [hv]; rfl⟩
  rw [hk]; exact ho
set_option maxHeartbeats 2000000 in
theorem delete_some {w : World} {base g n cap P : Nat} {l : List R5} {d : R5 → Bool} (own : w.ownsRow base 73 5 (.slice (some ⟨g, 0, none⟩) n cap) n (rowL l)) (hn : n = l.length) (hl : n ≤ 8) (hd : DF w (some g) d P) (k : Nat) (r : R5) (hc : Clean d l k) (hr : l[k]? = some r) (hdr : d r = true) :
    Calls Try.prog 41 #[.slice (some ⟨g, 0, none⟩) n cap, .func (.func 42) #[] #[.pointer (some ⟨P, 0, none⟩)]] w (Dl w base (.slice (some ⟨g, 0, none⟩) n cap) (l.filter (fun r => !d r))) := by
  have hx := index_some own hn hl (fun U hU r => hd U (grown_any hU) r)
  rw [hc.idx hr hdr] at hx
  have hkl : k < l.length := (List.getElem?_eq_some_iff.1 hr).1
  have hkn : k < n := by omega
  have HI := Lib.hid hx
  have HF := Lib.hid (fun U (hb : Below w.heap.size w U) => DI.first own hc hr hdr (U := U) hb)
  have HD := Lib.hid hd
  have HN := Lib.hid hn
  have hcap : n ≤ cap ∧ cap ≤ maxLen := by
    rcases owns_form own with ⟨h, _⟩ | ⟨g', cap', h, _, _, h1, h2⟩
    · simp at h
    · simp only [Value.slice.injEq, Option.some.injEq, Addr.mk.injEq, and_true, true_and] at h
      obtain ⟨rfl, rfl⟩ := h
      exact ⟨h1, h2⟩
  obtain ⟨hcap1, hcap2⟩ := hcap
  unfold maxLen at hcap2
  clear own hc hr hdr hx hd hn hkl
  go_enter Try.func41, Try.ntmps41
  go_wp2_with fail
  refine (HI.out).mono ?_
  rintro e w2 ⟨rfl, b2⟩
  have HF2 := Lib.hid ((HF.out) _ b2)
  have km1 : ((k : Int) == -1) = false := by simp
  clear b2 HF HI
  go_wp2_with fail
  go_loopw [5, 6, 7] (fun i j _ wr => ∃ (q : Nat) (x : List R5), q ≤ n ∧ j = .int .i64 q ∧ i = .int .i64 (kept d l q : Nat) ∧ DI w wr base g n cap l d q x) (fun _ j _ _ => n - (intOf j).toNat)
  case atStart => exact ⟨k + 1, _, by omega, by go_num, by rw [(HF2.out).2], (HF2.out).1⟩
  case round =>
    clear HF2
    obtain ⟨q, x, hq, rfl, hi, hD⟩ := hrel
    obtain ⟨kq, hkq⟩ : ∃ kq, kept d l q = kq := ⟨_, rfl⟩
    have hkl : kq < q := by rw [← hkq]; exact hD.lt
    rw [hkq] at hi
    subst hi
    have HKQ := Lib.hid hkq
    have HDI := Lib.hid hD
    clear hD hkq
    by_cases hlt : q < n
    · have q1 : (q : Int) < (n : Int) := by omega
      have kq1 : (kq : Int) < (n : Int) := by omega
      obtain ⟨s, hs⟩ : ∃ s, l[q]? = some s := ⟨l[q]'(by have := HN.out; omega), List.getElem?_eq_getElem _⟩
      obtain ⟨c0, c1, c2, c3, c4⟩ := owns_row (HDI.out).own q s ((HDI.out).at hs)
      have bn := below_new wr (.cells #[.int .i64 s.vm, .int .i64 s.pg, .bool s.th, .int .i64 s.fr, .bool s.wr] 73)
      have HK := Lib.hid ((HD.out) _ (grown_trans (HDI.out).gr (grown_below bn _)) s)
      have l5 := l5_new wr (.int .i64 s.vm) (.int .i64 s.pg) (.bool s.th) (.int .i64 s.fr) (.bool s.wr) 73
      obtain ⟨e0, e1, e2, e3, e4, el, ef⟩ := id l5
      unfold R5.agg at HK
      have HD2 := Lib.hid ((HDI.out).below bn)
      have L5' := Lib.hid l5
      have HS := Lib.hid hs
      clear hs l5 bn
      cases hdr : d s
      · rw [hdr] at HK
        have HDR := Lib.hid hdr
        clear hdr
        go_wp2_with fail
        refine (HK.out).mono ?_
        rintro e w3 ⟨rfl, b3⟩
        have HD3 := Lib.hid ((HD2.out).below b3)
        obtain ⟨f0, f1, f2, f3, f4, fl, ff⟩ := (L5'.out).later b3
        obtain ⟨y, hy⟩ : ∃ y, ((l.take q).filter (fun r => !d r) ++ x ++ l.drop q)[kq]? = some y := by
          have h1 := (HD3.out).own.1
          rw [rowL_len] at h1
          exact ⟨_, List.getElem?_eq_getElem (by omega)⟩
        obtain ⟨g0, g1, g2, g3, g4⟩ := owns_row (HD3.out).own kq y hy
        have gf : ∀ j, w3.frozen? ⟨g, j, none⟩ = false := fun j => (HD3.out).own.frozenAt j
        have hst := (HD3.out).stays HS.out HDR.out
        rw [HKQ.out] at hst
        have HST := Lib.hid hst
        clear b3 c0 c1 c2 c3 c4 e0 e1 e2 e3 e4 el ef hy hst
        go_wp2
        go_roundw
        case rel => exact ⟨q + 1, _, by omega, by go_num, by rw [(HST.out).2]; go_num, (HST.out).1⟩
        case measure => simp [intOf]; omega
      · rw [hdr] at HK
        have HG := Lib.hid (fun U (hb : Below _ _ U) => ((HD2.out).below hb).gone HS.out hdr)
        have HKG : Hid (kept d l (q + 1) = kq) := Lib.hid (by rw [← HKQ.out]; unfold kept; rw [take_succ' l q s HS.out, List.filter_append]; simp [hdr])
        clear hdr
        go_wp2_with fail
        refine (HK.out).mono ?_
        rintro e w3 ⟨rfl, b3⟩
        have HD3 := Lib.hid ((HG.out) _ b3)
        clear b3 c0 c1 c2 c3 c4 e0 e1 e2 e3 e4 el ef HG
        go_wp2
        go_roundw
        case rel => exact ⟨q + 1, _, by omega, by go_num, by rw [HKG.out], HD3.out⟩
        case measure => simp [intOf]; omega
    · have q1 : ¬ (q : Int) < (n : Int) := by omega
      obtain rfl : q = n := by omega
      have hkc : kq ≤ cap := by omega
      have kq1 : ¬ (q : Int) < (kq : Int) := by omega
      have kq2 : ¬ (cap : Int) < (kq : Int) := by omega
      have kc : ¬ cap = kq := by omega
      go_wp2_with (refine wpList_clr rfl (.tmp 38) rfl base g q cap kq (q - kq) (cap - kq) _ rfl (HDI.out).own (by omega) (by omega) (by omega) ?_
                   intro w4 o4 g4
                   have HE : Hid (Dl w base (.slice (some ⟨g, 0, none⟩) q cap) (l.filter (fun r => !d r)) (.returned (.slice (some ⟨g, 0, none⟩) kq cap)) w4) := Lib.hid (by
                     have := (HDI.out).done (U := w4) HN.out (by rw [HKQ.out]; exact o4) g4 (.slice (some ⟨g, 0, none⟩) q cap) rfl
                     rw [HKQ.out] at this
                     exact this)
                   clear o4 g4)
      go_ret
      exact HE.out
end Go.Proofs.Ytjidhmdphlmldaa
