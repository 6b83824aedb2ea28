/-
  upTo: the alarms up to a time, in order.
-/
import Derived.Test.YtfiahkjaeeoepaaAC
namespace Go.Proofs.Ytfiahkjaeeoepaa
open Go.ChangeShapes Go.WideShapes Go.ChangeAt Go.RowKit Go.Sort
set_option maxRecDepth 100000
set_option linter.unusedVariables false

theorem wpList_ix {P : Program} {ops : Array Oper} {rest : List Oper} {o : Oper} {a : Act} {w : World} {Q : Exit → Act → World → Prop} (hg : o.guard = none) (t : TypeId) (x i : Operand) (ho : o.op = .index t x i)
    (cs : Array Value) (hx : a.eval x = .agg cs) (n : Nat) (hi : a.eval i = .int .i64 n) (len : Nat) (e : TypeId) (hu : P.underlying t = some (.array len e)) (hn : n < len) (sz : Nat) (hz : ∀ w, (Go.sizeOf e).run P w = .ok sz w)
    (v : Value) (hp : ∀ w, (part e cs (n * sz)).run P w = .ok v w) (h : wpList P ops Q rest (a.put o.dst v) w) : wpList P ops Q (o :: rest) a w :=
  wpList_plain hg fun _ hK => by
    have h0 : (0 : Int) ≤ (n : Int) ∧ (n : Int) < (len : Int) := by omega
    unfold Oper.wp
    simp [execOp, ho, hx, hi, Instr.index, asIntOf, run_underlying hu, hn, hz, hp]
    exact hK _ _ h
def ckRow (on : Nat → Bool) (tm : Nat → Nat) (k : Nat) : Array Value := ((List.range 6).map fun i => ckV on tm (k * 6 + i)).toArray
theorem ckRow_size (on : Nat → Bool) (tm : Nat → Nat) (k : Nat) : (ckRow on tm k).size = 6 := by simp [ckRow]
theorem ckRow_one (on : Nat → Bool) (tm : Nat → Nat) (k : Nat) : (ckRow on tm k).all (·.oneCell') = true := by
  rw [Array.all_eq_true_iff_forall_mem]
  intro v hv
  simp [ckRow] at hv
  obtain ⟨i, _, rfl⟩ := hv
  unfold ckV; split <;> rfl
theorem ckRow_of (on : Nat → Bool) (tm : Nat → Nat) (k : Nat) (hk : k < 6) : (ckA on tm).extract (k * 6) (k * 6 + 6) = ckRow on tm k := by
  apply Array.ext_getElem?
  intro i
  rw [Array.getElem?_extract]
  by_cases hi : i < 6
  · rw [if_pos (by rw [ckA_size]; omega), ckA_at _ _ _ (by omega)]
    simp [ckRow, hi]
  · rw [if_neg (by rw [ckA_size]; omega), Array.getElem?_eq_none (by rw [ckRow_size]; omega)]
theorem ckSlot_of (on : Nat → Bool) (tm : Nat → Nat) (k j : Nat) (hj : j < 3) : (ckRow on tm k).extract (j * 2) (j * 2 + 2) = #[.bool (on (k * 3 + j)), .int .u64 (tm (k * 3 + j) : Nat)] := by
  apply Array.ext_getElem?
  intro i
  rw [Array.getElem?_extract]
  by_cases hi : i < 2
  · rw [if_pos (by rw [ckRow_size]; omega)]
    have e : (ckRow on tm k)[j * 2 + i]? = some (ckV on tm (k * 6 + (j * 2 + i))) := by simp [ckRow, show j * 2 + i < 6 by omega]
    rw [e]
    have hc : i = 0 ∨ i = 1 := by omega
    rcases hc with rfl | rfl
    · unfold ckV; rw [if_pos (by omega), show (k * 6 + (j * 2 + 0)) / 2 = k * 3 + j by omega]; rfl
    · unfold ckV; rw [if_neg (by omega), show (k * 6 + (j * 2 + 1)) / 2 = k * 3 + j by omega]; rfl
  · rw [if_neg (by rw [ckRow_size]; omega), Array.getElem?_eq_none (by simp; omega)]
theorem agg28 (w : World) : (isAgg 28).run Try.prog w = .ok true w := by kernel_rfl
theorem agg27 (w : World) : (isAgg 27).run Try.prog w = .ok true w := by kernel_rfl
theorem size28 (w : World) : (Go.sizeOf 28).run Try.prog w = .ok 6 w := by kernel_rfl
theorem size27 (w : World) : (Go.sizeOf 27).run Try.prog w = .ok 2 w := by kernel_rfl
theorem part28 (on : Nat → Bool) (tm : Nat → Nat) (k : Nat) (hk : k < 6) (w : World) : (part 28 (ckA on tm) (k * 6)).run Try.prog w = .ok (.agg (ckRow on tm k)) w := by
  unfold part
  simp [Sem.run_bind, ckRow_of on tm k hk]
theorem part27 (on : Nat → Bool) (tm : Nat → Nat) (k j : Nat) (hj : j < 3) (w : World) : (part 27 (ckRow on tm k) (j * 2)).run Try.prog w = .ok (.agg #[.bool (on (k * 3 + j)), .int .u64 (tm (k * 3 + j) : Nat)]) w := by
  unfold part
  simp [Sem.run_bind, ckSlot_of on tm k j hj]
def zero6 : Array Value := ckRow (fun _ => false) (fun _ => 0) 0
theorem zero6_run (W : World) : (zeroValue 28).run Try.prog W = .ok (.agg zero6) W := by kernel_rfl
theorem info28 : (Try.prog.info? 28).map (·.size) = some 6 := by kernel_rfl
theorem info29 : (Try.prog.info? 29).map (·.size) = some 36 := by kernel_rfl
theorem und_al : Try.prog.underlying 40 = some (.slice 43) := by kernel_rfl
def zeroAl : Array Value := #[.int .u64 0, .int .i64 0, .int .i64 0]
theorem info_al : ∃ i, Try.prog.info? 43 = some i ∧ i.zero = some (.agg zeroAl) ∧ i.size = 3 ∧ i.bytes = 24 := info_of (by kernel_rfl)
/-- What stands between the rounds. -/
structure UpI (w wr : World) (v : Value) (L : List AL) : Prop where
  bel : Below w.heap.size w wr
  own : wr.ownsRow w.heap.size 43 3 v L.length (rowA L)
theorem UpI.below {w wr w2 : World} {v : Value} {L : List AL} (h : UpI w wr v L) (hb : Below wr.heap.size wr w2) : UpI w w2 v L := ⟨below_up h.bel hb, owns_below h.own hb⟩
theorem UpI.start (w : World) : UpI w w (.slice none 0 0) [] := ⟨Below.refl _ _, World.ownsRow_nil _ _ _ _⟩
theorem wpList_appA {w : World} {ops : Array Oper} {rest : List Oper} {o : Oper} {a : Act} {Q : Exit → Act → World → Prop} (hgd : o.guard = none) (s x : Operand)
    (ho : o.op = .call { callee := .builtin .append, args := #[s, x], argTypes := #[40, 40] }) (w0 : World) (v : Value) (L : List AL) (hs : a.eval s = v) (hU : UpI w0 w v L) (hL : L.length ≤ 18) (r : AL)
    (A : Addr) (c : Nat) (hx : a.eval x = .slice (some A) 1 c) (hnews : ∀ j u, (encA r)[j]? = some u → w.cell? (A.add j) = some u)
    (h : ∀ v' w', UpI w0 w' v' (L ++ [r]) → wpList Try.prog ops Q rest (a.put o.dst v') w') : wpList Try.prog ops Q (o :: rest) a w := by
  obtain ⟨i, hi, hz, hsz, hby⟩ := info_al
  refine wpList_app (P := Try.prog) hgd s x 40 43 ho i (.agg zeroAl) 3 24 und_al hi hz hsz hby rfl (by omega) w0.heap.size v L.length (rowA L) hs hU.own A 1 c (encA r) hx rfl hnews
    (fun u hu => rowA_one [r] u (by simpa [rowA] using hu)) (by unfold maxLen; omega) (by omega) hU.bel.size (fun v' w' h1 h2 _ h3 => h v' w' ⟨?_, ?_⟩)
  · rcases h2 with ⟨g1, g2, g3, g4, g5⟩
    refine hU.bel.grown ⟨g1, g2, g3, g4, g5⟩ hU.bel.size (fun j hj => ?_)
    rcases hU.own.2 with ⟨e, _⟩ | ⟨g, cap, cur, e, hb, _⟩
    · rw [e] at hj; cases hj
    · rw [e, show (Value.slice (some ⟨g, 0, none⟩) L.length cap).ownBlock = some g from rfl] at hj; injection hj with hj; omega
  · rw [List.length_append]
    have e : rowA L ++ encA r = rowA (L ++ [r]) := by rw [rowA_app]; simp [rowA]
    rw [← e]
    exact h1
theorem upTo_nil (last : Nat) (w : World) : Calls Try.prog 17 #[.pointer none, .int .u64 last] w fun e w' => e = .returned (.slice none 0 0) ∧ w = w' := by
  go_enter Try.func17, Try.ntmps17
  go_wp2
  go_ret
  exact ⟨rfl, rfl⟩
theorem row_put {w0 wr : World} {v : Value} {L : List AL} (h : UpI w0 wr v L) (z cs : Array Value) (T : TypeId) : UpI w0 ((wr.alloc (.cells z T)).setRow wr.heap.size cs) v L :=
  h.below ((below_new wr _).grown (grown_setRow _ _ _) (by simp) (fun j hj => by injection hj with hj; omega))
/-- What upTo answers. -/
def Ut (w : World) (L : List AL) (e : Ending) (w' : World) : Prop := ∃ v, e = .returned v ∧ LsA w' w.heap.size v L ∧ Below w.heap.size w w'
theorem newsA (wr : World) (o : Obj) (t k j : Nat) (hj : j < 3) : ∀ i u, (encA ⟨t, k * 3 + j⟩)[i]? = some u → ((wr.alloc o).alloc (.cells #[.int .u64 t, .int .i64 k, .int .i64 j] 43)).cell? ((⟨wr.heap.size + 1, 0, none⟩ : Addr).add i) = some u := by
  intro i u hu
  have hc : (⟨wr.heap.size + 1, 0, none⟩ : Addr).add i = ⟨(wr.alloc o).heap.size, i, none⟩ := by rw [add_at, World.size_alloc]
  rw [hc, World.cell?_alloc_new]
  unfold encA at hu
  rw [show (k * 3 + j) / 3 = k by omega, show (k * 3 + j) % 3 = j by omega] at hu
  simpa using hu
set_option maxHeartbeats 2000000 in
theorem upTo_in {w : World} {B : Nat} {on : Nat → Bool} {tm : Nat → Nat} (h : CK w B on tm) (last : Nat) :
    Calls Try.prog 17 #[.pointer (some ⟨B, 0, none⟩), .int .u64 last] w (Ut w (upL on tm last)) := by
  have HC := Lib.hid h
  have H0 := Lib.hid (UpI.start w)
  have HZ := zero6_run
  clear h
  go_enter Try.func17, Try.ntmps17
  go_wp2_with (refine wpList_load_row rfl 29 (.tmp 14) rfl B rfl 31 (ckA on tm) (0, 0) _ HC.out Try.underlying29 rfl (by rw [info29, ckA_size]) ?_)
  go_loopw [5, 6, 7, 8, 9, 16] (fun l _ _ _ _ i wr => ∃ (k : Nat) (v : Value), k ≤ 6 ∧ i = .int .i64 k ∧ l = v ∧ UpI w wr v (alL on tm last (k * 3))) (fun _ _ _ _ _ i _ => 6 - (intOf i).toNat)
  case atStart => exact ⟨0, _, by omega, rfl, rfl, H0.out⟩
  case round =>
    clear H0
    obtain ⟨k, v, hk, rfl, rfl, hU⟩ := hrel
    by_cases hlt : k < 6
    · have z : (k : Int) < 6 := by omega
      have HU := Lib.hid (row_put hU zero6 (ckRow on tm k) 28)
      clear hU
      go_wp2_with (first
        | (refine wpList_ix rfl 29 (.tmp 15) (.tmp 16) rfl (ckA on tm) rfl k rfl 6 28 Try.underlying29 hlt 6 size28 (.agg (ckRow on tm k)) (part28 on tm k hlt) ?_)
        | (refine wpList_store_row rfl 28 (.tmp 7) (.tmp 19) rfl wr.heap.size (ckRow on tm k) rfl rfl 28 zero6 (heap_alloc_new wr _) (by rw [info28, ckRow_size]) (by unfold zero6; rw [ckRow_size, ckRow_size]) (ckRow_one on tm k) ?_)
        | (refine wpList_load_row rfl 28 (.tmp 7) rfl wr.heap.size rfl 28 (ckRow on tm k) (0, 0) _ (setRow_heap _ wr.heap.size zero6 _ 28 (0, 0) (heap_alloc_new wr _)) Try.underlying28 rfl (by rw [info28, ckRow_size]) ?_))
      go_loopw [5, 8, 9, 21] (fun l _ _ i wr2 => ∃ (j : Nat) (v : Value), j ≤ 3 ∧ i = .int .i64 j ∧ l = v ∧ UpI w wr2 v (alL on tm last (k * 3 + j))) (fun _ _ _ i _ => 3 - (intOf i).toNat)
      case atStart => exact ⟨0, _, by omega, rfl, rfl, HU.out⟩
      case round =>
        clear HU
        obtain ⟨j, u5', hj, rfl, rfl, hU⟩ := hrel
        by_cases hlj : j < 3
        · have z2 : (j : Int) < 3 := by omega
          have hs := alL_succ on tm last (k * 3 + j)
          have HP := Lib.hid (part27 on tm k j hlj)
          have hlen := alL_len on tm last (k * 3 + j)
          obtain ⟨b, hb⟩ : ∃ b, on (k * 3 + j) = b := ⟨_, rfl⟩
          obtain ⟨t, ht⟩ : ∃ t, tm (k * 3 + j) = t := ⟨_, rfl⟩
          rw [hb, ht] at hs HP
          clear hb ht
          have HB := Lib.hid (hU.below (below_new _ (.cells #[.bool b, .int .u64 t] 27)))
          clear hU
          by_cases hy : b = true ∧ t ≤ last
          · obtain ⟨rfl, hl⟩ := hy
            have z3 : (t : Int) ≤ (last : Int) := by omega
            rw [if_pos (by simp [hl])] at hs
            have HS := Lib.hid hs
            clear hs
            go_wp2_with (first
              | (refine wpList_ix rfl 28 (.tmp 20) (.tmp 21) rfl (ckRow on tm k) rfl j rfl 3 27 Try.underlying28 hlj 2 size27 _ HP.out ?_)
              | (at_builtin; refine wpList_appA rfl (.tmp 33) (.tmp 39) rfl w _ (alL on tm last (k * 3 + j)) rfl ((HB.out).below (below_new _ _)) (by omega) ⟨t, k * 3 + j⟩ ⟨wr.heap.size + 1, 0, none⟩ 1 rfl (newsA wr _ t k j hlj) ?_
                 intro v' w' h'
                 rw [← HS.out] at h'
                 have HU := Lib.hid h'
                 clear h'))
            go_roundw
            case rel => exact ⟨j + 1, _, by omega, by go_num, rfl, HU.out⟩
            case measure => simp [intOf]; omega
          · rw [if_neg (by simpa using hy), List.append_nil] at hs
            rw [← hs] at HB
            have HU := Lib.hid HB.out
            cases b
            · clear hy hs HB
              go_wp2_with (refine wpList_ix rfl 28 (.tmp 20) (.tmp 21) rfl (ckRow on tm k) rfl j rfl 3 27 Try.underlying28 hlj 2 size27 _ HP.out ?_)
              go_roundw
              case rel => exact ⟨j + 1, _, by omega, by go_num, rfl, HU.out⟩
              case measure => simp [intOf]; omega
            · have z3 : ¬ (t : Int) ≤ (last : Int) := fun h => hy ⟨rfl, by omega⟩
              clear hy hs HB
              go_wp2_with (refine wpList_ix rfl 28 (.tmp 20) (.tmp 21) rfl (ckRow on tm k) rfl j rfl 3 27 Try.underlying28 hlj 2 size27 _ HP.out ?_)
              go_roundw
              case rel => exact ⟨j + 1, _, by omega, by go_num, rfl, HU.out⟩
              case measure => simp [intOf]; omega
        · obtain rfl : j = 3 := by omega
          have HU := Lib.hid hU
          clear hU
          go_wp2
          go_roundw
          case rel => exact ⟨k + 1, _, by omega, by go_num, rfl, by rw [show (k + 1) * 3 = k * 3 + 3 by omega]; exact HU.out⟩
          case measure => simp [intOf]; omega
    · obtain rfl : k = 6 := by omega
      have HS := Lib.hid (sort_in (on := on) (tm := tm) (last := last) hU.own hU.bel.size)
      have HU := Lib.hid hU
      clear hU
      go_wp2_with fail
      refine (HS.out).mono ?_
      rintro e w5 ⟨rfl, h1, h2⟩
      have HE : Hid (Ut w (upL on tm last) (.returned _) w5) := Lib.hid ⟨_, rfl, h1, (HU.out).bel.trans h2⟩
      clear h1 h2 HU HS
      go_wp2
      go_ret
      exact HE.out
end Go.Proofs.Ytfiahkjaeeoepaa
