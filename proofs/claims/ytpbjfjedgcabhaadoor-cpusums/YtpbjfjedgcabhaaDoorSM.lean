/-
  Rows of bytes in blocks known whole: what a copy, a make and a store leave of them; bytes as a string. Nothing of the program stands here but the numbers of its types.
-/
import Derived.Test.YtpbjfjedgcabhaaDoorWB
import Derived.Test.YtpbjfjedgcabhaaDoorLT
import Derived.Test.YtpbjfjedgcabhaaDoorGP
import Derived.Laws.CopyOwn
import Derived.Laws.MakeOwn
import Derived.Laws.OwnMore
import Derived.Laws.BytesArg
import Derived.Deep.AppendLies
import Derived.Maps.AppendAt
import Derived.Lib.Bytes
namespace Go.Proofs.YtpbjfjedgcabhaaDoor
open Go.ChangeShapes Go.WideShapes Go.ChangeAt Go.RowKit
open WM
set_option maxRecDepth 100000

/-- L bytes as cells. -/
def rowV (f : Nat → Nat) (L : Nat) : List Value := (List.range L).map fun j => .int .u8 (f j : Nat)
theorem rowV_length (f : Nat → Nat) (L : Nat) : (rowV f L).length = L := by simp [rowV]
theorem rowV_get (f : Nat → Nat) (L j : Nat) (h : j < L) : (rowV f L)[j]? = some (.int .u8 (f j : Nat)) := by simp [rowV, h]
theorem rowV_none (f : Nat → Nat) (L j : Nat) (h : ¬ j < L) : (rowV f L)[j]? = none := by simp [rowV]; omega
theorem rowV_some {f : Nat → Nat} {L j : Nat} {v : Value} (h : (rowV f L)[j]? = some v) : j < L ∧ v = .int .u8 (f j : Nat) := by
  by_cases hj : j < L
  · rw [rowV_get f L j hj] at h; injection h with h; exact ⟨hj, h.symm⟩
  · rw [rowV_none f L j hj] at h; cases h
theorem rowV_one (f : Nat → Nat) (L : Nat) : ∀ v ∈ rowV f L, v.oneCell' = true := by
  intro v hv
  simp only [rowV, List.mem_map] at hv
  obtain ⟨j, _, rfl⟩ := hv
  rfl
theorem rowV_congr (f g : Nat → Nat) (L : Nat) (h : ∀ i, i < L → f i = g i) : rowV f L = rowV g L := by
  apply List.ext_getElem?
  intro j
  by_cases hj : j < L
  · rw [rowV_get f L j hj, rowV_get g L j hj, h j hj]
  · rw [rowV_none f L j hj, rowV_none g L j hj]

/-- Block g is just these L bytes. -/
def Row (w : World) (g : Nat) (f : Nat → Nat) (L : Nat) : Prop := w.heap[g]? = some (.cells (rowV f L).toArray 5 (0, 0))
theorem Row.lt {w : World} {g : Nat} {f : Nat → Nat} {L : Nat} (h : Row w g f L) : g < w.heap.size := (Array.getElem?_eq_some_iff.1 h).1
theorem Row.cell {w : World} {g : Nat} {f : Nat → Nat} {L : Nat} (h : Row w g f L) (j : Nat) (hj : j < L) : w.cell? ⟨g, j, none⟩ = some (.int .u8 (f j : Nat)) := by
  rw [← rowV_get f L j hj]
  unfold Row at h
  simp [World.cell?, h]
theorem Row.frozen {w : World} {g : Nat} {f : Nat → Nat} {L : Nat} (h : Row w g f L) (j : Nat) : w.frozen? ⟨g, j, none⟩ = false := by
  unfold Row at h
  simp [World.frozen?, h]
theorem Row.new (w : World) (f : Nat → Nat) (L : Nat) : Row (w.alloc (.cells (rowV f L).toArray 5)) w.heap.size f L := heap_alloc_new w _
theorem Row.kept {w w' : World} {g : Nat} {f : Nat → Nat} {L : Nat} {row : Option Nat} (h : Row w g f L) (hg : w.grownBy w' row) (hr : some g ≠ row) : Row w' g f L := (hg.block g h.lt hr).trans h
theorem Row.below {w w' : World} {g : Nat} {f : Nat → Nat} {L : Nat} (h : Row w g f L) (hb : Below w.heap.size w w') : Row w' g f L := (hb.block g h.lt).trans h
theorem Row.congr {w : World} {g : Nat} {f f' : Nat → Nat} {L : Nat} (h : Row w g f L) (he : ∀ i, i < L → f i = f' i) : Row w g f' L := by
  unfold Row at h ⊢
  rw [← rowV_congr f f' L he]; exact h
theorem Row.bytes {w : World} {g : Nat} {f : Nat → Nat} {L : Nat} (h : Row w g f L) (k m : Nat) (hk : k + m ≤ L) : BytesAt w (some ⟨g, k, none⟩) m (fun i => f (k + i)) :=
  fun i hi => ⟨g, k, rfl, h.cell (k + i) (by omega)⟩
theorem Row.bytes0 {w : World} {g : Nat} {f : Nat → Nat} {L : Nat} (h : Row w g f L) (m : Nat) (hk : m ≤ L) : BytesAt w (some ⟨g, 0, none⟩) m f :=
  fun i hi => ⟨g, 0, rfl, by rw [Nat.zero_add]; exact h.cell i (by omega)⟩
theorem BytesAt.kept {w w' : World} {a : Option Addr} {len : Nat} {f : Nat → Nat} (h : BytesAt w a len f) (hb : Below w.heap.size w w') : BytesAt w' a len f := by
  intro i hi
  obtain ⟨b, off, ha, hc⟩ := h i hi
  exact ⟨b, off, ha, (hb.cell (World.block_lt_of_cell? _ _ hc)).trans hc⟩
theorem BytesAt.congr {w : World} {a : Option Addr} {len : Nat} {f g : Nat → Nat} (h : BytesAt w a len f) (he : ∀ i, i < len → f i = g i) : BytesAt w a len g := by
  intro i hi
  rw [← he i hi]; exact h i hi
theorem BytesAt.none_ (w : World) (a : Option Addr) (f : Nat → Nat) : BytesAt w a 0 f := fun i hi => by omega

/-- Bytes with others in their place: c bytes p from k on. -/
def putF (f : Nat → Nat) (k c : Nat) (p : Nat → Nat) : Nat → Nat := fun i => if k ≤ i ∧ i < k + c then p (i - k) else f i
theorem putF_lt {f p : Nat → Nat} (hf : ∀ i, f i < 256) (hp : ∀ i, p i < 256) (k c : Nat) (i : Nat) : putF f k c p i < 256 := by
  unfold putF; split
  · exact hp _
  · exact hf _
theorem putF_none (f : Nat → Nat) (k : Nat) (p : Nat → Nat) : putF f k 0 p = f := by
  funext i; unfold putF; rw [if_neg (by omega)]
theorem put_rows (f : Nat → Nat) (L k c : Nat) (p : Nat → Nat) (hk : k + c ≤ L) : ((rowV f L).take k ++ (rowV p c ++ (rowV f L).drop (k + c))) = rowV (putF f k c p) L := by
  apply List.ext_getElem?
  intro j
  rw [List.getElem?_append, List.length_take, rowV_length, Nat.min_eq_left (by omega), List.getElem?_append, rowV_length]
  by_cases h1 : j < k
  · rw [if_pos h1, List.getElem?_take, if_pos h1, rowV_get _ _ _ (by omega), rowV_get _ _ _ (by omega)]
    unfold putF; rw [if_neg (by omega)]
  · rw [if_neg h1]
    by_cases h2 : j - k < c
    · rw [if_pos h2, rowV_get _ _ _ h2, rowV_get _ _ _ (by omega)]
      unfold putF; rw [if_pos (by omega)]
    · rw [if_neg h2, List.getElem?_drop, show k + c + (j - k - c) = j by omega]
      by_cases h3 : j < L
      · rw [rowV_get _ _ _ h3, rowV_get _ _ _ h3]
        unfold putF; rw [if_neg (by omega)]
      · rw [rowV_none _ _ _ h3, rowV_none _ _ _ h3]

theorem Row.setRow {w : World} {g : Nat} {f : Nat → Nat} {L : Nat} (h : Row w g f L) (f' : Nat → Nat) : Row (w.setRow g (rowV f' L).toArray) g f' L := setRow_heap w g _ _ _ _ h

/-- 'copy(d, s)', d in a row known whole: the row has the bytes of s in that place; where nothing goes over nothing has turned. -/
theorem wpList_put {P : Program} {w : World} {ops : Array Oper} {rest : List Oper} {o : Oper} {a : Act} {Q : Exit → Act → World → Prop} (hgd : o.guard = none) (d s : Operand) (dT sT : TypeId)
    (ho : o.op = .call { callee := .builtin .copy, args := #[d, s], argTypes := #[dT, sT] }) (elem : TypeId) (hu : P.underlying dT = some (.slice elem)) (hsz : (P.info? elem).map (·.size) = some 1)
    (dp sp : Option Addr) (dLen dCap sLen sCap : Nat) (hd : a.eval d = .slice dp dLen dCap) (hs : a.eval s = .slice sp sLen sCap)
    (g k c L : Nat) (f p : Nat → Nat) (hr : Row w g f L) (hc : c = Nat.min sLen dLen) (hk : k + c ≤ L) (hdp : 0 < c → dp = some ⟨g, k, none⟩) (hb : BytesAt w sp sLen p)
    (h : ∀ w', Row w' g (putF f k c p) L → w.grownBy w' (some g) → wpList P ops Q rest (a.put o.dst (goInt c)) w') : wpList P ops Q (o :: rest) a w := by
  by_cases h0 : c = 0
  · subst h0
    refine wpList_copy_nothing hgd d s dT sT ho elem hu hsz dp sp dLen dCap sLen sCap hd hs hc.symm ?_
    exact h w (by rw [putF_none]; exact hr) (World.grownBy.refl w _)
  · have hm : Nat.min sLen dLen ≤ sLen := Nat.min_le_left _ _
    obtain rfl := hdp (by omega)
    obtain ⟨b, off, rfl, _⟩ := hb 0 (by omega)
    refine wpList_copy_own hgd d s dT sT ho elem hu hsz g k dLen dCap ⟨b, off, none⟩ sLen sCap hd hs _ _ hr (rowV p c) (by rw [rowV_length, hc]) ?_ (by simp [rowV_length]; omega) (rowV_one p c) ?_
    · intro j v hj
      obtain ⟨hj, rfl⟩ := rowV_some hj
      obtain ⟨b', off', e, hcell⟩ := hb j (by omega)
      injection e with e
      injection e with e1 e2
      subst e1 e2
      rw [← hcell]
      congr 1
      unfold Addr.add
      split <;> simp_all
    · rw [rowV_length]
      have e := put_rows f L k c p hk
      show wpList P ops Q rest _ (w.setRow g ((rowV f L).take k ++ (rowV p c ++ (rowV f L).drop (k + c))).toArray)
      rw [e]
      exact h _ (hr.setRow _) (grown_setRow _ _ _)

/-! ### bytes as a string -/
def strF (f : Nat → Nat) (n : Nat) : ByteArray := strOfNums ((List.range n).map fun i => (f i : Int))
theorem strF_congr (f g : Nat → Nat) (n : Nat) (h : ∀ i, i < n → f i = g i) : strF f n = strF g n := by
  unfold strF
  congr 1
  apply List.map_congr_left
  intro i hi
  rw [h i (List.mem_range.1 hi)]
theorem strF_get (f : Nat → Nat) (n i : Nat) (h : i < n) : (strF f n).data.toList[i]? = some (UInt8.ofNat (f i)) := by
  unfold strF; rw [strOfNums_data]; simp [h]
theorem strF_inj (f g : Nat → Nat) (n : Nat) (hf : ∀ i, f i < 256) (hg : ∀ i, g i < 256) (h : strF f n = strF g n) (i : Nat) (hi : i < n) : f i = g i := by
  have h1 := strF_get f n i hi
  rw [h, strF_get g n i hi] at h1
  injection h1 with h1
  have h2 := congrArg UInt8.toNat h1
  have := hf i
  have := hg i
  simp at h2
  omega
theorem strF_size (f : Nat → Nat) (n : Nat) : (strF f n).size = n := by unfold strF; rw [strOfNums_size]; simp
theorem strF_list (f : Nat → Nat) (n : Nat) : (strF f n).toList = (List.range n).map fun i => UInt8.ofNat (f i) := by
  unfold strF; rw [Lib.strOfNums_toList]; simp [Lib.bytesOf]
/-- The same text? As the walk has it. -/
def sameS (x y : ByteArray) : Bool := x.toList == y.toList
theorem sameS_iff (f g : Nat → Nat) (n m : Nat) (hf : ∀ i, f i < 256) (hg : ∀ i, g i < 256) : sameS (strF f n) (strF g m) = true ↔ n = m ∧ ∀ i, i < n → f i = g i := by
  unfold sameS
  rw [beq_iff_eq, strF_list, strF_list]
  constructor
  · intro h
    have hl := congrArg List.length h
    simp at hl
    subst hl
    refine ⟨rfl, fun i hi => ?_⟩
    have h1 := congrArg (fun l => l[i]?) h
    simp [hi] at h1
    have h2 := congrArg UInt8.toNat h1
    have := hf i
    have := hg i
    simp at h2
    omega
  · rintro ⟨rfl, h⟩
    apply List.map_congr_left
    intro i hi
    rw [h i (List.mem_range.1 hi)]
theorem conv_at {w : World} {a : Option Addr} {n : Nat} {f : Nat → Nat} (h : BytesAt w a n f) (cap : Nat) :
    (convert 28 9 (.slice a n cap)).run Tryd.prog w = .ok (.string (strF f n)) w := by
  have hs : Tryd.prog.underlying 28 = some (.slice 5) := by kernel_rfl
  have he : Tryd.prog.underlying 5 = some (.int .u8) := by kernel_rfl
  have hd : Tryd.prog.underlying 9 = some .string := by kernel_rfl
  by_cases h0 : n = 0
  · subst h0
    cases a with
    | none => exact run_convert_bytes_nil w _ _ hs he 0 cap _ hd
    | some a =>
      have hl : (loadCells a 0).run Tryd.prog w = .ok (([] : List Int).map (Value.int .u8)).toArray w := by simpa using run_loadCells_list (P := Tryd.prog) w a [] (by simp)
      rw [run_convert_bytes_string w _ _ _ _ 0 cap hs he hd, run_bytesToString w a 0 cap [] hl]
      rfl
  · obtain ⟨b, off, rfl, _⟩ := h 0 (by omega)
    refine run_convert_bytes_arg w _ _ hs he b off n cap _ (by simp) ?_ _ hd
    intro i hi
    obtain ⟨b', off', e, hc⟩ := h i hi
    injection e with e
    injection e with e1 e2
    subst e1 e2
    rw [hc]
    simp [List.getD_eq_getElem?_getD, hi]

/-! ### make -/
theorem rowV_made (L : Nat) : (madeCells (Value.int .u8 0).cells L) = (rowV (fun _ => 0) L).toArray := by
  apply Array.ext_getElem?
  intro j
  by_cases hj : j < L
  · simp [madeCells, rowV, hj, Value.cells, Nat.mod_one]
  · simp [madeCells, rowV, Value.cells, hj]
theorem make_run (w : World) (n : Nat) (h : n ≤ 16777216) :
    (Instr.makeSlice 28 (.int .i64 n) (.int .i64 n)).run Tryd.prog w = .ok (.slice (some ⟨w.heap.size, 0, none⟩) n n) (w.alloc (.cells (rowV (fun _ => 0) n).toArray 5)) := by
  have hs : Tryd.prog.underlying 28 = some (.slice 5) := by kernel_rfl
  have hi : (Tryd.prog.info? 5).map (fun i => (i.zero, i.size, i.bytes)) = some (some (.int .u8 0), 1, 1) := by kernel_rfl
  obtain ⟨i, hi, hz, h1, h2⟩ := info_parts hi
  have h := run_makeSlice (P := Tryd.prog) w 28 5 i (.int .u8 0) hs hi hz .i64 .i64 n n (by omega) (by omega) (by rw [h1]; omega) (by rw [h2]; omega) (by omega)
  rw [h1, Nat.mul_one, Int.toNat_natCast, rowV_made] at h
  exact h

/-! ### clear -/
theorem zero_row (m : Nat) : (Builtin.zeroCells (Value.int .u8 0).cells m).toList = rowV (fun _ => 0) m := by
  apply List.ext_getElem?
  intro j
  by_cases hj : j < m
  · simp [Builtin.zeroCells, rowV, hj, Value.cells, Nat.mod_one]
  · simp [Builtin.zeroCells, rowV, Value.cells, hj]
theorem clear_run {w : World} {g L : Nat} {f : Nat → Nat} (h : Row w g f L) (k m cap : Nat) (ty : TypeId) (hk : k + m ≤ L) (hm : 0 < m) :
    (Builtin.clear_ #[28] ty #[.slice (some ⟨g, k, none⟩) m cap]).run Tryd.prog w = .ok (.tuple #[]) (w.setRow g (rowV (putF f k m (fun _ => 0)) L).toArray) := by
  have hs : Tryd.prog.underlying 28 = some (.slice 5) := by kernel_rfl
  have hi : (Tryd.prog.info? 5).map (fun i => (i.zero, i.size, i.bytes)) = some (some (.int .u8 0), 1, 1) := by kernel_rfl
  obtain ⟨i, hi, hz, h1, h2⟩ := info_parts hi
  obtain ⟨m, rfl⟩ : ∃ m', m = m' + 1 := ⟨m - 1, by omega⟩
  have hst := run_storeCells_at Tryd.prog g k _ (rowV (fun _ => 0) (m + 1)) 0 _ w h (by simp [rowV_length]; omega) (rowV_one _ _)
  rw [rowV_length] at hst
  have e := put_rows f L k (m + 1) (fun _ => 0) hk
  simp only [List.append_assoc, Nat.add_zero] at hst
  rw [e] at hst
  simp [Builtin.clear_, run_underlying hs, zeroValue, typeInfo, hi, hz, zero_row, hst]
theorem wpList_clear {w : World} {ops : Array Oper} {rest : List Oper} {o : Oper} {a : Act} {Q : Exit → Act → World → Prop} (hgd : o.guard = none) (d : Operand)
    (ho : o.op = .call { callee := .builtin .clear, args := #[d], argTypes := #[28] }) (g k m cap L : Nat) (f : Nat → Nat) (hd : a.eval d = .slice (some ⟨g, k, none⟩) m cap)
    (hr : Row w g f L) (hk : k + m ≤ L) (hm : 0 < m)
    (h : ∀ w', Row w' g (putF f k m (fun _ => 0)) L → w.grownBy w' (some g) → wpList Tryd.prog ops Q rest (a.put o.dst (.tuple #[])) w') : wpList Tryd.prog ops Q (o :: rest) a w := by
  refine wpList_plain hgd fun K hK => ?_
  have hrun := clear_run hr k m cap o.type hk hm
  unfold Oper.wp
  simp [execOp, ho, resolve, invoke, builtin, hd, hrun, Result.andThen]
  exact hK _ _ (h _ (hr.setRow _) (grown_setRow _ _ _))
theorem wpList_clear_nothing {w : World} {ops : Array Oper} {rest : List Oper} {o : Oper} {a : Act} {Q : Exit → Act → World → Prop} (hgd : o.guard = none) (d : Operand)
    (ho : o.op = .call { callee := .builtin .clear, args := #[d], argTypes := #[28] }) (hd : a.eval d = .slice none 0 0)
    (h : wpList Tryd.prog ops Q rest (a.put o.dst (.tuple #[])) w) : wpList Tryd.prog ops Q (o :: rest) a w := by
  refine wpList_plain hgd fun K hK => ?_
  have hs : Tryd.prog.underlying 28 = some (.slice 5) := by kernel_rfl
  have hrun : (Builtin.clear_ #[28] o.type #[.slice none 0 0]).run Tryd.prog w = .ok (.tuple #[]) w := by simp [Builtin.clear_, run_underlying hs]
  unfold Oper.wp
  simp [execOp, ho, resolve, invoke, builtin, hd, hrun, Result.andThen]
  exact hK _ _ h

/-- 'copy(d, s)' as one step of a region that draws its order. -/
theorem step_put {P : Program} {ops : Array Oper} {o : Oper} {a : Act} {w : World} {K : Act → World → Prop} {Q : Exit → Act → World → Prop} {E : Prop} (hgd : o.guard = none) (d s : Operand) (dT sT : TypeId)
    (ho : o.op = .call { callee := .builtin .copy, args := #[d, s], argTypes := #[dT, sT] }) (elem : TypeId) (hu : P.underlying dT = some (.slice elem)) (hsz : (P.info? elem).map (·.size) = some 1)
    (g b L M : Nat) (f p : Nat → Nat) (dCap sCap : Nat) (hd : a.eval d = .slice (some ⟨g, 0, none⟩) L dCap) (hs : a.eval s = .slice (some ⟨b, 0, none⟩) L sCap) (hr : Row w g f L) (hb : Row w b p M) (hLM : L ≤ M)
    (h : ∀ w', Row w' g p L → w.grownBy w' (some g) → K (a.put o.dst (goInt L)) w') :
    if Region.wanted o (yielded ops a.tmps) = true then Oper.wp P o a w K Q else E := by
  have hw : Region.wanted o (yielded ops a.tmps) = true := by simp [Region.wanted, hgd]
  rw [if_pos hw]
  by_cases h0 : L = 0
  · subst h0
    have hrun := run_copy_none (P := P) w dT sT o.type elem (some ⟨g, 0, none⟩) (some ⟨b, 0, none⟩) 0 dCap 0 sCap hu hsz (by decide)
    unfold Oper.wp
    simp [execOp, ho, resolve, invoke, builtin, hd, hs, hrun, Result.andThen]
    exact h w (hr.congr (fun i hi => by omega)) (World.grownBy.refl w _)
  · have hsrc : ∀ j v, (rowV p L)[j]? = some v → w.cell? ((⟨b, 0, none⟩ : Addr).add j) = some v := by
      intro j v hj
      obtain ⟨hj, rfl⟩ := rowV_some hj
      rw [← hb.cell j (by omega)]
      congr 1
      unfold Addr.add
      split <;> simp_all
    have hrun := run_copy_row (P := P) w dT sT o.type elem g 0 L dCap ⟨b, 0, none⟩ L sCap _ _ (rowV p L) hu hsz hr (by rw [rowV_length]; simp) hsrc (by simp [rowV_length]) (rowV_one p L)
    have e := put_rows f L 0 L p (by omega)
    rw [rowV_length] at hrun
    simp only [List.append_assoc] at hrun
    rw [e] at hrun
    unfold Oper.wp
    simp [execOp, ho, resolve, invoke, builtin, hd, hs, hrun, Result.andThen]
    exact h _ ((hr.setRow _).congr (fun i hi => by unfold putF; rw [if_pos (by omega), Nat.sub_zero])) (grown_setRow _ _ _)

/-! ### a row of the call's own that grows -/
def Own (w : World) (base : Nat) (v : Value) (n : Nat) (f : Nat → Nat) : Prop := w.ownsRow base 5 1 v n (rowV f n)
theorem Own.nil (w : World) (base : Nat) (f : Nat → Nat) : Own w base (.slice none 0 0) 0 f := World.ownsRow_nil w base _ _
theorem Own.kept {w w' : World} {base n : Nat} {v : Value} {f : Nat → Nat} {row : Option Nat} (h : Own w base v n f) (hg : w.grownBy w' row) (hne : v.ownBlock = none ∨ v.ownBlock ≠ row) : Own w' base v n f := World.ownsRow.kept h hg hne
theorem Own.form {w : World} {base n : Nat} {v : Value} {f : Nat → Nat} (h : Own w base v n f) : ∃ A cap, v = .slice A n cap ∧ BytesAt w A n f := by
  obtain ⟨_, ⟨rfl, rfl⟩ | ⟨g, cap, cur, rfl, hb, hg, hnc, hm, hsz, ht⟩⟩ := h
  · exact ⟨none, 0, rfl, BytesAt.none_ _ _ _⟩
  · refine ⟨_, cap, rfl, fun i hi => ⟨g, 0, rfl, ?_⟩⟩
    have h1 := rowV_get f n i hi
    rw [← ht, List.getElem?_take, if_pos (by omega)] at h1
    rw [Nat.zero_add]
    simp [World.cell?, hg]
    simpa using h1
theorem Own.place {w : World} {base n : Nat} {v : Value} {f : Nat → Nat} (h : Own w base v n f) (hn : 0 < n) :
    ∃ g cap, v = .slice (some ⟨g, 0, none⟩) n cap ∧ base ≤ g ∧ g < w.heap.size ∧ (∀ i, i < n → w.cell? ⟨g, i, none⟩ = some (.int .u8 (f i : Nat))) ∧ ∀ i, w.frozen? ⟨g, i, none⟩ = false := by
  have hf := h.form
  obtain ⟨_, ⟨rfl, rfl⟩ | ⟨g, cap, cur, rfl, hb, hg, hnc, hm, hsz, ht⟩⟩ := h
  · omega
  · refine ⟨g, cap, rfl, hb, (Array.getElem?_eq_some_iff.1 hg).1, fun i hi => ?_, fun i => by simp [World.frozen?, hg]⟩
    obtain ⟨A, c, e, hby⟩ := hf
    injection e with e1 e2 e3
    subst e1
    obtain ⟨b, off, e, hc⟩ := hby i hi
    injection e with e
    injection e with e1 e2
    subst e1 e2
    rw [Nat.zero_add] at hc; exact hc
theorem row_app (f p : Nat → Nat) (n m : Nat) : rowV f n ++ rowV p m = rowV (putF f n m p) (n + m) := by
  apply List.ext_getElem?
  intro j
  rw [List.getElem?_append, rowV_length]
  by_cases h1 : j < n
  · rw [if_pos h1, rowV_get _ _ _ h1, rowV_get _ _ _ (by omega)]
    unfold putF; rw [if_neg (by omega)]
  · rw [if_neg h1]
    by_cases h2 : j - n < m
    · rw [rowV_get _ _ _ h2, rowV_get _ _ _ (by omega)]
      unfold putF; rw [if_pos (by omega)]
    · rw [rowV_none _ _ _ h2, rowV_none _ _ _ (by omega)]
theorem wpList_app8 {w : World} {ops : Array Oper} {rest : List Oper} {o : Oper} {a : Act} {Q : Exit → Act → World → Prop} (hgd : o.guard = none) (s x : Operand)
    (ho : o.op = .call { callee := .builtin .append, args := #[s, x], argTypes := #[28, 28] }) (base : Nat) (v : Value) (n : Nat) (f : Nat → Nat) (hs : a.eval s = v) (hown : Own w base v n f)
    (A : Option Addr) (m c : Nat) (p : Nat → Nat) (hx : a.eval x = .slice A m c) (hb : BytesAt w A m p) (hm : 0 < m) (h63 : n + m ≤ 1000000000) (hbase : base ≤ w.heap.size)
    (h : ∀ v' w', Own w' base v' (n + m) (putF f n m p) → w.grownBy w' v.ownBlock → (v'.ownBlock = v.ownBlock ∨ v'.ownBlock = some w.heap.size) → wpList Tryd.prog ops Q rest (a.put o.dst v') w') :
    wpList Tryd.prog ops Q (o :: rest) a w := by
  have hu : Tryd.prog.underlying 28 = some (.slice 5) := by kernel_rfl
  have hi : (Tryd.prog.info? 5).map (fun i => (i.zero, i.size, i.bytes)) = some (some (.int .u8 0), 1, 1) := by kernel_rfl
  obtain ⟨i, hi, hz, h1, h2⟩ := info_parts hi
  obtain ⟨b, off, rfl, _⟩ := hb 0 hm
  have hsrc : ∀ j u, (rowV p m)[j]? = some u → w.cell? ((⟨b, off, none⟩ : Addr).add j) = some u := by
    intro j u hj
    obtain ⟨hjm, rfl⟩ := rowV_some hj
    obtain ⟨b', off', e, hc⟩ := hb j hjm
    injection e with e
    injection e with e1 e2
    subst e1 e2
    rw [← hc]
    congr 1
    unfold Addr.add
    split <;> simp_all
  refine wpList_plain hgd fun K hK => ?_
  obtain ⟨v', w', hrun, h3, h4, _, h5⟩ := run_append_own_at (P := Tryd.prog) w base 28 o.type 5 i (.int .u8 0) 1 1 hu hi hz h1 h2 rfl (by omega) v n (rowV f n) hown ⟨b, off, none⟩ m c (rowV p m) (by rw [rowV_length]; omega) hsrc (rowV_one p m) (by unfold maxLen; omega) (by omega) hbase
  unfold Oper.wp execOp
  simp only [ho, resolve, invoke, builtin, Sem.run_bind, Sem.run_pure, Result.andThen_ok, List.map_toArray, List.map_cons, List.map_nil, hs, hx, hrun]
  rw [row_app] at h3
  exact hK _ _ (h v' w' h3 h4 h5)
end Go.Proofs.YtpbjfjedgcabhaaDoor
