/-
  What stands in LeasePlays; its plain part.
-/
import Derived.Test.YthafcgppopfdkaaHJ
namespace Go.Proofs.Ythafcgppopfdkaa
open Go.ChangeShapes Go.WideShapes Go.ChangeAt Go.RowKit
set_option maxRecDepth 100000
set_option linter.unusedVariables false

/-- The book, and the list of leases: the same. -/
structure LpI (w wr : World) (B M : Nat) (b l : Nat → LsV) : Prop where
  b : OB w wr B 44 (BKA b)
  l : OB w wr M 43 (BKA l)
  ne : B < M
theorem LpI.below {w wr w' : World} {B M : Nat} {b l : Nat → LsV} (h : LpI w wr B M b l) (hb : Below wr.heap.size wr w') : LpI w w' B M b l := ⟨h.b.below hb, h.l.below hb, h.ne⟩
theorem LpI.putB {w wr : World} {B M : Nat} {b l : Nat → LsV} (h : LpI w wr B M b l) (c : Nat → LsV) : LpI w (wr.setRow B (BKA c)) B M c l :=
  ⟨h.b.put _, h.l.kept (grown_setRow _ _ _) (by have := h.ne; omega) h.b.lb, h.ne⟩
theorem LpI.putL {w wr : World} {B M : Nat} {b l : Nat → LsV} (h : LpI w wr B M b l) (n : Nat) (hn : n < 16) (v : LsV) : LpI w (Go.Proofs.Ythafcgppopfdkaa.putL wr M n v) B M b (updA l n v) :=
  ⟨h.b.keptL n v (by have := h.ne; omega) h.l.lb, h.l.putL n hn v, h.ne⟩
theorem LpI.turn {w wr w' : World} {B M C : Nat} {b l : Nat → LsV} (h : LpI w wr B M b l) (hg : wr.grownBy w' (some C)) (hc : M < C) : LpI w w' B M b l :=
  ⟨h.b.kept hg (by have := h.ne; omega) (by have := h.l.lb; omega), h.l.kept hg (by omega) (by have := h.l.lb; omega), h.ne⟩
/-- The least free one, found from above. -/
def lsfN (b : Nat → LsV) : Nat → Int
  | 0 => -1
  | k + 1 => if (b (15 - k)).on = false then ((15 - k : Nat) : Int) else lsfN b k
theorem lsfN_succ (b : Nat → LsV) (k : Nat) : lsfN b (k + 1) = if (b (15 - k)).on = false then ((15 - k : Nat) : Int) else lsfN b k := rfl
theorem lsfN_is (b : Nat → LsV) : lsfN b 16 = fstB (freeB b) 16 := by
  rcases fstB_spec (freeB b) 16 with ⟨h, g⟩ | ⟨j, hj, h, g1, g2⟩
  · rw [h]
    have key : ∀ k, k ≤ 16 → lsfN b k = -1 := by
      intro k
      induction k with
      | zero => intro _; rfl
      | succ k ih =>
        intro hk
        have := g (15 - k) (by omega)
        unfold freeB at this
        rw [lsfN_succ, if_neg (by intro e; rw [e] at this; cases this), ih (by omega)]
    exact key 16 (by omega)
  · rw [h]
    have key : ∀ k, 16 - j ≤ k → k ≤ 16 → lsfN b k = (j : Nat) := by
      intro k
      induction k with
      | zero => intro h _; omega
      | succ k ih =>
        intro h hk
        by_cases e : 15 - k = j
        · rw [lsfN_succ, e]
          unfold freeB at g1
          rw [if_pos (by simpa using g1)]
        · have := g2 (15 - k) (by omega)
          unfold freeB at this
          rw [lsfN_succ, if_neg (by intro e; rw [e] at this; cases this), ih (by omega) (by omega)]
    exact key 16 (by omega) (by omega)
theorem offB_no {b : Nat → LsV} {f p t : Int} {wr : Bool} (h : offE b f p t ≠ 0) : offB b f p t wr = b ∧ offN b f p t = 0 := by
  unfold offB offN; rw [if_neg h, if_neg h]; exact ⟨rfl, rfl⟩
theorem offB_yes {b : Nat → LsV} {f p t : Int} {wr : Bool} (h : offE b f p t = 0) : ∃ j : Nat, j < 16 ∧ fstB (freeB b) 16 = (j : Nat) ∧ offB b f p t wr = updA b j (newLs f p t wr) ∧ offN b f p t = (j : Nat) := by
  unfold offE at h
  split at h
  · omega
  · rcases fstB_spec (freeB b) 16 with ⟨hf, _⟩ | ⟨j, hj, hf, _⟩
    · rw [if_pos (by omega)] at h; omega
    · refine ⟨j, hj, hf, ?_⟩
      have e : offE b f p t = 0 := by unfold offE; rw [if_neg (by assumption), if_neg (by omega)]
      unfold offB offN
      rw [if_pos e, if_pos e, hf]
      exact ⟨rfl, rfl⟩
/-- The lease of that number, or noughts. -/
def xOf (b : Nat → LsV) (N : Int) : LsV := if 0 ≤ N ∧ N < 16 then b N.toNat else LsV.zero
theorem xOf_on (b : Nat → LsV) (N : Int) : okB b N = (xOf b N).on := by
  unfold okB xOf
  by_cases h : 0 ≤ N ∧ N < 16
  · rw [decide_eq_true h, if_pos h]; rfl
  · rw [decide_eq_false h, if_neg h]; rfl
theorem xOf_ok {b : Nat → LsV} {N : Int} (h : okB b N = true) : ∃ m : Nat, N = (m : Nat) ∧ m < 16 ∧ xOf b N = b m := by
  obtain ⟨m, rfl, hm, _⟩ := okB_yes h
  exact ⟨m, rfl, hm, by unfold xOf; rw [if_pos ⟨by omega, by omega⟩]; rfl⟩
def own (kk : Nat) (x : LsV) : Int := if kk = 6 then x.fr else x.to
def wE (kk : Nat) (x : LsV) (VM : Int) (pb : Bool) : Int :=
  if x.on = false then 2 else if own kk x ≠ VM then 7 else if kk = 5 ∧ x.at_ < 0 then 10 else if kk ≠ 5 ∧ 0 ≤ x.at_ then 8 else if kk < 5 ∧ pb = false then 1 else 0
theorem wE_lea (b : Nat → LsV) (N VM : Int) (pb : Bool) : wE 5 (xOf b N) VM pb = leaE b N VM := by
  unfold wE leaE own
  rw [← xOf_on]
  by_cases h : okB b N = false
  · rw [if_pos h, if_pos h]
  · rw [if_neg h, if_neg h]
    obtain ⟨m, rfl, hm, hx⟩ := xOf_ok (by simpa using h)
    rw [hx, Int.toNat_natCast]
    simp
theorem wE_wit (b : Nat → LsV) (N VM : Int) (pb : Bool) : wE 6 (xOf b N) VM pb = witE b N VM := by
  unfold wE witE own
  rw [← xOf_on]
  by_cases h : okB b N = false
  · rw [if_pos h, if_pos h]
  · rw [if_neg h, if_neg h]
    obtain ⟨m, rfl, hm, hx⟩ := xOf_ok (by simpa using h)
    rw [hx, Int.toNat_natCast]
    simp
theorem wE_acc (b : Nat → LsV) (N VM P : Int) (kk : Nat) (hk : kk = 3 ∨ kk = 4) : wE kk (xOf b N) VM (decide (0 ≤ P ∧ P < 32)) = accE b N VM P := by
  have k1 : ¬ kk = 6 := by omega
  have k2 : ¬ kk = 5 := by omega
  have k3 : kk < 5 := by omega
  unfold wE accE own
  rw [← xOf_on]
  by_cases h : okB b N = false
  · rw [if_pos h, if_pos h]
  · rw [if_neg h, if_neg h]
    obtain ⟨m, rfl, hm, hx⟩ := xOf_ok (by simpa using h)
    rw [hx, Int.toNat_natCast]
    simp [k1, k2, k3]
theorem lea_put {b : Nat → LsV} {N VM : Int} (h : leaE b N VM = 0) : ∃ m : Nat, N = (m : Nat) ∧ m < 16 ∧ leaB b N VM = updA b m { xOf b N with at_ := -1 } := by
  cases ho : okB b N
  · unfold leaE at h; rw [if_pos ho] at h; omega
  · obtain ⟨m, rfl, hm, hx⟩ := xOf_ok ho
    exact ⟨m, rfl, hm, by rw [leaB_at, if_pos h, hx]⟩
theorem lea_no {b : Nat → LsV} {N VM : Int} (h : leaE b N VM ≠ 0) : leaB b N VM = b := by unfold leaB; rw [if_neg h]
theorem wit_put {b : Nat → LsV} {N VM : Int} (h : witE b N VM = 0) : ∃ m : Nat, N = (m : Nat) ∧ m < 16 ∧ witB b N VM = updA b m LsV.zero := by
  cases ho : okB b N
  · unfold witE at h; rw [if_pos ho] at h; omega
  · obtain ⟨m, rfl, hm, hx⟩ := xOf_ok ho
    exact ⟨m, rfl, hm, by rw [witB_at, if_pos h]⟩
theorem wit_no {b : Nat → LsV} {N VM : Int} (h : witE b N VM ≠ 0) : witB b N VM = b := by unfold witB; rw [if_neg h]
theorem acc_put {b : Nat → LsV} {N VM P : Int} (h : accE b N VM P = 0) : ∃ m : Nat, N = (m : Nat) ∧ m < 16 ∧ accB b N VM P = updA b m { xOf b N with at_ := P } := by
  cases ho : okB b N
  · unfold accE at h; rw [if_pos ho] at h; omega
  · obtain ⟨m, rfl, hm, hx⟩ := xOf_ok ho
    exact ⟨m, rfl, hm, by rw [accB_at, if_pos h, hx]⟩
theorem acc_no {b : Nat → LsV} {N VM P : Int} (h : accE b N VM P ≠ 0) : accB b N VM P = b := by unfold accB; rw [if_neg h]
/-- An act, copied. -/
def acF (K : Nat) (N VM P To : Int) (W : Bool) : Array Value := #[.int .u8 K, .int .i64 N, .int .i64 VM, .int .i64 P, .int .i64 To, .bool W]
structure AcI (w wr : World) (X : Nat) (K : Nat) (N VM P To : Int) (W : Bool) : Prop where
  o : OB w wr X 46 (acF K N VM P To W)
theorem AcI.below {w wr w' : World} {X K : Nat} {N VM P To : Int} {W : Bool} (h : AcI w wr X K N VM P To W) (hb : Below wr.heap.size wr w') : AcI w w' X K N VM P To W := ⟨h.o.below hb⟩
theorem AcI.kept {w wr w' : World} {X K C : Nat} {N VM P To : Int} {W : Bool} (h : AcI w wr X K N VM P To W) (hg : wr.grownBy w' (some C)) (hn : X ≠ C) (hc : w.heap.size ≤ C) : AcI w w' X K N VM P To W := ⟨h.o.kept hg hn hc⟩
theorem AcI.cells {w wr : World} {X K : Nat} {N VM P To : Int} {W : Bool} (h : AcI w wr X K N VM P To W) : wr.cell? ⟨X, 0, none⟩ = some (.int .u8 K) ∧ wr.cell? ⟨X, 1, none⟩ = some (.int .i64 N) ∧ wr.cell? ⟨X, 2, none⟩ = some (.int .i64 VM) ∧ wr.cell? ⟨X, 3, none⟩ = some (.int .i64 P) ∧ wr.cell? ⟨X, 4, none⟩ = some (.int .i64 To) ∧ wr.cell? ⟨X, 5, none⟩ = some (.bool W) :=
  ⟨h.o.bl.cell 0, h.o.bl.cell 1, h.o.bl.cell 2, h.o.bl.cell 3, h.o.bl.cell 4, h.o.bl.cell 5⟩
/-- What stands beside a lease of the law's own. -/
structure SxI (w wr : World) (B M X Y : Nat) (b : Nat → LsV) (K : Nat) (N VM P To : Int) (W : Bool) (v : LsV) : Prop where
  l : LpI w wr B M b b
  a : AcI w wr X K N VM P To W
  y : OB w wr Y 42 v.cells
  lt : M < X ∧ X < Y
theorem SxI.below {w wr w' : World} {B M X Y : Nat} {b : Nat → LsV} {K : Nat} {N VM P To : Int} {W : Bool} {v : LsV} (h : SxI w wr B M X Y b K N VM P To W v) (hb : Below wr.heap.size wr w') : SxI w w' B M X Y b K N VM P To W v := ⟨h.l.below hb, h.a.below hb, h.y.below hb, h.lt⟩
theorem SxI.turn {w wr w' : World} {B M X Y C : Nat} {b : Nat → LsV} {K : Nat} {N VM P To : Int} {W : Bool} {v : LsV} (h : SxI w wr B M X Y b K N VM P To W v) (hg : wr.grownBy w' (some C)) (hc : Y < C) : SxI w w' B M X Y b K N VM P To W v :=
  ⟨h.l.turn hg (by have := h.lt; omega), h.a.kept hg (by have := h.lt; omega) (by have := h.y.lb; omega), h.y.kept hg (by omega) (by have := h.y.lb; omega), h.lt⟩
theorem SxI.putY {w wr : World} {B M X Y : Nat} {b : Nat → LsV} {K : Nat} {N VM P To : Int} {W : Bool} {v : LsV} (h : SxI w wr B M X Y b K N VM P To W v) (u : LsV) : SxI w (wr.setRow Y u.cells) B M X Y b K N VM P To W u :=
  ⟨h.l.turn (grown_setRow _ _ _) (by have := h.lt; omega), h.a.kept (grown_setRow _ _ _) (by have := h.lt; omega) h.y.lb, h.y.put _, h.lt⟩
theorem SxI.putAt {w wr : World} {B M X Y : Nat} {b : Nat → LsV} {K : Nat} {N VM P To : Int} {W : Bool} {v : LsV} (h : SxI w wr B M X Y b K N VM P To W v) (z : Int) : SxI w (wr.setCell ⟨Y, 5, none⟩ (.int .i64 z)) B M X Y b K N VM P To W { v with at_ := z } :=
  ⟨h.l.turn (grown_setCell _ _ _) (by have := h.lt; dsimp only; omega), h.a.kept (grown_setCell _ _ _) (by have := h.lt; dsimp only; omega) h.y.lb, h.y.set 5 _ rfl, h.lt⟩
theorem SxI.ycells {w wr : World} {B M X Y : Nat} {b : Nat → LsV} {K : Nat} {N VM P To : Int} {W : Bool} {v : LsV} (h : SxI w wr B M X Y b K N VM P To W v) : wr.cell? ⟨Y, 0, none⟩ = some (.bool v.on) ∧ wr.cell? ⟨Y, 1, none⟩ = some (.int .i64 v.fr) ∧ wr.cell? ⟨Y, 3, none⟩ = some (.int .i64 v.to) ∧ wr.cell? ⟨Y, 5, none⟩ = some (.int .i64 v.at_) :=
  ⟨h.y.bl.cell 0, h.y.bl.cell 1, h.y.bl.cell 3, h.y.bl.cell 5⟩
theorem sxI_new {w wr : World} {B M X : Nat} {b : Nat → LsV} {K : Nat} {N VM P To : Int} {W : Bool} (hl : LpI w wr B M b b) (ha : AcI w wr X K N VM P To W) (hMX : M < X) :
    SxI w ((wr.alloc (.cells LsV.zero.cells 42)).setRow wr.heap.size LsV.zero.cells) B M X wr.heap.size b K N VM P To W LsV.zero :=
  ⟨hl.below (lay_below _ _ _ _), ha.below (lay_below _ _ _ _), ob_lay hl.b.bel _ _ _, hMX, ha.o.bl.lt⟩
theorem wpList_ldE {ops : Array Oper} {rest : List Oper} {o : Oper} {a : Act} {w : World} {Q : Exit → Act → World → Prop} (hw : Region.wanted o (yielded ops a.tmps) = true) (x : Operand) (ho : o.op = .load 42 x) (B n : Nat) (hx : a.eval x = .pointer (some ⟨B, n * 6, none⟩)) (v : LsV) (hL : Row6 w B n v)
    (h : wpList Try.prog ops Q rest (a.put o.dst (.agg v.cells)) w) : wpList Try.prog ops Q (o :: rest) a w :=
  wpList_step fun _ hK => by
    rw [if_pos hw]
    unfold Oper.wp execOp
    simp only [ho, hx, Instr.loadAt, Instr.sureAddr, Sem.run_bind, Sem.run_pure, Result.andThen_ok, run_ldE hL]
    exact hK _ _ h
theorem wpList_ldL6 {ops : Array Oper} {rest : List Oper} {o : Oper} {a : Act} {w : World} {Q : Exit → Act → World → Prop} (hw : Region.wanted o (yielded ops a.tmps) = true) (x : Operand) (ho : o.op = .load 42 x) (B : Nat) (hx : a.eval x = .pointer (some ⟨B, 0, none⟩)) (v : LsV) (hL : BL w B 42 v.cells)
    (h : wpList Try.prog ops Q rest (a.put o.dst (.agg #[.bool v.on, .int .i64 v.fr, .int .i64 v.pg, .int .i64 v.to, .bool v.wr, .int .i64 v.at_])) w) : wpList Try.prog ops Q (o :: rest) a w := wpList_ldL hw x ho B hx v hL h
theorem wE_2 {kk : Nat} {x : LsV} {VM : Int} {pb : Bool} (h : x.on = false) : wE kk x VM pb = 2 := by unfold wE; rw [if_pos h]
theorem wE_7 {kk : Nat} {x : LsV} {VM : Int} {pb : Bool} (h : x.on = true) (h1 : own kk x ≠ VM) : wE kk x VM pb = 7 := by unfold wE; rw [if_neg (by rw [h]; simp), if_pos h1]
theorem wE_10 {kk : Nat} {x : LsV} {VM : Int} {pb : Bool} (h : x.on = true) (h1 : own kk x = VM) (h2 : kk = 5) (h3 : x.at_ < 0) : wE kk x VM pb = 10 := by unfold wE; rw [if_neg (by rw [h]; simp), if_neg (fun e => e h1), if_pos ⟨h2, h3⟩]
theorem wE_8 {kk : Nat} {x : LsV} {VM : Int} {pb : Bool} (h : x.on = true) (h1 : own kk x = VM) (h2 : kk ≠ 5) (h3 : 0 ≤ x.at_) : wE kk x VM pb = 8 := by unfold wE; rw [if_neg (by rw [h]; simp), if_neg (fun e => e h1), if_neg (fun e => h2 e.1), if_pos ⟨h2, h3⟩]
theorem wE_rest {kk : Nat} {x : LsV} {VM : Int} {pb : Bool} (h : x.on = true) (h1 : own kk x = VM) (h2 : (kk = 5 ∧ 0 ≤ x.at_) ∨ (kk ≠ 5 ∧ x.at_ < 0)) : wE kk x VM pb = if kk < 5 ∧ pb = false then 1 else 0 := by
  unfold wE; rw [if_neg (by rw [h]; simp), if_neg (fun e => e h1), if_neg (by omega), if_neg (by omega)]
set_option maxHeartbeats 4000000 in
theorem leasePlays_long (a : Option Addr) (len cap : Nat) (hlen : 60 < len) (w : World) :
    Calls Try.prog 7 #[.slice a len cap] w fun e w' => e = .returned (.bool true) ∧ Below w.heap.size w w' := by
  have HA := Lib.hid awake14_in
  have h2 : (60 : Int) < (len : Int) := by omega
  go_enter Try.func7, Try.ntmps7
  go_wp2_with fail
  refine (HA.out _).mono ?_
  rintro e w1 ⟨rfl, b1⟩
  go_wp2_with fail
  refine (HA.out _).mono ?_
  rintro e w2 ⟨rfl, b2⟩
  go_wp2
  go_ret
  exact ⟨rfl, below_up b1 b2⟩
end Go.Proofs.Ythafcgppopfdkaa
