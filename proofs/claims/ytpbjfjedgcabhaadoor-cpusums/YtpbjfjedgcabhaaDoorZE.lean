/-
  cpu's branch, jump, wait.
-/
import Derived.Test.YtpbjfjedgcabhaaDoorZD
namespace Go.Proofs.YtpbjfjedgcabhaaDoor
open Go.ChangeShapes Go.WideShapes Go.ChangeAt Go.RowKit
open WM CM
set_option maxRecDepth 100000
set_option linter.unusedVariables false

/-! ### what stands in a function that has boxed an instruction and laid its Exit -/
structure En (w W : World) (B : Nat) (s : SV) (N c a b d : Nat) (n : Int) (R : Nat) : Prop where
  sn : Sn w W B s
  op : Lies W N c a b d n
  x : X2 W R (.int .u8 0) (.int .u64 0)
  hN : w.heap.size ≤ N
  hR : w.heap.size ≤ R
  hB : B < w.heap.size
theorem En.below {w W W' : World} {B : Nat} {s : SV} {N c a b d : Nat} {n : Int} {R : Nat} (h : En w W B s N c a b d n R) (hb : Below W.heap.size W W') : En w W' B s N c a b d n R :=
  ⟨h.sn.grow hb, h.op.later hb, h.x.later hb, h.hN, h.hR, h.hB⟩
theorem En.drewN {w W : World} {B : Nat} {s : SV} {N c a b d : Nat} {n : Int} {R : Nat} (h : En w W B s N c a b d n R) (q : Nat) : En w (W.drewN q) B s N c a b d n R := h.below (below_draws (Below.refl _ _) q)
theorem Lies.kept {w w' : World} {B c a b d : Nat} {n : Int} {row : Option Nat} (h : Lies w B c a b d n) (hg : w.grownBy w' row) (hr : some B ≠ row) : Lies w' B c a b d n :=
  have hb := hg.block B h.lt hr
  ⟨(World.cell?_of_block (a := ⟨B, 0, none⟩) hb).trans h.k0, (World.cell?_of_block (a := ⟨B, 1, none⟩) hb).trans h.k1, (World.cell?_of_block (a := ⟨B, 2, none⟩) hb).trans h.k2, (World.cell?_of_block (a := ⟨B, 3, none⟩) hb).trans h.k3, (World.cell?_of_block (a := ⟨B, 4, none⟩) hb).trans h.k4,
    Nat.lt_of_lt_of_le h.lt hg.size, fun i => (World.frozen?_of_block (a := ⟨B, i, none⟩) hb).trans (h.fz i)⟩
theorem En.turn {w W W' : World} {B : Nat} {s t : SV} {N c a b d : Nat} {n : Int} {R : Nat} (h : En w W B s N c a b d n R) (k : Sn W W' B t) : En w W' B t N c a b d n R :=
  ⟨h.sn.trans k, h.op.kept k.gr (by have := h.hN; have := h.hB; intro e; injection e with e; omega), h.x.kept k.gr (by have := h.hR; have := h.hB; intro e; injection e with e; omega), h.hN, h.hR, h.hB⟩
/-- The end: the Exit is stored. -/
theorem En.out {w W : World} {B : Nat} {s : SV} {N c a b d : Nat} {n : Int} {R : Nat} (h : En w W B s N c a b d n R) (k v : Value) : Sn w ((W.setCell ⟨R, 0, none⟩ k).setCell ⟨R, 1, none⟩ v) B s := h.sn.far2 h.hB R k v h.hR
theorem en2 {w : World} {B : Nat} {s : SV} (h : LS w B s) (c a b d : Nat) (n : Int) :
    En w ((w.alloc (.cells #[.int .u8 c, .int .u8 a, .int .u8 b, .int .u8 d, .int .i16 n] 74)).alloc (.cells #[.int .u8 0, .int .u64 0] 50)) B s w.heap.size c a b d n (w.heap.size + 1) := by
  have e : (w.alloc (.cells #[.int .u8 c, .int .u8 a, .int .u8 b, .int .u8 d, .int .i16 n] 74)).heap.size = w.heap.size + 1 := by simp
  have x := x2_new (w.alloc (.cells #[.int .u8 c, .int .u8 a, .int .u8 b, .int .u8 d, .int .i16 n] 74)) (.int .u8 0) (.int .u64 0) 50
  rw [e] at x
  exact ⟨((Sn.self h).grow (below_new _ _)).grow (below_new _ _), (lies_new w c a b d n _).later (below_new _ _), x, Nat.le_refl _, Nat.le_succ _, h.lt⟩

theorem ld64 {w : World} {p : Addr} {v : Int} (h : w.cell? p = some (.int .u64 v)) : (loadVar 22 p).run Tryd.prog w = .ok (.int .u64 v) w := by simp [go_sem, h]
theorem st64 {w : World} {p : Addr} {u : Value} {v : Int} (h : w.cell? p = some u) (hf : w.frozen? p = false) : (storeVar 22 p (.int .u64 v)).run Tryd.prog w = .ok () (w.setCell p (.int .u64 v)) := by simp [go_sem, h, hf]

/-! ### goes, branch -/
def goesB (c x y : Nat) : Bool := if c = 14 then decide (x = y) else if c = 15 then decide (x ≠ y) else decide (wrap64 (x : Int) < wrap64 (y : Int))
theorem goes_in (c x y : Nat) (hx : x < 18446744073709551616) (hy : y < 18446744073709551616) (hc : c = 14 ∨ c = 15 ∨ c = 16) (w : World) :
    Calls Tryd.prog 66 #[.int .u8 c, .int .u64 x, .int .u64 y] w fun e w' => e = .returned (.bool (goesB c x y)) ∧ w = w' := by
  rcases hc with rfl | rfl | rfl
  · have HV : Hid (((x : Int) == y) = goesB 14 x y) := Lib.hid (by unfold goesB; rw [if_pos rfl, Bool.eq_iff_iff]; simp; omega)
    generalize goesB 14 x y = r at *
    go_enter Tryd.func66, Tryd.ntmps66
    go_wp2
    go_ret
    exact ⟨by rw [← HV.out]; rfl, rfl⟩
  · have HV : Hid (((x : Int) != y) = goesB 15 x y) := Lib.hid (by unfold goesB; rw [if_neg (by decide), if_pos rfl, Bool.eq_iff_iff]; simp; omega)
    generalize goesB 15 x y = r at *
    go_enter Tryd.func66, Tryd.ntmps66
    go_wp2
    go_ret
    exact ⟨by rw [← HV.out]; rfl, rfl⟩
  · have HV : Hid (decide (wrap64 (x : Int) < wrap64 (y : Int)) = goesB 16 x y) := Lib.hid (by unfold goesB; rw [if_neg (by decide), if_neg (by decide)])
    generalize goesB 16 x y = r at *
    clear hx hy
    go_enter Tryd.func66, Tryd.ntmps66
    go_wp2
    go_ret
    exact ⟨by rw [← HV.out]; rfl, rfl⟩
def brV (s : SV) (n : Int) : SV := { s with pc := (s.pc + 4 * kN n) % 18446744073709551616 }
def branchV (s : SV) (c a b : Nat) (n : Int) : SV := if goesB c (s.r a) (s.r b) then brV s n else nextV s
set_option maxHeartbeats 1000000 in
theorem branch_in {w : World} {B : Nat} {s : SV} (h : LS w B s) (hs : s.ok) (c a b d : Nat) (n : Int) (ha : a < 16) (hb : b < 16) (hc : c = 14 ∨ c = 15 ∨ c = 16) :
    Calls Tryd.prog 40 #[.pointer (some ⟨B, 0, none⟩), opV c a b d n] w fun e w' => e = .returned (exV 0 0) ∧ Sn w w' B (branchV s c a b n) := by
  have E := en2 h c a b d n
  have HG := Lib.hid (fun U => goes_in c (s.r a) (s.r b) (hs.r a ha) (hs.r b hb) hc U)
  have HN := Lib.hid (cnumber_in c a b d n)
  have g1 : (b : Int) < 16 := by omega
  have g0 : (a : Int) < 16 := by omega
  have hlt := h.lt
  unfold opV branchV exV at *
  generalize goesB c (s.r a) (s.r b) = g at *
  clear h hc
  go_enter Tryd.func40, Tryd.ntmps40
  go_wp2_with fail
  generalize (w.alloc (.cells #[.int .u8 c, .int .u8 a, .int .u8 b, .int .u8 d, .int .i16 n] 74)).alloc (.cells #[.int .u8 0, .int .u64 0] 50) = W at *
  have EL := fun t => E.below (below_later W t)
  have p0 := fun t => (EL t).op.k0
  have p1 := fun t => (EL t).op.k1
  have p2 := fun t => (EL t).op.k2
  have p3 := fun t => (EL t).op.k3
  have p4 := fun t => (EL t).op.k4
  have r1 := fun t => (EL t).sn.ls.reg a ha
  have r2 := fun t => (EL t).sn.ls.reg b hb
  have HE := Lib.hid EL
  clear EL E
  refine wp_region_later (by kernel_rfl) (by kernel_rfl) ?_
  repeat (go_big_quiet_step (first | (go_at_call 66; exact later_same (HG.out _))))
  refine wpQuiet_nil ?_
  rintro _ ⟨t, rfl⟩
  have E1 := (HE.out) t
  clear p0 p1 p2 p3 p4 r1 r2 HE HG
  generalize later W t = W1 at *
  cases g
  · have HX := Lib.hid (next_in E1.sn.ls 0 0)
    unfold exV at HX
    have hE := Lib.hid E1
    clear E1
    go_wp2_with fail
    refine (HX.out).mono ?_
    rintro e w2 ⟨rfl, h2⟩
    have E2 := (hE.out).turn h2
    have x0 := E2.x.k0
    have x1 := E2.x.k1
    have xf := E2.x.fz
    have HO := Lib.hid E2
    clear E2 hE h2
    go_wp2
    refine retX (hr := rfl) (hp := rfl) (hx := (HO.out).x) (hR := ⟨rfl, (HO.out).out _ _⟩)
  · have hpc : Hid (IntKind.u64.wrap ((s.pc : Int) + IntKind.u64.wrap (4 * (((n % 18446744073709551616).toNat : Nat) : Int))) = (((s.pc + 4 * kN n) % 18446744073709551616 : Nat) : Int)) := Lib.hid (by unfold kN; rw [IntKind.wrap_u64, IntKind.wrap_u64]; omega)
    have EL := fun t => E1.below (below_later W1 t)
    have r1 := fun t => (EL t).sn.ls.pc'
    have f1 := fun t => (EL t).sn.ls.fz 16
    have hE := Lib.hid E1
    have hlt1 : B < W1.heap.size := E1.sn.ls.lt
    have hst : ∀ j, Lies (ZR.stW W1 ⟨B, 16, none⟩ (.int .u64 ((s.pc + 4 * kN n) % 18446744073709551616 : Nat)) j) w.heap.size c a b d n := fun j => match j with
      | 0 => E1.op
      | 1 => E1.op
      | j + 2 => (E1.turn (t := brV s n) ((Sn.self E1.sn.ls).cell 16 _ rfl)).op
    have p0 := fun j t => ((hst j).later (below_later _ t)).k0
    have p1 := fun j t => ((hst j).later (below_later _ t)).k1
    have p2 := fun j t => ((hst j).later (below_later _ t)).k2
    have p3 := fun j t => ((hst j).later (below_later _ t)).k3
    have p4 := fun j t => ((hst j).later (below_later _ t)).k4
    have HT : Hid (Sn W1 (W1.setCell ⟨B, 16, none⟩ (.int .u64 ((s.pc + 4 * kN n) % 18446744073709551616 : Nat))) B (brV s n)) := Lib.hid ((Sn.self E1.sn.ls).cell 16 _ rfl)
    clear EL E1 hst
    generalize (s.pc + 4 * kN n) % 18446744073709551616 = q at *
    generalize (n % 18446744073709551616).toNat = k at *
    go_wp2_with fail
    refine ZR.wp_region_tl (ZR.stW W1 ⟨B, 16, none⟩ (.int .u64 q)) (fun i => [3, 10].contains i) (by kernel_rfl) (by kernel_rfl) (by kernel_rfl) (by kernel_rfl) rfl ?_
    iterate 3 (refine RQ.wpT_reads rfl (fun K hK => ?_); go_simp; refine hK _ ?_; clear hK K)
    refine RQ.wpT_turns rfl rfl (.int .u64 s.pc) (ZR.turns_val _ (fun t => ZR.run_ld1 22 (.tmp 28) rfl _ _ rfl (ld64 (r1 t))) rfl) ?_
    go_simp
    iterate 1 (refine RQ.wpT_reads rfl (fun K hK => ?_); go_simp; refine hK _ ?_; clear hK K)
    refine ZR.wpT_ask rfl rfl 43 #[.agg #[.int .u8 c, .int .u8 a, .int .u8 b, .int .u8 d, .int .i16 n]] (fun w => by simp [go_sem]) _ (fun j t => HN.out _) ?_
    go_simp
    iterate 4 (refine RQ.wpT_reads rfl (fun K hK => ?_); go_simp; refine hK _ ?_; clear hK K)
    rw [hpc.out]
    refine RQ.wpT_turns rfl rfl _ (ZR.turns_store_cell 22 (.tmp 35) (.tmp 33) rfl ⟨B, 16, none⟩ (.int .u64 q) rfl rfl hlt1 (fun t => ZR.run_st1 22 (.tmp 35) (.tmp 33) rfl _ _ rfl rfl (st64 (r1 t) (f1 t))) rfl) ?_
    refine RQ.wpT_nil ?_
    intro t2
    go_simp
    have E2 : En w (later (ZR.stW W1 ⟨B, 16, none⟩ (.int .u64 q) 2) t2) B (brV s n) w.heap.size c a b d n (w.heap.size + 1) := ((hE.out).turn HT.out).below (below_later _ t2)
    have x0 := E2.x.k0
    have x1 := E2.x.k1
    have xf := E2.x.fz
    have HO := Lib.hid E2
    clear E2 hE HT p0 p1 p2 p3 p4 r1 f1
    generalize later (ZR.stW W1 ⟨B, 16, none⟩ (.int .u64 q) 2) t2 = W2 at *
    go_wp2
    refine retX (hr := rfl) (hp := rfl) (hx := (HO.out).x) (hR := ⟨rfl, (HO.out).out _ _⟩)
end Go.Proofs.YtpbjfjedgcabhaaDoor
