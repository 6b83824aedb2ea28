/-
  The walks of the laws of layer 9 that a seat comes into.
-/
import Derived.Test.YtfiahkjaeeoepaaDoorLC
namespace Go.Proofs.YtfiahkjaeeoepaaDoor
open Go.ChangeShapes Go.WideShapes Go.ChangeAt Go.RowKit
set_option maxRecDepth 100000
set_option linter.unusedVariables false

theorem near_bounds (S : SV) : (nearV S).st < 3 ∧ (nearV S).pd < 256 ∧ (nearV S).ma < 256 := ⟨Nat.mod_lt _ (by omega), Nat.mod_lt _ (by omega), Nat.mod_lt _ (by omega)⟩
/-- Two seats of a law's own. -/
structure Ow2 (w w' : World) (B C : Nat) (s t : SV) : Prop where
  a : Ow w w' B s
  b : Ow w w' C t
  ne : B ≠ C
theorem Ow.kept {w w1 w2 : World} {B C : Nat} {s : SV} (h : Ow w w1 B s) (hg : w1.grownBy w2 (some C)) (hn : B ≠ C) (hc : w.heap.size ≤ C) : Ow w w2 B s :=
  ⟨h.ls.kept hg (by simpa using hn), h.lb, h.bel.grown hg h.bel.size (fun j hj => by injection hj with hj; omega)⟩
theorem Ow2.turnA {w w1 w2 : World} {B C : Nat} {s t s' : SV} (h : Ow2 w w1 B C s t) (k : Sn w1 w2 B s') : Ow2 w w2 B C s' t := ⟨h.a.turn k, h.b.kept k.gr (fun e => h.ne e.symm) h.a.lb, h.ne⟩
theorem Ow2.turnB {w w1 w2 : World} {B C : Nat} {s t t' : SV} (h : Ow2 w w1 B C s t) (k : Sn w1 w2 C t') : Ow2 w w2 B C s t' := ⟨h.a.kept k.gr h.ne h.b.lb, h.b.turn k, h.ne⟩
theorem Ow2.below {w w1 w2 : World} {B C : Nat} {s t : SV} (h : Ow2 w w1 B C s t) (hb : Below w1.heap.size w1 w2) : Ow2 w w2 B C s t := ⟨h.a.below hb, h.b.below hb, h.ne⟩
theorem Ow2.drawn {w w1 : World} {B C : Nat} {s t : SV} (h : Ow2 w w1 B C s t) (n : Nat) : Ow2 w (w1.drewN n) B C s t := ⟨h.a.drawn n, h.b.drawn n, h.ne⟩
/-- Behind 's = near(s); was := s'. -/
theorem ow2_start {w w1 : World} {S T : SV} (b1 : Below (w.alloc (.cells S.cells 26)).heap.size (w.alloc (.cells S.cells 26)) w1) :
    Ow2 w (((w1.setRow w.heap.size T.cells).alloc (.cells SV.zero.cells 26)).setRow w1.heap.size T.cells) w.heap.size w1.heap.size T T := by
  have hs := b1.size
  rw [World.size_alloc] at hs
  have h1 : LS w1 w.heap.size S := (ls_new w S).below b1
  have o1 : Ow w w1 w.heap.size S := ⟨h1, Nat.le_refl _, below_up (below_new w _) b1⟩
  have o2 : Ow w (w1.setRow w.heap.size T.cells) w.heap.size T := o1.turn ⟨h1.put T, grown_setRowS _ _ _⟩
  have hz : (w1.setRow w.heap.size T.cells).heap.size = w1.heap.size := by simp [World.setRow]
  have o3 := ow_new o2.bel T
  rw [hz] at o3
  have o4 := (o2.below (below_new _ (.cells SV.zero.cells 26))).kept (grown_setRowS _ w1.heap.size T.cells) (by omega) o3.lb
  exact ⟨o4, o3, by omega⟩
theorem ls_zero1 (w1 : World) (B : Nat) (cs : Array Value) : LS ((w1.setRow B cs).alloc (.cells SV.zero.cells 26)) w1.heap.size SV.zero := by
  have h := ls_new (w1.setRow B cs) SV.zero
  rwa [show (w1.setRow B cs).heap.size = w1.heap.size by simp [World.setRow]] at h
set_option maxHeartbeats 1000000 in
theorem lineWakes_core (S : SV) (w : World) (hT : TW w) : Calls Tryd.prog 5 #[S.agg] w fun e w' => e = .returned (.bool true) ∧ Below w.heap.size w w' := by
  have HZ := zeroS_run
  have HT := Lib.hid hT
  have HN := Lib.hid (near_in S)
  have HL := Lib.hid (ls_new w S)
  obtain ⟨n1, n2, n3⟩ := near_bounds S
  have HW := Lib.hid (fun U B (h : LS U B (nearV S)) => wake_in h (by omega) (by omega))
  clear hT
  generalize nearV S = T at *
  have HSS := Lib.hid (fun w1 b1 => @ow2_start w w1 S T b1)
  unfold SV.agg at *
  go_enter Tryd.func5, Tryd.ntmps5
  go_wp2_with (refine wpList_ldS rfl (.tmp 1) rfl w.heap.size rfl S HL.out ?_; unfold SV.agg)
  refine (HN.out _).mono ?_
  rintro e w1 ⟨rfl, b1⟩
  have O1 := Lib.hid (HSS.out w1 b1)
  have L1 := Lib.hid ((HL.out).below b1)
  clear b1 HSS HN HL
  go_wp2_with (first
    | (refine wpList_stS rfl (.tmp 1) (.tmp 5) rfl w.heap.size rfl S T rfl L1.out ?_)
    | (refine wpList_ldS rfl (.tmp 1) rfl w.heap.size rfl T (LS.put L1.out T) ?_; unfold SV.agg)
    | (refine wpList_stS rfl (.tmp 3) (.tmp 6) rfl w1.heap.size rfl SV.zero T rfl (ls_zero1 w1 _ _) ?_))
  refine (HW.out _ _ (O1.out).a.ls).mono ?_
  rintro e w2 ⟨rfl, h2⟩
  have o2 := (O1.out).turnA h2
  have O2 := Lib.hid o2
  clear h2 O1 HW L1
  have c1 := o2.b.ls.st'
  have c2 := o2.b.ls.pd'
  have c3 := o2.b.ls.ma'
  have cf := o2.b.ls.fz 23
  have e1 := and32 T.pd T.ma (by omega) (by omega)
  have HAW := Lib.hid (fun U (h : TabAt U) => awake9_in U h)
  clear o2 n2 n3
  generalize w1.heap.size = C at *
  by_cases hs : T.st = 1
  · by_cases hc : coN T = 0
    · have hv : wakeV T = T := by unfold wakeV wakeB; rw [if_neg (by simp [hc])]
      rw [hv] at O2
      have z : (bits .and .u32 (T.pd : Int) (T.ma : Int) != 0) = false := by rw [e1]; have : ((coN T : Nat) : Int) = 0 := by omega
                                                                             simp [coN] at this ⊢; exact this
      rw [hs] at c1
      clear e1 hs hc hv
      go_wp2_with fail
      refine (HAW.out _ ((O2.out).a.tab HT.out)).mono ?_
      rintro e w3 ⟨rfl, b3⟩
      have O3 := Lib.hid ((O2.out).below b3)
      clear b3 O2 c1 c2 c3 z cf
      go_wp2_with (first
        | (refine wpList_ldS rfl (.tmp 1) rfl w.heap.size rfl T (O3.out).a.ls ?_)
        | (refine wpList_ldS rfl (.tmp 3) rfl C rfl T (O3.out).b.ls ?_)
        | (refine wpList_eqS rfl (.tmp 22) (.tmp 23) rfl T rfl rfl ?_))
      go_ret
      exact ⟨rfl, (O3.out).a.bel⟩
    · have hv : wakeV T = { T with st := 0 } := by unfold wakeV wakeB; rw [if_pos (by simp [hc, hs])]
      rw [hv] at O2
      have z : (bits .and .u32 (T.pd : Int) (T.ma : Int) != 0) = true := by rw [e1]; have : ((coN T : Nat) : Int) ≠ 0 := by omega
                                                                            simp [coN] at this ⊢; exact this
      rw [hs] at c1
      have O3 : Hid (Ow2 w (w2.setCell ⟨C, 23, none⟩ (.int .u8 0)) w.heap.size C { T with st := 0 } { T with st := 0 }) := Lib.hid ((O2.out).turnB ⟨(O2.out).b.ls.setSt 0, grown_setCellS _ ⟨C, 23, none⟩ _⟩)
      clear e1 hs hc hv O2
      generalize ({ T with st := 0 } : SV) = T' at *
      go_wp2_with fail
      refine (HAW.out _ ((O3.out).a.tab HT.out)).mono ?_
      rintro e w3 ⟨rfl, b3⟩
      have O4 := Lib.hid ((O3.out).below b3)
      clear b3 O3 c1 c2 c3 z cf
      go_wp2_with (first
        | (refine wpList_ldS rfl (.tmp 1) rfl w.heap.size rfl T' (O4.out).a.ls ?_)
        | (refine wpList_ldS rfl (.tmp 3) rfl C rfl T' (O4.out).b.ls ?_)
        | (refine wpList_eqS rfl (.tmp 22) (.tmp 23) rfl T' rfl rfl ?_))
      go_ret
      exact ⟨rfl, (O4.out).a.bel⟩
  · have hv : wakeV T = T := by unfold wakeV wakeB; rw [if_neg (by simp [hs])]
    rw [hv] at O2
    have z : ((T.st : Int) == 1) = false := by simp; omega
    clear e1 hs hv
    go_wp2_with fail
    refine (HAW.out _ ((O2.out).a.tab HT.out)).mono ?_
    rintro e w3 ⟨rfl, b3⟩
    have O3 := Lib.hid ((O2.out).below b3)
    clear b3 O2 c1 c2 c3 z cf
    go_wp2_with (first
      | (refine wpList_ldS rfl (.tmp 1) rfl w.heap.size rfl T (O3.out).a.ls ?_)
      | (refine wpList_ldS rfl (.tmp 3) rfl C rfl T (O3.out).b.ls ?_)
      | (refine wpList_eqS rfl (.tmp 22) (.tmp 23) rfl T rfl rfl ?_))
    go_ret
    exact ⟨rfl, (O3.out).a.bel⟩
end Go.Proofs.YtfiahkjaeeoepaaDoor
