/-
  The walk of CpuIdle.
-/
import Derived.Test.YtpbjfjedgcabhaaDoorZO
namespace Go.Proofs.YtpbjfjedgcabhaaDoor
open Go.ChangeShapes Go.WideShapes Go.ChangeAt Go.RowKit
open WM CM
set_option maxRecDepth 100000
set_option linter.unusedVariables false

theorem run_eqX (w : World) : (binOp .eql 50 (.agg #[.int .u8 5, .int .u64 0]) (.agg #[.int .u8 5, .int .u64 0])).run Tryd.prog w = .ok (.bool true) w := by kernel_rfl
theorem ls_at {W : World} {n : Nat} (s : SV) (h : W.heap.size = n) : LS (W.alloc (.cells s.cells 26)) n s := by subst h; exact ls_new W s
set_option maxHeartbeats 2000000 in
theorem cpuIdle_core (S : SV) (time : Nat) (me : Int) (w : World) (hT : TabAt w) :
    Calls Tryd.prog 7 #[S.agg, .int .u64 time, .int .i64 me] w fun e w' => e = .returned (.bool true) ∧ Below w.heap.size w w' := by
  have HZ := zeroS_run
  have HN := Lib.hid (near_in S)
  have HL := Lib.hid (ls_new w S)
  have HO := Lib.hid (ow_box w S)
  have HA := Lib.hid (fun U (h : TabAt U) => awake12_in U h)
  have HT := Lib.hid hT
  have HS := Lib.hid (fun U => some_in 1 1 none none 0 0 0 0 (fun _ => 0) (fun _ => 0) (fun _ => by omega) (fun _ => by omega) (by omega) (by omega) U (BytesAt.none_ _ _ _) (BytesAt.none_ _ _ _))
  have HY := Lib.hid (fun U v => step_nil U v time me)
  have HQ := Lib.hid (fun U p => step_nobus U p time me)
  have HX := Lib.hid (fun U B s L (h : LS U B s) (hs : s.st ≠ 0) => step_idle2 L h hs time me)
  have hq := run_eqX
  clear hT
  generalize nearV S = T at *
  unfold SV.agg exV busV memR at *
  go_enter Tryd.func7, Tryd.ntmps7
  go_wp2_with (refine wpList_ldS rfl (.tmp 3) rfl w.heap.size rfl S HL.out ?_; unfold SV.agg)
  refine (HN.out _).mono ?_
  rintro e w1 ⟨rfl, b1⟩
  have O1 := Lib.hid ((HO.out).below b1)
  have O2 := Lib.hid ((O1.out).put T)
  have c1 := (O2.out).ls.st'
  have f1 := (O2.out).ls.fz 23
  have O3 : Hid (Ow w ((w1.setRow w.heap.size T.cells).setCell ⟨w.heap.size, 23, none⟩ (.int .u8 1)) w.heap.size { T with st := 1 }) := Lib.hid ((O2.out).turn ⟨(O2.out).ls.set 23 _ rfl, grown_setCellS _ ⟨w.heap.size, 23, none⟩ _⟩)
  have L1 := Lib.hid (O1.out).ls
  clear b1 HN HL HO
  by_cases h0 : T.st = 0
  · rw [h0] at c1
    have hYY : ∀ Y : SV, Y = { T with st := 1 } → Y.st ≠ 0 := by
      rintro _ rfl
      show (1 : Nat) ≠ 0
      decide
    have hz3 : ((w1.setRow w.heap.size T.cells).setCell ⟨w.heap.size, 23, none⟩ (.int .u8 1)).heap.size = w1.heap.size := by simp [World.setCell]
    go_wp2_with (first
      | (refine wpList_stS rfl (.tmp 3) (.tmp 14) rfl w.heap.size rfl S T rfl L1.out ?_)
      | (refine wpList_ldS rfl (.tmp 3) rfl w.heap.size rfl { T with st := 1 } (O3.out).ls ?_; unfold SV.agg)
      | (refine wpList_stS rfl (.tmp 7) (.tmp 19) rfl w1.heap.size rfl SV.zero { T with st := 1 } rfl (ls_at _ hz3) ?_))
    have OA := O3
    clear O1 O2 O3 L1 c1 f1
    generalize hYe : ({ T with st := 1 } : SV) = Y at *
    have hY := hYY Y rfl
    clear hYY hYe
    generalize (w1.setRow w.heap.size T.cells).setCell ⟨w.heap.size, 23, none⟩ (.int .u8 1) = W3 at *
    have hcw := ow_new (OA.out).bel Y
    rw [hz3] at hcw
    have hb4 : Below W3.heap.size W3 ((W3.alloc (.cells SV.zero.cells 26)).setRow w1.heap.size Y.cells) := (below_new W3 _).grown (grown_setRowS _ _ _) (by simp) (fun j hj => by injection hj with hj; omega)
    have OB := Lib.hid ((OA.out).below hb4)
    have OC := Lib.hid hcw
    clear hcw
    generalize (W3.alloc (.cells SV.zero.cells 26)).setRow w1.heap.size Y.cells = W4 at *
    clear hz3
    generalize w1.heap.size = C at *
    refine (HS.out _).mono ?_
    rintro e w5 ⟨La, Lb, rfl, hI⟩
    have OB5 := Lib.hid ((OB.out).below hI.bel)
    have OC5 := Lib.hid ((OC.out).below hI.bel)
    clear hI hb4 OB OC
    go_wp2_with fail
    refine (HX.out _ _ _ La (OB5.out).ls hY).mono ?_
    rintro e w6 ⟨rfl, b6⟩
    have hb6 := b6.alloc b6.size (.cells #[.int .u8 5, .int .u64 0] 50)
    have OB6 := Lib.hid ((OB5.out).below hb6)
    have OC6 := Lib.hid ((OC5.out).below hb6)
    have X6 := Lib.hid (x2_new w6 (.int .u8 5) (.int .u64 0) 50)
    clear b6 hb6 OB5 OC5
    go_wp2_with fail
    generalize w6.alloc (.cells #[.int .u8 5, .int .u64 0] 50) = W6 at *
    generalize w6.heap.size = N6 at *
    refine (HY.out _ _).mono ?_
    rintro e w7 ⟨rfl, b7⟩
    have hb7 := b7.alloc b7.size (.cells #[.int .u8 5, .int .u64 0] 50)
    have OB7 := Lib.hid (((OB6.out).below hb7).below (below_new _ (.cells SV.zero.cells 26)))
    have OC7 := Lib.hid (((OC6.out).below hb7).below (below_new _ (.cells SV.zero.cells 26)))
    have X67 := Lib.hid (((X6.out).later hb7).later (below_new _ (.cells SV.zero.cells 26)))
    have X7 := Lib.hid ((x2_new w7 (.int .u8 5) (.int .u64 0) 50).later (below_new _ (.cells SV.zero.cells 26)))
    clear b7 hb7 OB6 OC6 X6
    go_wp2_with (refine wpList_bd0 rfl rfl ?_; unfold SV.agg)
    generalize (w7.alloc (.cells #[.int .u8 5, .int .u64 0] 50)).alloc (.cells SV.zero.cells 26) = W7 at *
    refine (HQ.out _ _).mono ?_
    rintro e w8 ⟨rfl, b8⟩
    have hb8 := b8.alloc b8.size (.cells #[.int .u8 5, .int .u64 0] 50)
    have OB8 := Lib.hid ((OB7.out).below hb8)
    have OC8 := Lib.hid ((OC7.out).below hb8)
    have X68 := Lib.hid ((X67.out).later hb8)
    have X78 := Lib.hid ((X7.out).later hb8)
    have X8 := Lib.hid (x2_new w8 (.int .u8 5) (.int .u64 0) 50)
    clear b8 hb8 OB7 OC7 X67 X7
    go_wp2_with fail
    generalize w8.alloc (.cells #[.int .u8 5, .int .u64 0] 50) = W8 at *
    generalize w8.heap.size = N8 at *
    refine (HA.out _ ((HT.out).below (OB8.out).bel)).mono ?_
    rintro e w9 ⟨rfl, b9⟩
    have OB9 := Lib.hid ((OB8.out).below b9)
    have OC9 := Lib.hid ((OC8.out).below b9)
    have a0 := ((X68.out).later b9).k0
    have a1 := ((X68.out).later b9).k1
    have a2 := ((X78.out).later b9).k0
    have a3 := ((X78.out).later b9).k1
    have a4 := ((X8.out).later b9).k0
    have a5 := ((X8.out).later b9).k1
    clear b9 OB8 OC8 X68 X78 X8
    go_wp2_with (first
      | (refine wpList_ldS rfl (.tmp 3) rfl w.heap.size rfl Y (OB9.out).ls ?_; unfold SV.agg)
      | (refine wpList_ldS rfl (.tmp 7) rfl C rfl Y (OC9.out).ls ?_; unfold SV.agg)
      | (refine wpList_eqS rfl (.tmp 43) (.tmp 44) rfl Y rfl rfl ?_))
    go_ret
    exact ⟨rfl, (OB9.out).bel⟩
  · have z : ((T.st : Int) == 0) = false := by simp; omega
    have hY : T.st ≠ 0 := h0
    have hz3 : (w1.setRow w.heap.size T.cells).heap.size = w1.heap.size := by simp
    go_wp2_with (first
      | (refine wpList_stS rfl (.tmp 3) (.tmp 14) rfl w.heap.size rfl S T rfl L1.out ?_)
      | (refine wpList_ldS rfl (.tmp 3) rfl w.heap.size rfl T (O2.out).ls ?_; unfold SV.agg)
      | (refine wpList_stS rfl (.tmp 7) (.tmp 19) rfl w1.heap.size rfl SV.zero T rfl (ls_at _ hz3) ?_))
    have OA := O2
    clear O1 O2 O3 L1 c1 f1 z h0
    generalize T = Y at *
    generalize w1.setRow w.heap.size Y.cells = W3 at *
    have hcw := ow_new (OA.out).bel Y
    rw [hz3] at hcw
    have hb4 : Below W3.heap.size W3 ((W3.alloc (.cells SV.zero.cells 26)).setRow w1.heap.size Y.cells) := (below_new W3 _).grown (grown_setRowS _ _ _) (by simp) (fun j hj => by injection hj with hj; omega)
    have OB := Lib.hid ((OA.out).below hb4)
    have OC := Lib.hid hcw
    clear hcw
    generalize (W3.alloc (.cells SV.zero.cells 26)).setRow w1.heap.size Y.cells = W4 at *
    clear hz3
    generalize w1.heap.size = C at *
    refine (HS.out _).mono ?_
    rintro e w5 ⟨La, Lb, rfl, hI⟩
    have OB5 := Lib.hid ((OB.out).below hI.bel)
    have OC5 := Lib.hid ((OC.out).below hI.bel)
    clear hI hb4 OB OC
    go_wp2_with fail
    refine (HX.out _ _ _ La (OB5.out).ls hY).mono ?_
    rintro e w6 ⟨rfl, b6⟩
    have hb6 := b6.alloc b6.size (.cells #[.int .u8 5, .int .u64 0] 50)
    have OB6 := Lib.hid ((OB5.out).below hb6)
    have OC6 := Lib.hid ((OC5.out).below hb6)
    have X6 := Lib.hid (x2_new w6 (.int .u8 5) (.int .u64 0) 50)
    clear b6 hb6 OB5 OC5
    go_wp2_with fail
    generalize w6.alloc (.cells #[.int .u8 5, .int .u64 0] 50) = W6 at *
    generalize w6.heap.size = N6 at *
    refine (HY.out _ _).mono ?_
    rintro e w7 ⟨rfl, b7⟩
    have hb7 := b7.alloc b7.size (.cells #[.int .u8 5, .int .u64 0] 50)
    have OB7 := Lib.hid (((OB6.out).below hb7).below (below_new _ (.cells SV.zero.cells 26)))
    have OC7 := Lib.hid (((OC6.out).below hb7).below (below_new _ (.cells SV.zero.cells 26)))
    have X67 := Lib.hid (((X6.out).later hb7).later (below_new _ (.cells SV.zero.cells 26)))
    have X7 := Lib.hid ((x2_new w7 (.int .u8 5) (.int .u64 0) 50).later (below_new _ (.cells SV.zero.cells 26)))
    clear b7 hb7 OB6 OC6 X6
    go_wp2_with (refine wpList_bd0 rfl rfl ?_; unfold SV.agg)
    generalize (w7.alloc (.cells #[.int .u8 5, .int .u64 0] 50)).alloc (.cells SV.zero.cells 26) = W7 at *
    refine (HQ.out _ _).mono ?_
    rintro e w8 ⟨rfl, b8⟩
    have hb8 := b8.alloc b8.size (.cells #[.int .u8 5, .int .u64 0] 50)
    have OB8 := Lib.hid ((OB7.out).below hb8)
    have OC8 := Lib.hid ((OC7.out).below hb8)
    have X68 := Lib.hid ((X67.out).later hb8)
    have X78 := Lib.hid ((X7.out).later hb8)
    have X8 := Lib.hid (x2_new w8 (.int .u8 5) (.int .u64 0) 50)
    clear b8 hb8 OB7 OC7 X67 X7
    go_wp2_with fail
    generalize w8.alloc (.cells #[.int .u8 5, .int .u64 0] 50) = W8 at *
    generalize w8.heap.size = N8 at *
    refine (HA.out _ ((HT.out).below (OB8.out).bel)).mono ?_
    rintro e w9 ⟨rfl, b9⟩
    have OB9 := Lib.hid ((OB8.out).below b9)
    have OC9 := Lib.hid ((OC8.out).below b9)
    have a0 := ((X68.out).later b9).k0
    have a1 := ((X68.out).later b9).k1
    have a2 := ((X78.out).later b9).k0
    have a3 := ((X78.out).later b9).k1
    have a4 := ((X8.out).later b9).k0
    have a5 := ((X8.out).later b9).k1
    clear b9 OB8 OC8 X68 X78 X8
    go_wp2_with (first
      | (refine wpList_ldS rfl (.tmp 3) rfl w.heap.size rfl Y (OB9.out).ls ?_; unfold SV.agg)
      | (refine wpList_ldS rfl (.tmp 7) rfl C rfl Y (OC9.out).ls ?_; unfold SV.agg)
      | (refine wpList_eqS rfl (.tmp 43) (.tmp 44) rfl Y rfl rfl ?_))
    go_ret
    exact ⟨rfl, (OB9.out).bel⟩
end Go.Proofs.YtpbjfjedgcabhaaDoor
