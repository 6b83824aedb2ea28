/-
  Contracts of package lease: Leave, Withdraw, Accept.
-/
import Derived.Test.YthafcgppopfdkaaHC
namespace Go.Proofs.Ythafcgppopfdkaa
open Go.ChangeShapes Go.WideShapes Go.ChangeAt Go.RowKit
set_option maxRecDepth 100000
set_option linter.unusedVariables false

theorem leaE_at (b : Nat → LsV) (m : Nat) (vm : Int) : leaE b m vm = if okB b m = false then 2 else if (b m).to ≠ vm then 7 else if (b m).at_ < 0 then 10 else 0 := rfl
theorem leaB_at (b : Nat → LsV) (m : Nat) (vm : Int) : leaB b m vm = if leaE b m vm = 0 then updA b m { b m with at_ := -1 } else b := rfl
theorem witE_at (b : Nat → LsV) (m : Nat) (vm : Int) : witE b m vm = if okB b m = false then 2 else if (b m).fr ≠ vm then 7 else if 0 ≤ (b m).at_ then 8 else 0 := rfl
theorem witB_at (b : Nat → LsV) (m : Nat) (vm : Int) : witB b m vm = if witE b m vm = 0 then updA b m LsV.zero else b := rfl
theorem accE_at (b : Nat → LsV) (m : Nat) (vm a : Int) : accE b m vm a = if okB b m = false then 2 else if (b m).to ≠ vm then 7 else if 0 ≤ (b m).at_ then 8 else if ¬ (0 ≤ a ∧ a < 32) then 1 else 0 := rfl
theorem accB_at (b : Nat → LsV) (m : Nat) (vm a : Int) : accB b m vm a = if accE b m vm a = 0 then updA b m { b m with at_ := a } else b := rfl
set_option maxHeartbeats 2000000 in
theorem leave_in (b : Nat → LsV) (n vm : Int) (w : World) :
    Calls Try.prog 20 #[.agg (BKA b), .int .i64 n, .int .i64 vm] w fun e w' => e = .returned (.tuple #[.agg (BKA (leaB b n vm)), .int .i64 (leaE b n vm)]) ∧ Below w.heap.size w w' := by
  have HZ := zeroB_run
  have HY := zeroL_run
  obtain ⟨v, er, he0, he1, hg⟩ := getV b n
  have HG := Lib.hid hg
  have HE0 := Lib.hid he0
  have HE1 := Lib.hid he1
  have h1 := (ob_new (Below.refl w.heap.size w) 44 (BKA b)).below (below_new _ (.cells (BKA fun _ => LsV.zero) 44))
  have h2 := ob_new (below_new w (.cells (BKA b) 44)) 44 (BKA fun _ => LsV.zero)
  rw [World.size_alloc] at h2
  have H1 := Lib.hid h1
  have H2 := Lib.hid h2
  clear he0 he1 hg h1 h2
  go_enter Try.func20, Try.ntmps20
  go_upto_region 1 with fail
  generalize (w.alloc (.cells (BKA b) 44)).alloc (.cells (BKA fun _ => LsV.zero) 44) = V at *
  go_wp2_with (refine wpList_ldB rfl (.tmp 3) rfl w.heap.size rfl 44 b (H1.out).bl ?_)
  refine (HG.out _).mono ?_
  rintro e w1 ⟨rfl, b1⟩
  have HI : Hid (GtI w ((w1.alloc (.cells LsV.zero.cells 42)).setRow w1.heap.size v.cells) w.heap.size (w.heap.size + 1) w1.heap.size b v) := Lib.hid (by
    have g1 := (H1.out).below b1
    have g2 := (H2.out).below b1
    exact ⟨g1.below (lay_below _ _ _ _), g2.below (lay_below _ _ _ _), ob_lay g1.bel _ _ _, by omega, g2.bl.lt⟩)
  have Z1 := Lib.hid (newL w1 LsV.zero)
  clear H1 H2 b1 HG
  go_upto_region 2 with (refine wpList_stL rfl (.tmp 8) (.tmp 14) rfl w1.heap.size rfl LsV.zero v rfl Z1.out ?_)
  generalize (w1.alloc (.cells LsV.zero.cells 42)).setRow w1.heap.size v.cells = V1 at *
  obtain ⟨C, hC⟩ : ∃ C, w.heap.size + 1 = C := ⟨_, rfl⟩
  obtain ⟨L, hL⟩ : ∃ L, w1.heap.size = L := ⟨_, rfl⟩
  rw [hC, hL] at HI
  rw [hC, hL]
  clear hC hL Z1
  cases ho : okB b n
  · obtain rfl := (HE0.out) ho
    have HX : Hid (leaE b n vm = 2) := Lib.hid (by unfold leaE; rw [if_pos ho])
    have HXB : Hid (leaB b n vm = b) := Lib.hid (by unfold leaB; rw [HX.out, if_neg (by decide)])
    clear HE0 HE1 ho
    have HO := Lib.hid ((HI.out).c.put (BKA (b)))
    go_wp2_with (first
      | (refine wpList_ldB rfl (.tmp 3) rfl w.heap.size rfl 44 (b) (HI.out).b.bl ?_)
      | (refine wpList_stB rfl (.tmp 6) (.tmp 19) rfl C rfl 44 (fun _ => LsV.zero) (b) rfl (HI.out).c.bl ?_))
    exact bodyPost_ret (results_arr2 rfl _ Try.underlying44 rfl (by rw [BKA_size]; exact sizeB) rfl (HO.out).bl) rfl ⟨by rw [HX.out, HXB.out]; rfl, (HO.out).bel⟩
  · obtain ⟨rfl, hv⟩ := (HE1.out) ho
    obtain ⟨m, rfl, hm, hon⟩ := okB_yes ho
    obtain rfl : v = b m := hv
    clear hon
    have c3 : V1.cell? ⟨L, 3, none⟩ = some (.int .i64 (b m).to) := (HI.out).l.bl.cell 3
    have HT := Lib.hid (taken_in (b m))
    by_cases h1 : (b m).to = vm
    · by_cases h2 : (b m).at_ < 0
      · have HX : Hid (leaE b m vm = 10) := Lib.hid (by rw [leaE_at, if_neg (by rw [ho]; simp), if_neg (fun h => h h1), if_pos h2])
        have HXB : Hid (leaB b m vm = b) := Lib.hid (by rw [leaB_at, HX.out, if_neg (by decide)])
        have z1 : ((b m).to != vm) = false := by simp [h1]
        rw [decide_eq_false (by omega)] at HT
        clear HE0 HE1 ho h1 h2
        go_wp2_with (refine wpList_ldL rfl (.tmp 8) rfl L rfl (b m) (HI.out).l.bl ?_)
        refine (HT.out _).mono ?_
        rintro e w5 ⟨rfl, b5⟩
        have HI5 := Lib.hid ((HI.out).below b5)
        clear b5 HI c3
        have HO := Lib.hid ((HI5.out).c.put (BKA (b)))
        go_wp2_with (first
          | (refine wpList_ldB rfl (.tmp 3) rfl w.heap.size rfl 44 (b) (HI5.out).b.bl ?_)
          | (refine wpList_stB rfl (.tmp 6) (.tmp 31) rfl C rfl 44 (fun _ => LsV.zero) (b) rfl (HI5.out).c.bl ?_))
        exact bodyPost_ret (results_arr2 rfl _ Try.underlying44 rfl (by rw [BKA_size]; exact sizeB) rfl (HO.out).bl) rfl ⟨by rw [HX.out, HXB.out]; rfl, (HO.out).bel⟩
      · have HX : Hid (leaE b m vm = 0) := Lib.hid (by rw [leaE_at, if_neg (by rw [ho]; simp), if_neg (fun h => h h1), if_neg h2])
        have HXB : Hid (leaB b m vm = updA b m { b m with at_ := -1 }) := Lib.hid (by rw [leaB_at, HX.out, if_pos rfl])
        have z1 : ((b m).to != vm) = false := by simp [h1]
        rw [decide_eq_true (by omega)] at HT
        clear HE0 HE1 ho h1 h2
        go_wp2_with (refine wpList_ldL rfl (.tmp 8) rfl L rfl (b m) (HI.out).l.bl ?_)
        refine (HT.out _).mono ?_
        rintro e w5 ⟨rfl, b5⟩
        have g5 := (HI.out).below b5
        have c5 := (g5.b.bl.row6 m hm).c5
        have f5 := g5.b.bl.fz (m * 6 + 5)
        have gg := grown_setCell w5 ⟨w.heap.size, m * 6 + 5, none⟩ (.int .i64 (-1))
        have hlt := g5.lt
        have hlb := g5.b.lb
        have HI6 : Hid (GtI w (w5.setCell ⟨w.heap.size, m * 6 + 5, none⟩ (.int .i64 (-1))) w.heap.size C L (updA b m { b m with at_ := -1 }) (b m)) :=
          Lib.hid ⟨g5.b.putAt m hm (-1), g5.c.kept gg (by dsimp only; omega) hlb, g5.l.kept gg (by dsimp only; omega) hlb, hlt⟩
        have k0 : (0 : Int) ≤ (m : Int) := by omega
        have k1 : (m : Int) < 16 := by omega
        clear b5 HI c3 g5 gg hlt hlb
        have HO := Lib.hid ((HI6.out).c.put (BKA (updA b m { b m with at_ := -1 })))
        go_wp2_with (first
          | (refine wpList_ldB rfl (.tmp 3) rfl w.heap.size rfl 44 (updA b m { b m with at_ := -1 }) (HI6.out).b.bl ?_)
          | (refine wpList_stB rfl (.tmp 6) (.tmp 35) rfl C rfl 44 (fun _ => LsV.zero) (updA b m { b m with at_ := -1 }) rfl (HI6.out).c.bl ?_))
        exact bodyPost_ret (results_arr2 rfl _ Try.underlying44 rfl (by rw [BKA_size]; exact sizeB) rfl (HO.out).bl) rfl ⟨by rw [HX.out, HXB.out]; rfl, (HO.out).bel⟩
    · have HX : Hid (leaE b m vm = 7) := Lib.hid (by rw [leaE_at, if_neg (by rw [ho]; simp), if_pos h1])
      have HXB : Hid (leaB b m vm = b) := Lib.hid (by rw [leaB_at, HX.out, if_neg (by decide)])
      have z1 : ((b m).to != vm) = true := by simp [h1]
      clear HE0 HE1 ho h1
      have HO := Lib.hid ((HI.out).c.put (BKA (b)))
      go_wp2_with (first
        | (refine wpList_ldB rfl (.tmp 3) rfl w.heap.size rfl 44 (b) (HI.out).b.bl ?_)
        | (refine wpList_stB rfl (.tmp 6) (.tmp 26) rfl C rfl 44 (fun _ => LsV.zero) (b) rfl (HI.out).c.bl ?_))
      exact bodyPost_ret (results_arr2 rfl _ Try.underlying44 rfl (by rw [BKA_size]; exact sizeB) rfl (HO.out).bl) rfl ⟨by rw [HX.out, HXB.out]; rfl, (HO.out).bel⟩
set_option maxHeartbeats 2000000 in
theorem withdraw_in (b : Nat → LsV) (n vm : Int) (w : World) :
    Calls Try.prog 21 #[.agg (BKA b), .int .i64 n, .int .i64 vm] w fun e w' => e = .returned (.tuple #[.agg (BKA (witB b n vm)), .int .i64 (witE b n vm)]) ∧ Below w.heap.size w w' := by
  have HZ := zeroB_run
  have HY := zeroL_run
  obtain ⟨v, er, he0, he1, hg⟩ := getV b n
  have HG := Lib.hid hg
  have HE0 := Lib.hid he0
  have HE1 := Lib.hid he1
  have h1 := (ob_new (Below.refl w.heap.size w) 44 (BKA b)).below (below_new _ (.cells (BKA fun _ => LsV.zero) 44))
  have h2 := ob_new (below_new w (.cells (BKA b) 44)) 44 (BKA fun _ => LsV.zero)
  rw [World.size_alloc] at h2
  have H1 := Lib.hid h1
  have H2 := Lib.hid h2
  clear he0 he1 hg h1 h2
  go_enter Try.func21, Try.ntmps21
  go_upto_region 1 with fail
  generalize (w.alloc (.cells (BKA b) 44)).alloc (.cells (BKA fun _ => LsV.zero) 44) = V at *
  go_wp2_with (refine wpList_ldB rfl (.tmp 3) rfl w.heap.size rfl 44 b (H1.out).bl ?_)
  refine (HG.out _).mono ?_
  rintro e w1 ⟨rfl, b1⟩
  have HI : Hid (GtI w ((w1.alloc (.cells LsV.zero.cells 42)).setRow w1.heap.size v.cells) w.heap.size (w.heap.size + 1) w1.heap.size b v) := Lib.hid (by
    have g1 := (H1.out).below b1
    have g2 := (H2.out).below b1
    exact ⟨g1.below (lay_below _ _ _ _), g2.below (lay_below _ _ _ _), ob_lay g1.bel _ _ _, by omega, g2.bl.lt⟩)
  have Z1 := Lib.hid (newL w1 LsV.zero)
  clear H1 H2 b1 HG
  go_upto_region 2 with (refine wpList_stL rfl (.tmp 8) (.tmp 14) rfl w1.heap.size rfl LsV.zero v rfl Z1.out ?_)
  generalize (w1.alloc (.cells LsV.zero.cells 42)).setRow w1.heap.size v.cells = V1 at *
  obtain ⟨C, hC⟩ : ∃ C, w.heap.size + 1 = C := ⟨_, rfl⟩
  obtain ⟨L, hL⟩ : ∃ L, w1.heap.size = L := ⟨_, rfl⟩
  rw [hC, hL] at HI
  rw [hC, hL]
  clear hC hL Z1
  cases ho : okB b n
  · obtain rfl := (HE0.out) ho
    have HX : Hid (witE b n vm = 2) := Lib.hid (by unfold witE; rw [if_pos ho])
    have HXB : Hid (witB b n vm = b) := Lib.hid (by unfold witB; rw [HX.out, if_neg (by decide)])
    clear HE0 HE1 ho
    have HO := Lib.hid ((HI.out).c.put (BKA (b)))
    go_wp2_with (first
      | (refine wpList_ldB rfl (.tmp 3) rfl w.heap.size rfl 44 (b) (HI.out).b.bl ?_)
      | (refine wpList_stB rfl (.tmp 6) (.tmp 19) rfl C rfl 44 (fun _ => LsV.zero) (b) rfl (HI.out).c.bl ?_))
    exact bodyPost_ret (results_arr2 rfl _ Try.underlying44 rfl (by rw [BKA_size]; exact sizeB) rfl (HO.out).bl) rfl ⟨by rw [HX.out, HXB.out]; rfl, (HO.out).bel⟩
  · obtain ⟨rfl, hv⟩ := (HE1.out) ho
    obtain ⟨m, rfl, hm, hon⟩ := okB_yes ho
    obtain rfl : v = b m := hv
    clear hon
    have c1 : V1.cell? ⟨L, 1, none⟩ = some (.int .i64 (b m).fr) := (HI.out).l.bl.cell 1
    have HT := Lib.hid (taken_in (b m))
    by_cases h1 : (b m).fr = vm
    · by_cases h2 : 0 ≤ (b m).at_
      · have HX : Hid (witE b m vm = 8) := Lib.hid (by rw [witE_at, if_neg (by rw [ho]; simp), if_neg (fun h => h h1), if_pos h2])
        have HXB : Hid (witB b m vm = b) := Lib.hid (by rw [witB_at, HX.out, if_neg (by decide)])
        have z1 : ((b m).fr != vm) = false := by simp [h1]
        rw [decide_eq_true (by omega)] at HT
        clear HE0 HE1 ho h1 h2
        go_wp2_with (refine wpList_ldL rfl (.tmp 8) rfl L rfl (b m) (HI.out).l.bl ?_)
        refine (HT.out _).mono ?_
        rintro e w5 ⟨rfl, b5⟩
        have HI5 := Lib.hid ((HI.out).below b5)
        clear b5 HI c1
        have HO := Lib.hid ((HI5.out).c.put (BKA (b)))
        go_wp2_with (first
          | (refine wpList_ldB rfl (.tmp 3) rfl w.heap.size rfl 44 (b) (HI5.out).b.bl ?_)
          | (refine wpList_stB rfl (.tmp 6) (.tmp 30) rfl C rfl 44 (fun _ => LsV.zero) (b) rfl (HI5.out).c.bl ?_))
        exact bodyPost_ret (results_arr2 rfl _ Try.underlying44 rfl (by rw [BKA_size]; exact sizeB) rfl (HO.out).bl) rfl ⟨by rw [HX.out, HXB.out]; rfl, (HO.out).bel⟩
      · have HX : Hid (witE b m vm = 0) := Lib.hid (by rw [witE_at, if_neg (by rw [ho]; simp), if_neg (fun h => h h1), if_neg h2])
        have HXB : Hid (witB b m vm = updA b m LsV.zero) := Lib.hid (by rw [witB_at, HX.out, if_pos rfl])
        have z1 : ((b m).fr != vm) = false := by simp [h1]
        have HD := Lib.hid (drop_yes b m hm)
        rw [decide_eq_false (by omega)] at HT
        clear HE0 HE1 ho h1 h2
        go_wp2_with (refine wpList_ldL rfl (.tmp 8) rfl L rfl (b m) (HI.out).l.bl ?_)
        refine (HT.out _).mono ?_
        rintro e w5 ⟨rfl, b5⟩
        have HI5 := Lib.hid ((HI.out).below b5)
        clear b5 HI c1
        go_wp2_with (refine wpList_ldB rfl (.tmp 3) rfl w.heap.size rfl 44 b (HI5.out).b.bl ?_)
        refine (HD.out _).mono ?_
        rintro e w6 ⟨rfl, b6⟩
        have HI6 := Lib.hid ((HI5.out).below b6)
        have HO := Lib.hid ((HI6.out).c.put (BKA (updA b m LsV.zero)))
        clear b6 HI5
        go_wp2_with (refine wpList_stB rfl (.tmp 6) (.tmp 33) rfl C rfl 44 (fun _ => LsV.zero) (updA b m LsV.zero) rfl (HI6.out).c.bl ?_)
        exact bodyPost_ret (results_arr2 rfl _ Try.underlying44 rfl (by rw [BKA_size]; exact sizeB) rfl (HO.out).bl) rfl ⟨by rw [HX.out, HXB.out]; rfl, (HO.out).bel⟩
    · have HX : Hid (witE b m vm = 7) := Lib.hid (by rw [witE_at, if_neg (by rw [ho]; simp), if_pos h1])
      have HXB : Hid (witB b m vm = b) := Lib.hid (by rw [witB_at, HX.out, if_neg (by decide)])
      have z1 : ((b m).fr != vm) = true := by simp [h1]
      clear HE0 HE1 ho h1
      have HO := Lib.hid ((HI.out).c.put (BKA (b)))
      go_wp2_with (first
        | (refine wpList_ldB rfl (.tmp 3) rfl w.heap.size rfl 44 (b) (HI.out).b.bl ?_)
        | (refine wpList_stB rfl (.tmp 6) (.tmp 26) rfl C rfl 44 (fun _ => LsV.zero) (b) rfl (HI.out).c.bl ?_))
      exact bodyPost_ret (results_arr2 rfl _ Try.underlying44 rfl (by rw [BKA_size]; exact sizeB) rfl (HO.out).bl) rfl ⟨by rw [HX.out, HXB.out]; rfl, (HO.out).bel⟩
set_option maxHeartbeats 2000000 in
theorem accept_in (b : Nat → LsV) (n vm a : Int) (w : World) :
    Calls Try.prog 22 #[.agg (BKA b), .int .i64 n, .int .i64 vm, .int .i64 a] w fun e w' => e = .returned (.tuple #[.agg (BKA (accB b n vm a)), .int .i64 (accE b n vm a)]) ∧ Below w.heap.size w w' := by
  have HZ := zeroB_run
  have HY := zeroL_run
  obtain ⟨v, er, he0, he1, hg⟩ := getV b n
  have HG := Lib.hid hg
  have HE0 := Lib.hid he0
  have HE1 := Lib.hid he1
  have h1 := (ob_new (Below.refl w.heap.size w) 44 (BKA b)).below (below_new _ (.cells (BKA fun _ => LsV.zero) 44))
  have h2 := ob_new (below_new w (.cells (BKA b) 44)) 44 (BKA fun _ => LsV.zero)
  rw [World.size_alloc] at h2
  have H1 := Lib.hid h1
  have H2 := Lib.hid h2
  clear he0 he1 hg h1 h2
  go_enter Try.func22, Try.ntmps22
  go_upto_region 1 with fail
  generalize (w.alloc (.cells (BKA b) 44)).alloc (.cells (BKA fun _ => LsV.zero) 44) = V at *
  go_wp2_with (refine wpList_ldB rfl (.tmp 4) rfl w.heap.size rfl 44 b (H1.out).bl ?_)
  refine (HG.out _).mono ?_
  rintro e w1 ⟨rfl, b1⟩
  have HI : Hid (GtI w ((w1.alloc (.cells LsV.zero.cells 42)).setRow w1.heap.size v.cells) w.heap.size (w.heap.size + 1) w1.heap.size b v) := Lib.hid (by
    have g1 := (H1.out).below b1
    have g2 := (H2.out).below b1
    exact ⟨g1.below (lay_below _ _ _ _), g2.below (lay_below _ _ _ _), ob_lay g1.bel _ _ _, by omega, g2.bl.lt⟩)
  have Z1 := Lib.hid (newL w1 LsV.zero)
  clear H1 H2 b1 HG
  go_upto_region 2 with (refine wpList_stL rfl (.tmp 10) (.tmp 16) rfl w1.heap.size rfl LsV.zero v rfl Z1.out ?_)
  generalize (w1.alloc (.cells LsV.zero.cells 42)).setRow w1.heap.size v.cells = V1 at *
  obtain ⟨C, hC⟩ : ∃ C, w.heap.size + 1 = C := ⟨_, rfl⟩
  obtain ⟨L, hL⟩ : ∃ L, w1.heap.size = L := ⟨_, rfl⟩
  rw [hC, hL] at HI
  rw [hC, hL]
  clear hC hL Z1
  cases ho : okB b n
  · obtain rfl := (HE0.out) ho
    have HX : Hid (accE b n vm a = 2) := Lib.hid (by unfold accE; rw [if_pos ho])
    have HXB : Hid (accB b n vm a = b) := Lib.hid (by unfold accB; rw [HX.out, if_neg (by decide)])
    clear HE0 HE1 ho
    have HO := Lib.hid ((HI.out).c.put (BKA (b)))
    go_wp2_with (first
      | (refine wpList_ldB rfl (.tmp 4) rfl w.heap.size rfl 44 (b) (HI.out).b.bl ?_)
      | (refine wpList_stB rfl (.tmp 8) (.tmp 21) rfl C rfl 44 (fun _ => LsV.zero) (b) rfl (HI.out).c.bl ?_))
    exact bodyPost_ret (results_arr2 rfl _ Try.underlying44 rfl (by rw [BKA_size]; exact sizeB) rfl (HO.out).bl) rfl ⟨by rw [HX.out, HXB.out]; rfl, (HO.out).bel⟩
  · obtain ⟨rfl, hv⟩ := (HE1.out) ho
    obtain ⟨m, rfl, hm, hon⟩ := okB_yes ho
    obtain rfl : v = b m := hv
    clear hon
    have c3 : V1.cell? ⟨L, 3, none⟩ = some (.int .i64 (b m).to) := (HI.out).l.bl.cell 3
    have HT := Lib.hid (taken_in (b m))
    have HPG := Lib.hid (isPage_in a)
    by_cases h1 : (b m).to = vm
    · by_cases h2 : 0 ≤ (b m).at_
      · have HX : Hid (accE b m vm a = 8) := Lib.hid (by rw [accE_at, if_neg (by rw [ho]; simp), if_neg (fun h => h h1), if_pos h2])
        have HXB : Hid (accB b m vm a = b) := Lib.hid (by rw [accB_at, HX.out, if_neg (by decide)])
        have z1 : ((b m).to != vm) = false := by simp [h1]
        rw [decide_eq_true (by omega)] at HT
        clear HE0 HE1 ho h1 h2
        go_wp2_with (refine wpList_ldL rfl (.tmp 10) rfl L rfl (b m) (HI.out).l.bl ?_)
        refine (HT.out _).mono ?_
        rintro e w5 ⟨rfl, b5⟩
        have HI5 := Lib.hid ((HI.out).below b5)
        clear b5 HI c3
        have HO := Lib.hid ((HI5.out).c.put (BKA (b)))
        go_wp2_with (first
          | (refine wpList_ldB rfl (.tmp 4) rfl w.heap.size rfl 44 (b) (HI5.out).b.bl ?_)
          | (refine wpList_stB rfl (.tmp 8) (.tmp 32) rfl C rfl 44 (fun _ => LsV.zero) (b) rfl (HI5.out).c.bl ?_))
        exact bodyPost_ret (results_arr2 rfl _ Try.underlying44 rfl (by rw [BKA_size]; exact sizeB) rfl (HO.out).bl) rfl ⟨by rw [HX.out, HXB.out]; rfl, (HO.out).bel⟩
      · rw [decide_eq_false (by omega)] at HT
        by_cases h3 : 0 ≤ a ∧ a < 32
        · have HX : Hid (accE b m vm a = 0) := Lib.hid (by rw [accE_at, if_neg (by rw [ho]; simp), if_neg (fun h => h h1), if_neg h2, if_neg (fun h => h h3)])
          have HXB : Hid (accB b m vm a = updA b m { b m with at_ := a }) := Lib.hid (by rw [accB_at, HX.out, if_pos rfl])
          have z1 : ((b m).to != vm) = false := by simp [h1]
          rw [decide_eq_true h3] at HPG
          clear HE0 HE1 ho h1 h2 h3
          go_wp2_with (refine wpList_ldL rfl (.tmp 10) rfl L rfl (b m) (HI.out).l.bl ?_)
          refine (HT.out _).mono ?_
          rintro e w5 ⟨rfl, b5⟩
          have g5 := (HI.out).below b5
          have c5 := (g5.b.bl.row6 m hm).c5
          have f5 := g5.b.bl.fz (m * 6 + 5)
          have gg := grown_setCell w5 ⟨w.heap.size, m * 6 + 5, none⟩ (.int .i64 a)
          have hlt := g5.lt
          have hlb := g5.b.lb
          have HI6 : Hid (GtI w (w5.setCell ⟨w.heap.size, m * 6 + 5, none⟩ (.int .i64 a)) w.heap.size C L (updA b m { b m with at_ := a }) (b m)) :=
            Lib.hid ⟨g5.b.putAt m hm a, g5.c.kept gg (by dsimp only; omega) hlb, g5.l.kept gg (by dsimp only; omega) hlb, hlt⟩
          have k0 : (0 : Int) ≤ (m : Int) := by omega
          have k1 : (m : Int) < 16 := by omega
          clear b5 HI c3 g5 gg hlt hlb
          go_wp2_with fail
          refine (HPG.out _).mono ?_
          rintro e w6 ⟨rfl, rfl⟩
          have HO := Lib.hid ((HI6.out).c.put (BKA (updA b m { b m with at_ := a })))
          go_wp2_with (first
            | (refine wpList_ldB rfl (.tmp 4) rfl w.heap.size rfl 44 (updA b m { b m with at_ := a }) (HI6.out).b.bl ?_)
            | (refine wpList_stB rfl (.tmp 8) (.tmp 42) rfl C rfl 44 (fun _ => LsV.zero) (updA b m { b m with at_ := a }) rfl (HI6.out).c.bl ?_))
          exact bodyPost_ret (results_arr2 rfl _ Try.underlying44 rfl (by rw [BKA_size]; exact sizeB) rfl (HO.out).bl) rfl ⟨by rw [HX.out, HXB.out]; rfl, (HO.out).bel⟩
        · have HX : Hid (accE b m vm a = 1) := Lib.hid (by rw [accE_at, if_neg (by rw [ho]; simp), if_neg (fun h => h h1), if_neg h2, if_pos h3])
          have HXB : Hid (accB b m vm a = b) := Lib.hid (by rw [accB_at, HX.out, if_neg (by decide)])
          have z1 : ((b m).to != vm) = false := by simp [h1]
          rw [decide_eq_false h3] at HPG
          clear HE0 HE1 ho h1 h2 h3
          go_wp2_with (refine wpList_ldL rfl (.tmp 10) rfl L rfl (b m) (HI.out).l.bl ?_)
          refine (HT.out _).mono ?_
          rintro e w5 ⟨rfl, b5⟩
          have HI5 := Lib.hid ((HI.out).below b5)
          clear b5 HI c3
          go_wp2_with fail
          refine (HPG.out _).mono ?_
          rintro e w6 ⟨rfl, rfl⟩
          have HO := Lib.hid ((HI5.out).c.put (BKA (b)))
          go_wp2_with (first
            | (refine wpList_ldB rfl (.tmp 4) rfl w.heap.size rfl 44 (b) (HI5.out).b.bl ?_)
            | (refine wpList_stB rfl (.tmp 8) (.tmp 37) rfl C rfl 44 (fun _ => LsV.zero) (b) rfl (HI5.out).c.bl ?_))
          exact bodyPost_ret (results_arr2 rfl _ Try.underlying44 rfl (by rw [BKA_size]; exact sizeB) rfl (HO.out).bl) rfl ⟨by rw [HX.out, HXB.out]; rfl, (HO.out).bel⟩
    · have HX : Hid (accE b m vm a = 7) := Lib.hid (by rw [accE_at, if_neg (by rw [ho]; simp), if_pos h1])
      have HXB : Hid (accB b m vm a = b) := Lib.hid (by rw [accB_at, HX.out, if_neg (by decide)])
      have z1 : ((b m).to != vm) = true := by simp [h1]
      clear HE0 HE1 ho h1
      have HO := Lib.hid ((HI.out).c.put (BKA (b)))
      go_wp2_with (first
        | (refine wpList_ldB rfl (.tmp 4) rfl w.heap.size rfl 44 (b) (HI.out).b.bl ?_)
        | (refine wpList_stB rfl (.tmp 8) (.tmp 28) rfl C rfl 44 (fun _ => LsV.zero) (b) rfl (HI.out).c.bl ?_))
      exact bodyPost_ret (results_arr2 rfl _ Try.underlying44 rfl (by rw [BKA_size]; exact sizeB) rfl (HO.out).bl) rfl ⟨by rw [HX.out, HXB.out]; rfl, (HO.out).bel⟩
end Go.Proofs.Ythafcgppopfdkaa
