/-
  Contract of package lease: Offer.
-/
import Derived.Test.YthafcgppopfdkaaHD
namespace Go.Proofs.Ythafcgppopfdkaa
open Go.ChangeShapes Go.WideShapes Go.ChangeAt Go.RowKit
set_option maxRecDepth 100000
set_option linter.unusedVariables false

def freeB (b : Nat → LsV) (i : Nat) : Bool := !(b i).on
def badO (f p t : Int) : Bool := !(decide (0 ≤ f ∧ f < 6) && decide (0 ≤ t ∧ t < 6) && decide (0 ≤ p ∧ p < 32) && !decide (f = t))
def offE (b : Nat → LsV) (f p t : Int) : Int := if badO f p t = true then 1 else if fstB (freeB b) 16 < 0 then 3 else 0
def offN (b : Nat → LsV) (f p t : Int) : Int := if offE b f p t = 0 then fstB (freeB b) 16 else 0
def newLs (f p t : Int) (wr : Bool) : LsV := ⟨true, f, p, t, wr, -1⟩
def offB (b : Nat → LsV) (f p t : Int) (wr : Bool) : Nat → LsV := if offE b f p t = 0 then updA b (fstB (freeB b) 16).toNat (newLs f p t wr) else b
theorem wpList_bdn {ops : Array Oper} {rest : List Oper} {o : Oper} {a : Act} {w : World} {Q : Exit → Act → World → Prop} (hg : o.guard = none) (x1 x2 x3 x4 : Operand)
    (ho : o.op = .build 42 #[(0, .const (.bool true)), (1, x1), (2, x2), (3, x3), (4, x4), (5, .const (.int .i64 (-1)))]) (f p t : Int) (wr : Bool) (h1 : a.eval x1 = .int .i64 f) (h2 : a.eval x2 = .int .i64 p) (h3 : a.eval x3 = .int .i64 t) (h4 : a.eval x4 = .bool wr)
    (h : wpList Try.prog ops Q rest (a.put o.dst (.agg #[.bool true, .int .i64 f, .int .i64 p, .int .i64 t, .bool wr, .int .i64 (-1)])) w) : wpList Try.prog ops Q (o :: rest) a w := by
  have he : ((#[(0, Operand.const (.bool true)), (1, x1), (2, x2), (3, x3), (4, x4), (5, Operand.const (.int .i64 (-1)))] : Array (Nat × Operand)).map fun (i, x) => (i, a.eval x)).toList = [(0, .bool true), (1, .int .i64 f), (2, .int .i64 p), (3, .int .i64 t), (4, .bool wr), (5, .int .i64 (-1))] := by
    simp only [List.map_toArray, List.map_cons, List.map_nil]
    rw [h1, h2, h3, h4]; rfl
  have hb : Try.prog.built 42 [(0, .bool true), (1, .int .i64 f), (2, .int .i64 p), (3, .int .i64 t), (4, .bool wr), (5, .int .i64 (-1))] = some #[.bool true, .int .i64 f, .int .i64 p, .int .i64 t, .bool wr, .int .i64 (-1)] := by kernel_rfl
  refine wpList_build hg 42 _ ho ?_ ?_
  · rw [he, hb]; rfl
  · rw [he, hb]; exact h
/-- What stands in Offer. -/
structure OfI (w wr : World) (C : Nat) (b : Nat → LsV) : Prop where
  b : OB w wr w.heap.size 44 (BKA b)
  c : OB w wr C 44 (BKA fun _ => LsV.zero)
  lt : w.heap.size < C
theorem OfI.below {w wr w' : World} {C : Nat} {b : Nat → LsV} (h : OfI w wr C b) (hb : Below wr.heap.size wr w') : OfI w w' C b := ⟨h.b.below hb, h.c.below hb, h.lt⟩
theorem ofI_new (w : World) (b : Nat → LsV) : OfI w ((w.alloc (.cells (BKA b) 44)).alloc (.cells (BKA fun _ => LsV.zero) 44)) (w.heap.size + 1) b := by
  have h1 := (ob_new (Below.refl w.heap.size w) 44 (BKA b)).below (below_new _ (.cells (BKA fun _ => LsV.zero) 44))
  have h2 := ob_new (below_new w (.cells (BKA b) 44)) 44 (BKA fun _ => LsV.zero)
  rw [World.size_alloc] at h2
  exact ⟨h1, h2, by omega⟩
set_option maxHeartbeats 2000000 in
theorem offer_bad (b : Nat → LsV) (f p t : Int) (wr : Bool) (h : badO f p t = true) (w : World) :
    Calls Try.prog 18 #[.agg (BKA b), .int .i64 f, .int .i64 p, .int .i64 t, .bool wr] w fun e w' => e = .returned (.tuple #[.agg (BKA b), .int .i64 0, .int .i64 1]) ∧ Below w.heap.size w w' := by
  have HZ := zeroB_run
  have HI := Lib.hid (ofI_new w b)
  have H1 := Lib.hid (isVM_in f)
  have H2 := Lib.hid (isVM_in t)
  have H3 := Lib.hid (isPage_in p)
  unfold badO at h
  cases h1 : decide (0 ≤ f ∧ f < 6)
  · rw [h1] at H1
    clear h h1 H2 H3
    go_enter Try.func18, Try.ntmps18
    go_upto_region 1 with fail
    generalize (w.alloc (.cells (BKA b) 44)).alloc (.cells (BKA fun _ => LsV.zero) 44) = V at *
    obtain ⟨C, hC⟩ : ∃ C, w.heap.size + 1 = C := ⟨_, rfl⟩
    rw [hC] at HI
    rw [hC]
    clear hC
    go_wp2_with fail
    refine (H1.out _).mono ?_
    rintro e w1 ⟨rfl, rfl⟩
    have HO := Lib.hid ((HI.out).c.put (BKA (b)))
    go_wp2_with (first
      | (refine wpList_ldB rfl (.tmp 5) rfl w.heap.size rfl 44 (b) (HI.out).b.bl ?_)
      | (refine wpList_stB rfl (.tmp 10) (.tmp 32) rfl C rfl 44 (fun _ => LsV.zero) (b) rfl (HI.out).c.bl ?_))
    exact bodyPost_ret (results_arr3 rfl _ Try.underlying44 rfl (by rw [BKA_size]; exact sizeB) rfl (HO.out).bl) rfl ⟨rfl, (HO.out).bel⟩
  cases h2 : decide (0 ≤ t ∧ t < 6)
  · rw [h1] at H1
    rw [h2] at H2
    clear h h1 h2 H3
    go_enter Try.func18, Try.ntmps18
    go_upto_region 1 with fail
    generalize (w.alloc (.cells (BKA b) 44)).alloc (.cells (BKA fun _ => LsV.zero) 44) = V at *
    obtain ⟨C, hC⟩ : ∃ C, w.heap.size + 1 = C := ⟨_, rfl⟩
    rw [hC] at HI
    rw [hC]
    clear hC
    go_wp2_with fail
    refine (H1.out _).mono ?_
    rintro e w1 ⟨rfl, rfl⟩
    go_wp2_with fail
    refine (H2.out _).mono ?_
    rintro e w1 ⟨rfl, rfl⟩
    have HO := Lib.hid ((HI.out).c.put (BKA (b)))
    go_wp2_with (first
      | (refine wpList_ldB rfl (.tmp 5) rfl w.heap.size rfl 44 (b) (HI.out).b.bl ?_)
      | (refine wpList_stB rfl (.tmp 10) (.tmp 32) rfl C rfl 44 (fun _ => LsV.zero) (b) rfl (HI.out).c.bl ?_))
    exact bodyPost_ret (results_arr3 rfl _ Try.underlying44 rfl (by rw [BKA_size]; exact sizeB) rfl (HO.out).bl) rfl ⟨rfl, (HO.out).bel⟩
  cases h3 : decide (0 ≤ p ∧ p < 32)
  · rw [h1] at H1
    rw [h2] at H2
    rw [h3] at H3
    clear h h1 h2 h3
    go_enter Try.func18, Try.ntmps18
    go_upto_region 1 with fail
    generalize (w.alloc (.cells (BKA b) 44)).alloc (.cells (BKA fun _ => LsV.zero) 44) = V at *
    obtain ⟨C, hC⟩ : ∃ C, w.heap.size + 1 = C := ⟨_, rfl⟩
    rw [hC] at HI
    rw [hC]
    clear hC
    go_wp2_with fail
    refine (H1.out _).mono ?_
    rintro e w1 ⟨rfl, rfl⟩
    go_wp2_with fail
    refine (H2.out _).mono ?_
    rintro e w1 ⟨rfl, rfl⟩
    go_wp2_with fail
    refine (H3.out _).mono ?_
    rintro e w1 ⟨rfl, rfl⟩
    have HO := Lib.hid ((HI.out).c.put (BKA (b)))
    go_wp2_with (first
      | (refine wpList_ldB rfl (.tmp 5) rfl w.heap.size rfl 44 (b) (HI.out).b.bl ?_)
      | (refine wpList_stB rfl (.tmp 10) (.tmp 32) rfl C rfl 44 (fun _ => LsV.zero) (b) rfl (HI.out).c.bl ?_))
    exact bodyPost_ret (results_arr3 rfl _ Try.underlying44 rfl (by rw [BKA_size]; exact sizeB) rfl (HO.out).bl) rfl ⟨rfl, (HO.out).bel⟩
  have h4 : f = t := by
    rw [h1, h2, h3] at h
    simpa using h
  have z1 : (f == t) = true := by simp [h4]
  rw [h1] at H1
  rw [h2] at H2
  rw [h3] at H3
  clear h h1 h2 h3 h4
  go_enter Try.func18, Try.ntmps18
  go_upto_region 1 with fail
  generalize (w.alloc (.cells (BKA b) 44)).alloc (.cells (BKA fun _ => LsV.zero) 44) = V at *
  obtain ⟨C, hC⟩ : ∃ C, w.heap.size + 1 = C := ⟨_, rfl⟩
  rw [hC] at HI
  rw [hC]
  clear hC
  go_wp2_with fail
  refine (H1.out _).mono ?_
  rintro e w1 ⟨rfl, rfl⟩
  go_wp2_with fail
  refine (H2.out _).mono ?_
  rintro e w1 ⟨rfl, rfl⟩
  go_wp2_with fail
  refine (H3.out _).mono ?_
  rintro e w1 ⟨rfl, rfl⟩
  have HO := Lib.hid ((HI.out).c.put (BKA (b)))
  go_wp2_with (first
    | (refine wpList_ldB rfl (.tmp 5) rfl w.heap.size rfl 44 (b) (HI.out).b.bl ?_)
    | (refine wpList_stB rfl (.tmp 10) (.tmp 32) rfl C rfl 44 (fun _ => LsV.zero) (b) rfl (HI.out).c.bl ?_))
  exact bodyPost_ret (results_arr3 rfl _ Try.underlying44 rfl (by rw [BKA_size]; exact sizeB) rfl (HO.out).bl) rfl ⟨rfl, (HO.out).bel⟩
set_option maxHeartbeats 2000000 in
theorem offer_full (b : Nat → LsV) (f p t : Int) (wr : Bool) (h : badO f p t = false) (hf : fstB (freeB b) 16 = -1) (w : World) :
    Calls Try.prog 18 #[.agg (BKA b), .int .i64 f, .int .i64 p, .int .i64 t, .bool wr] w fun e w' => e = .returned (.tuple #[.agg (BKA b), .int .i64 0, .int .i64 3]) ∧ Below w.heap.size w w' := by
  have HZ := zeroB_run
  have HI := Lib.hid (ofI_new w b)
  have H1 := Lib.hid (isVM_in f)
  have H2 := Lib.hid (isVM_in t)
  have H3 := Lib.hid (isPage_in p)
  unfold badO at h
  cases h1 : decide (0 ≤ f ∧ f < 6)
  · rw [h1] at h; simp at h
  cases h2 : decide (0 ≤ t ∧ t < 6)
  · rw [h2] at h; simp at h
  cases h3 : decide (0 ≤ p ∧ p < 32)
  · rw [h3] at h; simp at h
  have h4 : ¬ f = t := by
    rw [h1, h2, h3] at h
    simpa using h
  have z1 : (f == t) = false := by simp [h4]
  rw [h1] at H1
  rw [h2] at H2
  rw [h3] at H3
  clear h h1 h2 h3 h4
  go_enter Try.func18, Try.ntmps18
  go_upto_region 1 with fail
  generalize (w.alloc (.cells (BKA b) 44)).alloc (.cells (BKA fun _ => LsV.zero) 44) = V at *
  obtain ⟨C, hC⟩ : ∃ C, w.heap.size + 1 = C := ⟨_, rfl⟩
  rw [hC] at HI
  rw [hC]
  clear hC
  go_wp2_with fail
  refine (H1.out _).mono ?_
  rintro e w1 ⟨rfl, rfl⟩
  go_wp2_with fail
  refine (H2.out _).mono ?_
  rintro e w1 ⟨rfl, rfl⟩
  go_wp2_with fail
  refine (H3.out _).mono ?_
  rintro e w1 ⟨rfl, rfl⟩
  have HX := Lib.hid (index_free (HI.out).b.bl)
  have HX2 : Hid (fstB (fun i => !(b i).on) 16 = -1) := Lib.hid hf
  rw [HX2.out] at HX
  go_wp2_with fail
  refine (HX.out).mono ?_
  rintro e w1 ⟨rfl, b1⟩
  replace HI := Lib.hid ((HI.out).below b1)
  clear b1 HX HX2
  have HO := Lib.hid ((HI.out).c.put (BKA (b)))
  go_wp2_with (first
    | (refine wpList_ldB rfl (.tmp 5) rfl w.heap.size rfl 44 (b) (HI.out).b.bl ?_)
    | (refine wpList_stB rfl (.tmp 10) (.tmp 37) rfl C rfl 44 (fun _ => LsV.zero) (b) rfl (HI.out).c.bl ?_))
  exact bodyPost_ret (results_arr3 rfl _ Try.underlying44 rfl (by rw [BKA_size]; exact sizeB) rfl (HO.out).bl) rfl ⟨rfl, (HO.out).bel⟩
set_option maxHeartbeats 2000000 in
theorem offer_yes (b : Nat → LsV) (f p t : Int) (wr : Bool) (h : badO f p t = false) {j : Nat} (hj : j < 16) (hf : fstB (freeB b) 16 = (j : Nat)) (w : World) :
    Calls Try.prog 18 #[.agg (BKA b), .int .i64 f, .int .i64 p, .int .i64 t, .bool wr] w fun e w' => e = .returned (.tuple #[.agg (BKA (updA b j (newLs f p t wr))), .int .i64 (j : Nat), .int .i64 0]) ∧ Below w.heap.size w w' := by
  have HZ := zeroB_run
  have HI := Lib.hid (ofI_new w b)
  have H1 := Lib.hid (isVM_in f)
  have H2 := Lib.hid (isVM_in t)
  have H3 := Lib.hid (isPage_in p)
  unfold badO at h
  cases h1 : decide (0 ≤ f ∧ f < 6)
  · rw [h1] at h; simp at h
  cases h2 : decide (0 ≤ t ∧ t < 6)
  · rw [h2] at h; simp at h
  cases h3 : decide (0 ≤ p ∧ p < 32)
  · rw [h3] at h; simp at h
  have h4 : ¬ f = t := by
    rw [h1, h2, h3] at h
    simpa using h
  have z1 : (f == t) = false := by simp [h4]
  rw [h1] at H1
  rw [h2] at H2
  rw [h3] at H3
  clear h h1 h2 h3 h4
  go_enter Try.func18, Try.ntmps18
  go_upto_region 1 with fail
  generalize (w.alloc (.cells (BKA b) 44)).alloc (.cells (BKA fun _ => LsV.zero) 44) = V at *
  obtain ⟨C, hC⟩ : ∃ C, w.heap.size + 1 = C := ⟨_, rfl⟩
  rw [hC] at HI
  rw [hC]
  clear hC
  go_wp2_with fail
  refine (H1.out _).mono ?_
  rintro e w1 ⟨rfl, rfl⟩
  go_wp2_with fail
  refine (H2.out _).mono ?_
  rintro e w1 ⟨rfl, rfl⟩
  go_wp2_with fail
  refine (H3.out _).mono ?_
  rintro e w1 ⟨rfl, rfl⟩
  have HX := Lib.hid (index_free (HI.out).b.bl)
  have HX2 : Hid (fstB (fun i => !(b i).on) 16 = (j : Nat)) := Lib.hid hf
  rw [HX2.out] at HX
  go_wp2_with fail
  refine (HX.out).mono ?_
  rintro e w1 ⟨rfl, b1⟩
  have g1 := (HI.out).below b1
  obtain ⟨c0, c1, c2, c3, c4, c5⟩ := g1.b.bl.row6 j hj
  have fz := g1.b.bl.fz
  have hlt := g1.lt
  have G2 : Hid (OfI w (putL w1 w.heap.size j (newLs f p t wr)) C (updA b j (newLs f p t wr))) := Lib.hid ⟨g1.b.putL j hj _, g1.c.keptL j _ (by omega) (by omega), g1.lt⟩
  have j0 : ¬ ((j : Int) < 0) := by omega
  have j1 : (j : Int) < 16 := by omega
  clear b1 HX HX2 HI g1 hlt
  go_upto_region 7 with (refine wpList_bdn rfl (.tmp 39) (.tmp 40) (.tmp 41) (.tmp 42) rfl f p t wr rfl rfl rfl rfl ?_)
  change Code.wp _ _ _ _ (putL w1 w.heap.size j (newLs f p t wr))
  generalize putL w1 w.heap.size j (newLs f p t wr) = V2 at *
  clear c0 c1 c2 c3 c4 c5 fz
  have HO := Lib.hid ((G2.out).c.put (BKA (updA b j (newLs f p t wr))))
  go_wp2_with (first
    | (refine wpList_ldB rfl (.tmp 5) rfl w.heap.size rfl 44 (updA b j (newLs f p t wr)) (G2.out).b.bl ?_)
    | (refine wpList_stB rfl (.tmp 10) (.tmp 45) rfl C rfl 44 (fun _ => LsV.zero) (updA b j (newLs f p t wr)) rfl (G2.out).c.bl ?_))
  exact bodyPost_ret (results_arr3 rfl _ Try.underlying44 rfl (by rw [BKA_size]; exact sizeB) rfl (HO.out).bl) rfl ⟨rfl, (HO.out).bel⟩
theorem offer_in (b : Nat → LsV) (f p t : Int) (wr : Bool) (w : World) :
    Calls Try.prog 18 #[.agg (BKA b), .int .i64 f, .int .i64 p, .int .i64 t, .bool wr] w fun e w' => e = .returned (.tuple #[.agg (BKA (offB b f p t wr)), .int .i64 (offN b f p t), .int .i64 (offE b f p t)]) ∧ Below w.heap.size w w' := by
  cases h : badO f p t
  · rcases fstB_spec (freeB b) 16 with ⟨hf, _⟩ | ⟨j, hj, hf, _⟩
    · have e : offE b f p t = 3 := by unfold offE; rw [if_neg (by rw [h]; simp), if_pos (by omega)]
      unfold offB offN
      rw [e, if_neg (by decide), if_neg (by decide)]
      exact offer_full b f p t wr h hf w
    · have e : offE b f p t = 0 := by unfold offE; rw [if_neg (by rw [h]; simp), if_neg (by omega)]
      unfold offB offN
      rw [e, if_pos rfl, if_pos rfl, hf]
      exact offer_yes b f p t wr h hj hf w
  · have e : offE b f p t = 1 := by unfold offE; rw [if_pos h]
    unfold offB offN
    rw [e, if_neg (by decide), if_neg (by decide)]
    exact offer_bad b f p t wr h w
end Go.Proofs.Ythafcgppopfdkaa
