/-
  Contract of a pool's Twin.
-/
import Derived.Test.YtfjkomglljcfjaaPW
import Derived.Deep.RegionHeld3
namespace Go.Proofs.Ytfjkomglljcfjaa
open Go.ChangeShapes Go.WideShapes Go.ChangeAt Go.RowKit
open PM
set_option maxRecDepth 100000

theorem VR.of_owns' {w : World} {T : TypeId} {F : Nat → Value} {v : Value} {n base : Nat} (h : w.ownsRow base T 1 v n (vl F n)) (hv : v ≠ .slice none 0 0) :
    ∃ g cap, v = .slice (some ⟨g, 0, none⟩) n cap ∧ base ≤ g ∧ VR w g T F n cap := by
  rcases h.2 with ⟨h0, _⟩ | ⟨g, cap, cur, rfl, hb, hg, hnc, hm, hsz, ht⟩
  · exact absurd h0 hv
  · refine ⟨g, cap, rfl, hb, ⟨cur, hg, by omega, fun i hi => ?_⟩, hnc, hm⟩
    have := vl_get F n i hi
    rw [← ht, Nat.mul_one, List.getElem?_take, if_pos hi] at this
    rw [← this]; simp
theorem clone_run (w : World) (base : Nat) (t ty e : TypeId) (i : TypeInfo) (z : Value) (by8 : Nat) (hu : Try.prog.underlying t = some (.slice e)) (hi : Try.prog.info? e = some i) (hz : i.zero = some z) (h1 : i.size = 1) (h2 : i.bytes = by8) (hzc : z.cells.size = 1) (h8 : by8 ≤ 8)
    (r : Nat) (hown : w.ownsRow base e 1 (.slice (some ⟨r, 0, none⟩) 0 0) 0 []) (G : Nat → Value) (hG : ∀ j, (G j).oneCell' = true) (g n cap : Nat) (hr : VR w g e G n cap) (hn : n ≤ 512) (hbase : base ≤ w.heap.size) :
    ∃ g' cap' w', (Builtin.append_ #[t, t] ty #[.slice (some ⟨r, 0, none⟩) 0 0, .slice (some ⟨g, 0, none⟩) n cap]).run Try.prog w = .ok (.slice (some ⟨g', 0, none⟩) n cap') w' ∧ VR w' g' e G n cap' ∧ w.grownBy w' (some r) ∧ base ≤ g' := by
  obtain ⟨v', w', hrun, h3, h4, h5, _⟩ := run_append_own_at (P := Try.prog) w base t ty e i z 1 by8 hu hi hz h1 h2 hzc (by omega) (.slice (some ⟨r, 0, none⟩) 0 0) 0 [] hown ⟨g, 0, none⟩ n cap (vl G n) (by simp [vl_length]) (by
      intro j u hj
      have hjn : j < n := by
        have := (List.getElem?_eq_some_iff.1 hj).1
        rw [vl_length] at this; exact this
      rw [vl_get G n j hjn] at hj
      injection hj with hj
      subst hj
      have := hr.cell j hjn
      rw [← this]
      simp only [Addr.add]
      split <;> simp_all) (by
      intro u hu
      simp only [vl, List.mem_map] at hu
      obtain ⟨j, _, rfl⟩ := hu
      exact hG j) (by unfold maxLen; omega) (by have : (0 + n) * by8 ≤ 512 * 8 := Nat.mul_le_mul (by omega) h8; omega) hbase
  simp only [Nat.zero_add, List.nil_append] at h3
  obtain ⟨g', cap', rfl, hb, hv⟩ := VR.of_owns' h3 (fun e => by
    have := (h5.1 e).1
    cases this)
  exact ⟨g', cap', w', hrun, hv, h4, hb⟩
theorem wpList_clone {ops : Array Oper} {rest : List Oper} {o : Oper} {a : Act} {w : World} {Q : Exit → Act → World → Prop} (hgd : o.guard = none) (s x : Operand) (t e : TypeId)
    (ho : o.op = .call { callee := .builtin .append, args := #[s, x], argTypes := #[t, t] }) (i : TypeInfo) (z : Value) (by8 : Nat) (hu : Try.prog.underlying t = some (.slice e)) (hi : Try.prog.info? e = some i) (hz : i.zero = some z) (h1 : i.size = 1) (h2 : i.bytes = by8) (hzc : z.cells.size = 1) (h8 : by8 ≤ 8)
    (base r : Nat) (hs : a.eval s = .slice (some ⟨r, 0, none⟩) 0 0) (hown : w.ownsRow base e 1 (.slice (some ⟨r, 0, none⟩) 0 0) 0 []) (G : Nat → Value) (hG : ∀ j, (G j).oneCell' = true) (g n cap : Nat) (hx : a.eval x = .slice (some ⟨g, 0, none⟩) n cap) (hr : VR w g e G n cap) (hn : n ≤ 512) (hbase : base ≤ w.heap.size) 
    (hK : ∀ g' cap' w', VR w' g' e G n cap' → w.grownBy w' (some r) → base ≤ g' → wpList Try.prog ops Q rest (a.put o.dst (.slice (some ⟨g', 0, none⟩) n cap')) w') :
    wpList Try.prog ops Q (o :: rest) a w := by
  obtain ⟨g', cap', w', hrun, k1, k2, k3⟩ := clone_run w base t o.type e i z by8 hu hi hz h1 h2 hzc h8 r hown G hG g n cap hr hn hbase
  refine wpList_plain hgd fun K hK' => ?_
  unfold Oper.wp execOp
  simp only [ho, resolve, invoke, builtin, Sem.run_bind, Sem.run_pure, Result.andThen_ok, List.map_toArray, List.map_cons, List.map_nil, hs, hx, hrun]
  exact hK' _ _ (hK g' cap' w' k1 k2 k3)
theorem owns0 (w : World) (e : TypeId) : (w.alloc (.cells #[] e)).ownsRow w.heap.size e 1 (.slice (some ⟨w.heap.size, 0, none⟩) 0 0) 0 [] :=
  ⟨rfl, .inr ⟨w.heap.size, 0, #[], rfl, Nat.le_refl _, heap_alloc_new w _, Nat.le_refl _, by unfold maxLen; omega, rfl, rfl⟩⟩
theorem clone_i {w : World} {g n cap : Nat} {h : Nat → Nat} (hr : VR w g 3 (iv h) n cap) (hn : n ≤ 512) :
    Calls Try.prog 20 #[.slice (some ⟨g, 0, none⟩) n cap] w fun e w' => ∃ g' cap', e = .returned (.slice (some ⟨g', 0, none⟩) n cap') ∧ w.heap.size ≤ g' ∧ VR w' g' 3 (iv h) n cap' ∧ Below w.heap.size w w' := by
  have hi : (Try.prog.info? 3).map (fun i => (i.zero, i.size, i.bytes)) = some (some (.int .i64 0), 1, 8) := by kernel_rfl
  obtain ⟨i, hi, hz, h1, h2⟩ := info_parts hi
  have HI := Lib.hid (And.intro hi (And.intro hz (And.intro h1 h2)))
  have HR := Lib.hid hr
  clear hr hi hz h1 h2
  have hq : (binOp .eql 46 (.slice (some ⟨g, 0, none⟩) n cap) (.slice none 0 0)).run Try.prog w = .ok (.bool false) w := by kernel_rfl
  go_enter Try.func20, Try.ntmps20
  go_wp2_with (at_builtin
               refine wpList_clone rfl (.tmp 5) (.tmp 6) 46 3 rfl i (.int .i64 0) 8 und_frees (HI.out).1 (HI.out).2.1 (HI.out).2.2.1 (HI.out).2.2.2 rfl (by omega) w.heap.size w.heap.size rfl (owns0 w 3) (iv h) (fun _ => rfl) g n cap rfl ((HR.out).kept (World.grownBy_alloc _ _ none) (by simp)) hn (by simp) ?_
               intro g' cap' w' k1 k2 k3
               have K1 := Lib.hid k1
               have K2 := Lib.hid ((below_new w (.cells #[] 3)).grown k2 (below_new w _).size (fun y hy => by injection hy with hy; omega))
               clear k1 k2)
  go_ret
  exact ⟨g', cap', rfl, k3, K1.out, K2.out⟩
theorem clone_b {w : World} {g n cap : Nat} {u : Nat → Bool} (hr : VR w g 4 (bv u) n cap) (hn : n ≤ 512) :
    Calls Try.prog 21 #[.slice (some ⟨g, 0, none⟩) n cap] w fun e w' => ∃ g' cap', e = .returned (.slice (some ⟨g', 0, none⟩) n cap') ∧ w.heap.size ≤ g' ∧ VR w' g' 4 (bv u) n cap' ∧ Below w.heap.size w w' := by
  have hu : Try.prog.underlying 26 = some (.slice 4) := by kernel_rfl
  have hi : (Try.prog.info? 4).map (fun i => (i.zero, i.size, i.bytes)) = some (some (.bool false), 1, 1) := by kernel_rfl
  obtain ⟨i, hi, hz, h1, h2⟩ := info_parts hi
  have HI := Lib.hid (And.intro hi (And.intro hz (And.intro h1 h2)))
  have HR := Lib.hid hr
  clear hr hi hz h1 h2
  have hq : (binOp .eql 26 (.slice (some ⟨g, 0, none⟩) n cap) (.slice none 0 0)).run Try.prog w = .ok (.bool false) w := by kernel_rfl
  go_enter Try.func21, Try.ntmps21
  go_wp2_with (at_builtin
               refine wpList_clone rfl (.tmp 5) (.tmp 6) 26 4 rfl i (.bool false) 1 hu (HI.out).1 (HI.out).2.1 (HI.out).2.2.1 (HI.out).2.2.2 rfl (by omega) w.heap.size w.heap.size rfl (owns0 w 4) (bv u) (fun _ => rfl) g n cap rfl ((HR.out).kept (World.grownBy_alloc _ _ none) (by simp)) hn (by simp) ?_
               intro g' cap' w' k1 k2 k3
               have K1 := Lib.hid k1
               have K2 := Lib.hid ((below_new w (.cells #[] 4)).grown k2 (below_new w _).size (fun y hy => by injection hy with hy; omega))
               clear k1 k2)
  go_ret
  exact ⟨g', cap', rfl, k3, K1.out, K2.out⟩
theorem twin_end {w W : World} {k g5 c5 g6 c6 : Nat} {us : Nat → Bool} {well : Int} {h : Nat → Nat} (hk : k ≤ 512) (hw : -9223372036854775808 ≤ well ∧ well ≤ 9223372036854775807) (hb : Below w.heap.size w W)
    (v5 : VR W g5 3 (iv h) (cnt us k) c5) (hp : Hp h (cnt us k)) (hbag : Bag h (cnt us k) (fr us k)) (v6 : VR W g6 4 (bv us) k c6) (h5 : w.heap.size ≤ g5) (h6 : w.heap.size ≤ g6) (ne : g5 ≠ g6) :
    Pl (W.alloc (.cells #[.slice (some ⟨g5, 0, none⟩) (cnt us k) c5, .slice (some ⟨g6, 0, none⟩) k c6, .int .i64 well] 48)) W.heap.size (fun x => w.heap.size ≤ x) k us well ∧
    Below w.heap.size w (W.alloc (.cells #[.slice (some ⟨g5, 0, none⟩) (cnt us k) c5, .slice (some ⟨g6, 0, none⟩) k c6, .int .i64 well] 48)) := by
  obtain ⟨z0, z1, z2, z3⟩ := cells3 W (.slice (some ⟨g5, 0, none⟩) (cnt us k) c5) (.slice (some ⟨g6, 0, none⟩) k c6) (.int .i64 well) 48 W.heap.size rfl
  have l5 := v5.lt
  have l6 := v6.lt
  exact ⟨⟨g5, c5, g6, c6, ⟨hk, hw, ⟨⟨z0, z3 0⟩, by omega, h, v5.kept (World.grownBy_alloc _ _ none) (by simp), hp, hbag⟩, z1, z2, z3 2, v6.kept (World.grownBy_alloc _ _ none) (by simp), by omega, ne⟩, hb.size, h5, h6⟩, below_more hb _⟩
/-- Twin: another one like it. -/
theorem twin_in {w : World} {B k : Nat} {F : Nat → Prop} {us : Nat → Bool} {well : Int} (H : Pl w B F k us well) :
    Calls Try.prog 16 #[.pointer (some ⟨B, 0, none⟩)] w fun e w' => ∃ B', e = .returned (.pointer (some ⟨B', 0, none⟩)) ∧ Pl w' B' (fun x => w.heap.size ≤ x) k us well ∧ Below w.heap.size w w' := by
  obtain ⟨g, cap, u, uc, hx, f1, f2, f3⟩ := H
  obtain ⟨h, hr, hp, hbag⟩ := hx.hq.ex
  have hk := hx.le
  have hwi := hx.wi
  have hcn := cnt_le us k
  have c0 := hx.hq.hd.1
  have c1 := hx.c1
  have c2 := hx.c2
  have HE := Lib.hid (fun (W : World) (g5 c5 g6 c6 : Nat) hb v5 v6 h5 h6 ne => twin_end (w := w) (W := W) (g5 := g5) (c5 := c5) (g6 := g6) (c6 := c6) hk hwi hb v5 hp hbag v6 h5 h6 ne)
  have HI := Lib.hid (fun W (hb : Below w.heap.size w W) => clone_i (hr.of_block (hb.block g hr.lt)) (by omega))
  have HB := Lib.hid (fun W (hb : Below w.heap.size w W) => clone_b (hx.ur.of_block (hb.block u hx.ur.lt)) hk)
  have hBl := hx.hq.hd.lt
  obtain ⟨n, hn⟩ : ∃ n, cnt us k = n := ⟨_, rfl⟩
  rw [hn] at c0 HE HI
  clear hx hr hp hbag hn hcn
  go_enter Try.func16, Try.ntmps16
  go_wp2_with fail
  go_region_held3 (fun w' => w'.cell? ⟨B, 0, none⟩ = some (.slice (some ⟨g, 0, none⟩) n cap) ∧ w'.cell? ⟨B, 1, none⟩ = some (.slice (some ⟨u, 0, none⟩) k uc) ∧ w'.cell? ⟨B, 2, none⟩ = some (.int .i64 well))
    (first
      | go_keep
      | (refine ⟨?_, ?_, ?_⟩
         · rw [(bel.out).cell hBl]; assumption
         · rw [(bel.out).cell hBl]; assumption
         · rw [(bel.out).cell hBl]; assumption))
    (first
      | (go_at_call 20; refine ((HI.out) _ (below_draws (Below.refl _ _) 1)).mono ?_; rintro e w5 ⟨g5, c5, rfl, l5, v5, b5⟩; have bel := Lib.hid (below_up (below_draws (Below.refl _ w) 1) b5))
      | (go_at_call 20; refine ((HI.out) _ bel.out).mono ?_; rintro e w5 ⟨g5, c5, rfl, l5, v5, b5⟩; have bel2 := bel; clear bel; have bel := Lib.hid (below_up bel2.out b5))
      | (go_at_call 21; refine ((HB.out) _ (below_draws (Below.refl _ _) 1)).mono ?_; rintro e w6 ⟨g6, c6, rfl, l6, v6, b6⟩; have bel := Lib.hid (below_up (below_draws (Below.refl _ w) 1) b6))
      | (go_at_call 21; refine ((HB.out) _ bel.out).mono ?_; rintro e w6 ⟨g6, c6, rfl, l6, v6, b6⟩; have bel2 := bel; clear bel; have bel := Lib.hid (below_up bel2.out b6)))
  have hl := v5.lt
  obtain ⟨q1, q2⟩ := (HE.out) w6 g5 c5 g6 c6 bel.out (v5.of_block (b6.block g5 hl)) v6 l5 (by have := (bel2.out).size; omega) (by omega)
  have Q := Lib.hid (And.intro q1 q2)
  clear v5 v6 b5 b6 q1 q2 l5 l6
  go_wp2
  go_ret
  exact ⟨_, rfl, Q.out⟩
end Go.Proofs.Ytfjkomglljcfjaa
