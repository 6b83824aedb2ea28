/-
  PROVED: for every number n and list of acts the law OwnerPlays returns true: frames that are donated, kept, shared, reclaimed, released, in any order: whose each is, and why not; and acts read as they did. No condition.
-/
import Derived.Test.YtjidhmdphlmldaaRows
import Derived.Test.YtjidhmdphlmldaaLT
import Derived.Test.YtjidhmdphlmldaaOA
import Derived.Test.YtjidhmdphlmldaaOB
import Derived.Test.YtjidhmdphlmldaaOC
import Derived.Test.YtjidhmdphlmldaaOD
import Derived.Test.YtjidhmdphlmldaaOE
import Derived.Test.YtjidhmdphlmldaaOF
import Derived.Test.YtjidhmdphlmldaaVA
import Derived.Test.YtjidhmdphlmldaaOG
import Derived.Test.YtjidhmdphlmldaaOH
import Derived.Test.YtjidhmdphlmldaaOI
import Derived.Test.YtjidhmdphlmldaaOJ
import Derived.Test.YtjidhmdphlmldaaOS1
import Derived.Test.YtjidhmdphlmldaaOS2
import Derived.Test.YtjidhmdphlmldaaOS3
import Derived.Test.YtjidhmdphlmldaaOS4
import Derived.Test.YtjidhmdphlmldaaOS5
import Derived.WalkKit
import Derived.ProofKit
import Derived.OpenShut
import Derived.ShutString
import Derived.ChangeOld
import Derived.Below
import Derived.Deep.CutBlock
import Derived.Deep.RegionHeld3
import Derived.Deep.Slices
import Derived.Deep.Fields
namespace Go.Proofs.Ytjidhmdphlmldaa.ownerPlays
open Go.Proofs.Ytjidhmdphlmldaa
open Go.ChangeShapes Go.WideShapes Go.ChangeAt Go.RowKit
open Go.ChangeMaps (open_string shut_string)
set_option linter.unusedVariables false
set_option maxRecDepth 100000

theorem own : ownKnob Try.prog.godebug = none := by kernel_rfl
theorem laidOut : laidOutB Try.prog = true := by kernel_rfl
theorem wf_u8 {a : Int} (h : (Lit.int .u8 a).wf = true) : ∃ n : Nat, a = n ∧ n < 256 := by
  simp only [Lit.wf, IntKind.min, IntKind.max, IntKind.signed, IntKind.bits, Bool.and_eq_true] at h
  simp at h
  exact ⟨a.toNat, by omega, by omega⟩
theorem wf_i64 {a : Int} (h : (Lit.int .i64 a).wf = true) : -9223372036854775808 ≤ a ∧ a ≤ 9223372036854775807 := by
  simp only [Lit.wf, IntKind.min, IntKind.max, IntKind.signed, IntKind.bits, Bool.and_eq_true, decide_eq_true_eq] at h
  simp at h
  omega
/-- What the walk is told of a slice of structs that came in: for each of its elements the fields' cells. -/
def IsS46 (w : World) (a : Option Addr) (len : Nat) : Prop :=
  len ≤ maxLen ∧ ∀ i, i < len → ∃ b off, a = some ⟨b, off, none⟩ ∧ b < w.heap.size ∧ ∃ (K : Nat) (Frame : Int) (N : Int) (Page : Int), w.cell? ⟨b, off + i * 4 + 0, none⟩ = some (.int .u8 K) ∧ w.cell? ⟨b, off + i * 4 + 1, none⟩ = some (.int .i64 Frame) ∧ w.cell? ⟨b, off + i * 4 + 2, none⟩ = some (.int .i64 N) ∧ w.cell? ⟨b, off + i * 4 + 3, none⟩ = some (.int .i64 Page) ∧ K < 256 ∧ (-9223372036854775808 ≤ Frame ∧ Frame ≤ 9223372036854775807) ∧ (-9223372036854775808 ≤ N ∧ N ≤ 9223372036854775807) ∧ (-9223372036854775808 ≤ Page ∧ Page ≤ 9223372036854775807)
theorem add_two (b off i j : Nat) : ((⟨b, off, none⟩ : Addr).add i).add j = ⟨b, off + i + j, none⟩ := by
  unfold Addr.add
  split <;> split <;> simp_all
theorem openS46 {H : Type} {enc : TypeId × Value → H} {w : World} {base : Nat} {a : Option Addr} {len cap : Nat} {d : DataW H} {p : List MemPlace}
    (h : DataW.Trod enc Try.prog w base (fun _ => true) true 46 (.slice a len cap) d p) : IsS46 w a len := by
  obtain ⟨fuel, hf⟩ := h
  rcases Go.Deep.open_slice Try.underlying46 hf with ⟨hcs, _⟩ | ⟨x, l, c, m, n, D, Pl, hcs, _, hl, hm, hmm, _, hi⟩
  · simp [Value.cells] at hcs
    obtain ⟨rfl, rfl, rfl⟩ := hcs
    exact ⟨by unfold maxLen; omega, fun i hi => by omega⟩
  · simp [Value.cells] at hcs
    obtain ⟨rfl, rfl, rfl⟩ := hcs
    refine ⟨by omega, fun i hil => ?_⟩
    have hC : Try.prog.cellsOf 51 = 4 := by kernel_rfl
    have hlm : len ≤ m := by rw [hmm]; split <;> omega
    obtain ⟨b, off, spot⟩ := x
    have hspot : spot = none := by
      obtain ⟨cs0, hc0, _⟩ := hi 0 (by omega)
      obtain ⟨_, hl0, hat0⟩ := World.cells?_some hc0
      rw [hC] at hl0 hat0
      have h0 := hat0 0 (by decide)
      rw [List.getElem?_eq_getElem (by omega)] at h0
      simpa [Addr.add] using World.cell?_spot h0
    subst hspot
    obtain ⟨cs', hc, ht'⟩ := hi i (by omega)
    obtain ⟨_, hcl, hat⟩ := World.cells?_some hc
    obtain ⟨xs, n', _, _, _, hxl, hfs⟩ := DataW.trod_struct Try.underlying51 ht'
    rw [hC] at hcl hat
    obtain ⟨y0, hy0⟩ : ∃ y, xs[0]? = some y := ⟨_, List.getElem?_eq_getElem (by rw [hxl]; decide)⟩
    have t0 := (hfs 0 _ rfl).trans hy0
    have e0 : (cs'.drop 0).take (Try.prog.cellsOf 5) = [cs'[0]'(by omega)] := by
      rw [show Try.prog.cellsOf 5 = 1 from by kernel_rfl, List.drop_eq_getElem_cons (by omega)]; rfl
    have q0 := hat 0 (by decide)
    rw [List.getElem?_eq_getElem (by omega), add_two] at q0
    replace t0 : DataW.trod enc Try.prog w base (fun _ => true) true n' 5 [cs'[0]'(by omega)] = some y0 := by rw [← e0]; exact t0
    obtain ⟨z0, k0, _, w0⟩ := DataW.trod_int Try.underlying5 t0
    rw [List.cons.injEq] at k0
    rw [k0.1] at q0
    obtain ⟨n0, rfl, b0⟩ := wf_u8 w0
    obtain ⟨y1, hy1⟩ : ∃ y, xs[1]? = some y := ⟨_, List.getElem?_eq_getElem (by rw [hxl]; decide)⟩
    have t1 := (hfs 1 _ rfl).trans hy1
    have e1 : (cs'.drop 1).take (Try.prog.cellsOf 3) = [cs'[1]'(by omega)] := by
      rw [show Try.prog.cellsOf 3 = 1 from by kernel_rfl, List.drop_eq_getElem_cons (by omega)]; rfl
    have q1 := hat 1 (by decide)
    rw [List.getElem?_eq_getElem (by omega), add_two] at q1
    replace t1 : DataW.trod enc Try.prog w base (fun _ => true) true n' 3 [cs'[1]'(by omega)] = some y1 := by rw [← e1]; exact t1
    obtain ⟨z1, k1, _, w1⟩ := DataW.trod_int Try.underlying3 t1
    rw [List.cons.injEq] at k1
    rw [k1.1] at q1
    have b1 := wf_i64 w1
    obtain ⟨y2, hy2⟩ : ∃ y, xs[2]? = some y := ⟨_, List.getElem?_eq_getElem (by rw [hxl]; decide)⟩
    have t2 := (hfs 2 _ rfl).trans hy2
    have e2 : (cs'.drop 2).take (Try.prog.cellsOf 3) = [cs'[2]'(by omega)] := by
      rw [show Try.prog.cellsOf 3 = 1 from by kernel_rfl, List.drop_eq_getElem_cons (by omega)]; rfl
    have q2 := hat 2 (by decide)
    rw [List.getElem?_eq_getElem (by omega), add_two] at q2
    replace t2 : DataW.trod enc Try.prog w base (fun _ => true) true n' 3 [cs'[2]'(by omega)] = some y2 := by rw [← e2]; exact t2
    obtain ⟨z2, k2, _, w2⟩ := DataW.trod_int Try.underlying3 t2
    rw [List.cons.injEq] at k2
    rw [k2.1] at q2
    have b2 := wf_i64 w2
    obtain ⟨y3, hy3⟩ : ∃ y, xs[3]? = some y := ⟨_, List.getElem?_eq_getElem (by rw [hxl]; decide)⟩
    have t3 := (hfs 3 _ rfl).trans hy3
    have e3 : (cs'.drop 3).take (Try.prog.cellsOf 3) = [cs'[3]'(by omega)] := by
      rw [show Try.prog.cellsOf 3 = 1 from by kernel_rfl, List.drop_eq_getElem_cons (by omega)]; rfl
    have q3 := hat 3 (by decide)
    rw [List.getElem?_eq_getElem (by omega), add_two] at q3
    replace t3 : DataW.trod enc Try.prog w base (fun _ => true) true n' 3 [cs'[3]'(by omega)] = some y3 := by rw [← e3]; exact t3
    obtain ⟨z3, k3, _, w3⟩ := DataW.trod_int Try.underlying3 t3
    rw [List.cons.injEq] at k3
    rw [k3.1] at q3
    have b3 := wf_i64 w3
    exact ⟨b, off, rfl, World.block_lt_of_cell? _ _ q0, n0, z1, z2, z3, q0, q1, q2, q3, b0, b1, b2, b3⟩

/-! ### the walk -/
set_option maxRecDepth 100000
def isIn (f : Int) (k : Nat) : Bool := decide (0 ≤ f ∧ f < k)
set_option maxHeartbeats 40000000 in
theorem plays (n : Nat) (hn : n < 256) (a : Option Addr) (len cap0 : Nat) (w : World) (hacts : IsS46 w a len) (h60 : len ≤ 60) :
    Calls Try.prog 8 #[.int .u8 n, .slice a len cap0] w fun e w' => e = .returned (.bool true) ∧ Below w.heap.size w w' := by
  have t60 : ¬ (60 : Int) < (len : Int) := by omega
  have HACT := Lib.hid hacts.2
  have k9 : n % 9 < 9 := Nat.mod_lt _ (by omega)
  have ek : ((n : Int) % 9) = ((n % 9 : Nat) : Int) := by omega
  generalize n % 9 = k at *
  have HN := Lib.hid (fun W => new_mid (k := k) (by omega) W)
  have hm := make_rows k (by omega)
  have HRM := Lib.hid (fun W => RW.made W k 53)
  generalize madeCells zero4 (k * 4) = A at *
  clear hacts
  go_enter Try.func8, Try.ntmps8
  go_wp2_with fail
  refine (awake8_in _).mono ?_
  rintro e w1 ⟨rfl, b1⟩
  go_wp2_with fail
  refine (HN.out _).mono ?_
  intro e w2 h2
  obtain ⟨B, g, cap, rfl, q2⟩ := h2.own b1
  have HPI : Hid (PI w (w2.alloc (.cells A 53)) B g cap w2.heap.size k ((0 : Nat) : Int) law0 law0) :=
    Lib.hid ⟨q2.below (below_new _ _), HRM.out w2, q2.bel.size, by have := q2.bk.row.lt; omega, by have := q2.bk.lt; omega, fun p hp => ⟨by simp [law0, R4.zero], by simp [law0, R4.zero], fun h => by simp [law0, R4.zero] at h⟩⟩
  clear h2 q2 b1 HN HRM
  go_wp2_with fail
  generalize w2.alloc (.cells A 53) = V at *
  generalize w2.heap.size = h at *
  clear hm ek
  go_loopw [4, 8, 9, 10, 11, 12, 13, 14, 15, 16, 17, 18, 19] (fun _ i _ _ _ _ _ _ _ _ _ _ _ wr => ∃ (t : Nat) (L : Nat → R4), t ≤ len ∧ i = .int .i64 t ∧ PI w wr B g cap h k (t : Int) L L) (fun _ i _ _ _ _ _ _ _ _ _ _ _ _ => len - (intOf i).toNat)
  case atStart => exact ⟨0, _, by omega, rfl, HPI.out⟩
  case round =>
    as_aux_lemma =>
      clear HPI
      obtain ⟨t, L, ht, rfl, hP⟩ := hrel
      have HP := Lib.hid hP
      clear hP
      by_cases hlt : t < len
      · obtain ⟨b, off, rfl, hbl, K, Frame, N, Page, x0, x1, x2, x3, hK, hFrame, hN, hPage⟩ := (HACT.out) t hlt
        have hbw := (HP.out).own.bel
        have y0 := (hbw.cell (p := ⟨b, off + t * 4 + 0, none⟩) hbl).trans x0
        have y1 := (hbw.cell (p := ⟨b, off + t * 4 + 1, none⟩) hbl).trans x1
        have y2 := (hbw.cell (p := ⟨b, off + t * 4 + 2, none⟩) hbl).trans x2
        have y3 := (hbw.cell (p := ⟨b, off + t * 4 + 3, none⟩) hbl).trans x3
        rw [Nat.add_zero] at y0
        have hwl := hbw.size
        clear hbw x0 x1 x2 x3
        have x4 := l4_new wr (.int .u8 K) (.int .i64 Frame) (.int .i64 N) (.int .i64 Page) 51
        have HP4 := Lib.hid ((HP.out).below (below_new wr (.cells #[.int .u8 K, .int .i64 Frame, .int .i64 N, .int .i64 Page] 51)))
        have lB := (HP.out).own.bk.lt
        have lg := (HP.out).own.bk.row.lt
        have lh := (HP.out).row.lt
        go_upto_region 10 with fail
        clear y0 y1 y2 y3 HP
        generalize wr.alloc (.cells #[.int .u8 K, .int .i64 Frame, .int .i64 N, .int .i64 Page] 51) = U at *
        obtain ⟨X, hXe⟩ : ∃ X, wr.heap.size = X := ⟨_, rfl⟩
        rw [hXe] at x4 lB lg lh hwl
        rw [hXe]
        clear hXe
        obtain ⟨x0, x1, x2, x3, xl, xf⟩ := id x4
        obtain ⟨hb, hhb⟩ : ∃ b, isIn Frame k = b := ⟨_, rfl⟩
        have HHB := Lib.hid hhb
        clear hhb
        go_cut [10] from 39 to 233 (fun v wx => U = wx ∧ v = .bool hb)
        case first =>
          as_aux_lemma =>
            --BEGIN P1
            by_cases c1 : 0 ≤ Frame
            · by_cases c2 : Frame < k
              · obtain rfl : hb = true := by rw [← HHB.out]; exact decide_eq_true ⟨c1, c2⟩
                go_wp2
                go_meet
                exact ⟨rfl, rfl⟩
              · obtain rfl : hb = false := by rw [← HHB.out]; exact decide_eq_false (fun h => c2 h.2)
                go_wp2
                go_meet
                exact ⟨rfl, rfl⟩
            · obtain rfl : hb = false := by rw [← HHB.out]; exact decide_eq_false (fun h => c1 h.1)
              go_wp2
              go_meet
              exact ⟨rfl, rfl⟩
            --END P1
        case rest =>
          as_aux_lemma =>
            obtain ⟨rfl, rfl⟩ := hcut
            obtain ⟨vb, hvb⟩ : ∃ b, isIn N 6 = b := ⟨_, rfl⟩
            have HVB := Lib.hid hvb
            clear hvb
            go_upto_region 11 with fail
            go_cut [11] from 39 to 233 (fun v wx => U = wx ∧ v = .bool vb)
            case first =>
              as_aux_lemma =>
                --BEGIN P2
                by_cases c1 : 0 ≤ N
                · by_cases c2 : N < 6
                  · obtain rfl : vb = true := by rw [← HVB.out]; exact decide_eq_true ⟨c1, c2⟩
                    go_wp2
                    go_meet
                    exact ⟨rfl, rfl⟩
                  · obtain rfl : vb = false := by rw [← HVB.out]; exact decide_eq_false (fun h => c2 h.2)
                    go_wp2
                    go_meet
                    exact ⟨rfl, rfl⟩
                · obtain rfl : vb = false := by rw [← HVB.out]; exact decide_eq_false (fun h => c1 h.1)
                  go_wp2
                  go_meet
                  exact ⟨rfl, rfl⟩
                --END P2
            case rest =>
              as_aux_lemma =>
                obtain ⟨rfl, rfl⟩ := hcut
                obtain ⟨R, hR⟩ : ∃ R, (if hb then L Frame.toNat else R4.zero) = R := ⟨_, rfl⟩
                have HR := Lib.hid hR
                clear hR
                have HP5 := Lib.hid ((HP4.out).below (below_new U (.cells #[.int .u8 (R.k : Nat), .int .i64 R.vm, .int .i64 R.pg, .int .i64 R.sh] 53)))
                have lU := (HP4.out).own.bel.size
                have r4 := l4_new U (.int .u8 (R.k : Nat)) (.int .i64 R.vm) (.int .i64 R.pg) (.int .i64 R.sh) 53
                have x5 := x4.later (below_new U (.cells #[.int .u8 (R.k : Nat), .int .i64 R.vm, .int .i64 R.pg, .int .i64 R.sh] 53))
                obtain ⟨xz0, xz1, xz2, xz3, xzl, xzf⟩ := x4.later (below_new U (.cells #[.int .u8 0, .int .i64 0, .int .i64 0, .int .i64 0] 53))
                clear x4 x0 x1 x2 x3
                have lXU : X < U.heap.size := xl
                go_upto_if 67 with fail
                go_cut [12] from 39 to 233 (fun p wx => p = .pointer (some ⟨U.heap.size, 0, none⟩) ∧ U.alloc (.cells #[.int .u8 (R.k : Nat), .int .i64 R.vm, .int .i64 R.pg, .int .i64 R.sh] 53) = wx)
                case first =>
                  as_aux_lemma =>
                    --BEGIN P3
                    cases hb
                    · obtain rfl : R4.zero = R := by have := HR.out; simpa using this
                      go_wp2
                      go_meet
                      exact ⟨rfl, rfl⟩
                    · have hin := of_decide_eq_true HHB.out
                      obtain ⟨p, rfl⟩ := Int.eq_ofNat_of_zero_le hin.1
                      have hp : p < k := by have := hin.2; omega
                      have hp1 : (p : Int) < (k : Int) := by omega
                      obtain rfl : L p = R := by have := HR.out; simpa using this
                      have hrr := ((HP4.out).below (below_new U (.cells #[.int .u8 0, .int .i64 0, .int .i64 0, .int .i64 0] 53))).row
                      have d0 := hrr.c0 p hp
                      have d1 := hrr.c1 p hp
                      have d2 := hrr.c2 p hp
                      have d3 := hrr.c3 p hp
                      clear hrr hin
                      go_wp2
                      go_meet
                      exact ⟨rfl, rfl⟩
                    --END P3
                case rest =>
                  as_aux_lemma =>
                    obtain ⟨rfl, rfl⟩ := hcut
                    clear xz0 xz1 xz2 xz3 xzl xzf xl xf
                    obtain ⟨Y, hY⟩ : ∃ Y, U.heap.size = Y := ⟨_, rfl⟩
                    rw [hY] at r4 lU
                    rw [hY]
                    have lXY : X < Y := by omega
                    generalize U.alloc (.cells #[.int .u8 (R.k : Nat), .int .i64 R.vm, .int .i64 R.pg, .int .i64 R.sh] 53) = U5 at *
                    obtain ⟨x0, x1, x2, x3, xl, xf⟩ := id x5
                    obtain ⟨r0, r1, r2, r3, rl, rf⟩ := id r4
                    obtain ⟨mb, hmb⟩ : ∃ b, (decide (R.k = 3 ∧ R.vm = N)) = b := ⟨_, rfl⟩
                    go_upto_region 15 with fail
                    go_cut [13] from 39 to 233 (fun v wx => U5 = wx ∧ v = .bool mb)
                    case first =>
                      as_aux_lemma =>
                        --BEGIN P4
                        by_cases c1 : R.k = 3
                        · have t1 : ((R.k : Int) == 3) = true := by simp; omega
                          by_cases c2 : R.vm = N
                          · have t2 : (R.vm == N) = true := by simpa using c2
                            obtain rfl : mb = true := by rw [← hmb]; exact decide_eq_true ⟨c1, c2⟩
                            clear c1 c2
                            go_wp2
                            go_meet
                            exact ⟨rfl, rfl⟩
                          · have t2 : (R.vm == N) = false := by simpa using c2
                            obtain rfl : mb = false := by rw [← hmb]; exact decide_eq_false (fun h => c2 h.2)
                            clear c1 c2
                            go_wp2
                            go_meet
                            exact ⟨rfl, rfl⟩
                        · have t1 : ((R.k : Int) == 3) = false := by simp; omega
                          obtain rfl : mb = false := by rw [← hmb]; exact decide_eq_false (fun h => c1 h.1)
                          clear c1
                          go_wp2
                          go_meet
                          exact ⟨rfl, rfl⟩
                        --END P4
                    case rest =>
                      as_aux_lemma =>
                        obtain ⟨rfl, rfl⟩ := hcut
                        have HMB := Lib.hid hmb
                        clear hmb
                        have HP6 := Lib.hid ((HP5.out).below (below_new U5 (.cells #[.int .u8 (R.k : Nat), .int .i64 R.vm, .int .i64 R.pg, .int .i64 R.sh] 53)))
                        have z6 := l4_new U5 (.int .u8 (R.k : Nat)) (.int .i64 R.vm) (.int .i64 R.pg) (.int .i64 R.sh) 53
                        have x6 := x5.later (below_new U5 (.cells #[.int .u8 (R.k : Nat), .int .i64 R.vm, .int .i64 R.pg, .int .i64 R.sh] 53))
                        have r6 := r4.later (below_new U5 (.cells #[.int .u8 (R.k : Nat), .int .i64 R.vm, .int .i64 R.pg, .int .i64 R.sh] 53))
                        go_upto_region 19 with fail
                        clear x5 r4 x0 x1 x2 x3 xl xf r0 r1 r2 r3 rf
                        obtain ⟨Z, hZ⟩ : ∃ Z, U5.heap.size = Z := ⟨_, rfl⟩
                        rw [hZ] at z6 rl
                        rw [hZ]
                        clear hZ HP4 HP5
                        generalize U5.alloc (.cells #[.int .u8 (R.k : Nat), .int .i64 R.vm, .int .i64 R.pg, .int .i64 R.sh] 53) = U6 at *
                        have hLs : ∀ p, p < k → 0 ≤ (L p).sh ∧ (L p).sh ≤ t ∧ ((L p).k = 3 → 0 ≤ (L p).vm ∧ (L p).vm < 6) := (HP6.out).inv
                        have hRR : 0 ≤ R.sh ∧ R.sh ≤ t ∧ (R.k = 3 → 0 ≤ R.vm ∧ R.vm < 6) := by
                          have hr := HR.out
                          cases hb
                          · have hRz : R4.zero = R := by simpa using hr
                            rw [← hRz]; exact ⟨by decide, by simp [R4.zero], fun h => by cases h⟩
                          · have hin := of_decide_eq_true HHB.out
                            obtain ⟨p, rfl⟩ := Int.eq_ofNat_of_zero_le hin.1
                            have hRz : L p = R := by simpa using hr
                            obtain ⟨a1, a2, a3⟩ := hLs p (by have := hin.2; omega)
                            rw [hRz] at a1 a2 a3
                            exact ⟨a1, a2, a3⟩
                        clear hLs
                        obtain ⟨x0, x1, x2, x3, xl, xf⟩ := id x6
                        obtain ⟨r0, r1, r2, r3, rl6, rf⟩ := id r6
                        obtain ⟨z0, z1, z2, z3, zl, zf⟩ := id z6
                        have s0 : 0 ≤ R.sh := hRR.1
                        have hst : R.sh ≤ (t : Int) := hRR.2.1
                        have s1 : R.sh ≤ 60 := by omega
                        have hinv : R.k = 3 → 0 ≤ R.vm ∧ R.vm < 6 := hRR.2.2
                        have HINV := Lib.hid hinv
                        clear hinv hRR
                        go_upto_block 2 with fail
                        go_cut [14, 15] from 39 to 233 (fun e v wx => SwR w wx B g cap h k (t : Int) L hb Frame X Z (.int .u8 K) (.int .i64 Frame) (.int .i64 N) (.int .i64 Page) e v)
                        case first =>
                          as_aux_lemma =>
                            cases hb
                            · have hnin : ¬ (0 ≤ Frame ∧ Frame < k) := of_decide_eq_false HHB.out
                              have hRz : R4.zero = R := by have := HR.out; simpa using this
                              have c1 : ((R.k : Int) == 0) = true := by rw [← hRz]; rfl
                              have c2 : ((R.k : Int) != 0) = false := by rw [← hRz]; rfl
                              have c3 : ((R.k : Int) == 3) = false := by rw [← hRz]; rfl
                              obtain rfl : mb = false := by rw [← HMB.out, ← hRz]; rfl
                              clear hRz
                              --BEGIN NH
                              have hm : K % 7 < 2 ∨ K % 7 = 2 ∨ K % 7 = 3 ∨ K % 7 = 4 ∨ K % 7 = 5 ∨ K % 7 = 6 := by omega
                              rcases hm with hm | hm | hm | hm | hm | hm
                              · cases vb
                                · exact sw01 HP6 x6 r6 z6 hwl lB lg lh lXY rl s0 s1 hst hK (by omega) hm hnin c1 c2 c3 (by assumption) (by assumption)
                                · exact sw02 HP6 x6 r6 z6 hwl lB lg lh lXY rl s0 s1 hst hK (by omega) hm hnin c1 c2 c3 (by assumption) (by assumption)
                              · by_cases d0 : N < 0
                                · exact sw03 HP6 x6 r6 z6 hwl lB lg lh lXY rl s0 s1 hst hK (by omega) hm hnin c1 c2 c3 d0 (by assumption) (by assumption)
                                · exact sw04 HP6 x6 r6 z6 hwl lB lg lh lXY rl s0 s1 hst hK (by omega) hm hnin c1 c2 c3 d0 (by assumption) (by assumption)
                              · exact sw05 HP6 x6 r6 z6 hwl lB lg lh lXY rl s0 s1 hst hK (by omega) hm hnin c1 c2 c3 (by assumption) (by assumption)
                              · exact sw06 HP6 x6 r6 z6 hwl lB lg lh lXY rl s0 s1 hst hK (by omega) hm hnin c1 c2 c3 (by assumption) (by assumption)
                              · exact sw07 HP6 x6 r6 z6 hwl lB lg lh lXY rl s0 s1 hst hK (by omega) hm hnin c1 c2 c3 (by assumption) (by assumption)
                              · exact sw08 HP6 x6 r6 z6 hwl lB lg lh lXY rl s0 s1 hst hK (by omega) hm hnin c1 c2 c3 (by assumption) (by assumption)
                              --END NH
                            · have hin := of_decide_eq_true HHB.out
                              obtain ⟨p, rfl⟩ := Int.eq_ofNat_of_zero_le hin.1
                              have hp : p < k := by have := hin.2; omega
                              have HRp : Hid (L p = R) := Lib.hid (by have := HR.out; simpa using this)
                              have hinv := HINV.out
                              clear hin
                              --BEGIN YES
                              have hm : K % 7 < 2 ∨ K % 7 = 2 ∨ K % 7 = 3 ∨ K % 7 = 4 ∨ K % 7 = 5 ∨ K % 7 = 6 := by omega
                              rcases hm with hm | hm | hm | hm | hm | hm
                              · by_cases hgood : (0 ≤ N ∧ N < 6) ∧ 0 ≤ Page ∧ Page < 32
                                · obtain rfl : vb = true := by rw [← HVB.out]; exact decide_eq_true hgood.1
                                  by_cases h0 : R.k = 0
                                  · exact sw09 HP6 x6 r6 z6 hwl lB lg lh lXY rl s0 s1 hst hK (by omega) hm hp HRp hgood h0 (by assumption) (by assumption)
                                  · exact sw10 HP6 x6 r6 z6 hwl lB lg lh lXY rl s0 s1 hst hK (by omega) hm hp HRp hgood h0 (by assumption) (by assumption)
                                · by_cases hv : 0 ≤ N ∧ N < 6
                                  · obtain rfl : vb = true := by rw [← HVB.out]; exact decide_eq_true hv
                                    by_cases p0 : Page < 0
                                    · exact sw11 HP6 x6 r6 z6 hwl lB lg lh lXY rl s0 s1 hst hK (by omega) hm hp HRp hgood p0 (by assumption) (by assumption)
                                    · have p1 : 31 < Page := by omega
                                      exact sw12 HP6 x6 r6 z6 hwl lB lg lh lXY rl s0 s1 hst hK (by omega) hm hp HRp hgood p0 p1 (by assumption) (by assumption)
                                  · obtain rfl : vb = false := by rw [← HVB.out]; exact decide_eq_false hv
                                    exact sw13 HP6 x6 r6 z6 hwl lB lg lh lXY rl s0 s1 hst hK (by omega) hm hp HRp hgood (by assumption) (by assumption)
                              · by_cases n6 : 6 ≤ N
                                · exact sw14 HP6 x6 r6 z6 hwl lB lg lh lXY rl s0 s1 hst hK (by omega) hm hp HRp n6 (by assumption) (by assumption)
                                · have n7 : N < 6 := by omega
                                  by_cases h0 : R.k = 0
                                  · by_cases d0 : N < 0
                                    · exact sw15 HP6 x6 r6 z6 hwl lB lg lh lXY rl s0 s1 hst hK (by omega) hm hp HRp d0 n7 h0 (by assumption) (by assumption)
                                    · exact sw16 HP6 x6 r6 z6 hwl lB lg lh lXY rl s0 s1 hst hK (by omega) hm hp HRp d0 n7 h0 (by assumption) (by assumption)
                                  · by_cases d0 : N < 0
                                    · exact sw17 HP6 x6 r6 z6 hwl lB lg lh lXY rl s0 s1 hst hK (by omega) hm hp HRp d0 n7 h0 (by assumption) (by assumption)
                                    · exact sw18 HP6 x6 r6 z6 hwl lB lg lh lXY rl s0 s1 hst hK (by omega) hm hp HRp d0 n7 h0 (by assumption) (by assumption)
                              · cases mb
                                · have hnot := of_decide_eq_false HMB.out
                                  exact sw19 HP6 x6 r6 z6 hwl lB lg lh lXY rl s0 s1 hst hK (by omega) hm hp HRp hnot (by assumption) (by assumption)
                                · have hmine := of_decide_eq_true HMB.out
                                  have hv6 := hinv hmine.1
                                  exact sw20 HP6 x6 r6 z6 hwl lB lg lh lXY rl s0 s1 hst hK (by omega) hm hp HRp hmine hv6 (by assumption) (by assumption)
                              · cases mb
                                · have hnot := of_decide_eq_false HMB.out
                                  exact sw21 HP6 x6 r6 z6 hwl lB lg lh lXY rl s0 s1 hst hK (by omega) hm hp HRp hnot (by assumption) (by assumption)
                                · have hmine := of_decide_eq_true HMB.out
                                  have hv6 := hinv hmine.1
                                  by_cases hs : R.sh = 0
                                  · exact sw22 HP6 x6 r6 z6 hwl lB lg lh lXY rl s0 s1 hst hK (by omega) hm hp HRp hmine hv6 hs (by assumption) (by assumption)
                                  · exact sw23 HP6 x6 r6 z6 hwl lB lg lh lXY rl s0 s1 hst hK (by omega) hm hp HRp hmine hv6 hs (by assumption) (by assumption)
                              · cases mb
                                · have hnot := of_decide_eq_false HMB.out
                                  exact sw24 HP6 x6 r6 z6 hwl lB lg lh lXY rl s0 s1 hst hK (by omega) hm hp HRp hnot (by assumption) (by assumption)
                                · have hmine := of_decide_eq_true HMB.out
                                  have hv6 := hinv hmine.1
                                  by_cases hs : 0 < R.sh
                                  · exact sw25 HP6 x6 r6 z6 hwl lB lg lh lXY rl s0 s1 hst hK (by omega) hm hp HRp hmine hv6 hs (by assumption) (by assumption)
                                  · exact sw26 HP6 x6 r6 z6 hwl lB lg lh lXY rl s0 s1 hst hK (by omega) hm hp HRp hmine hv6 hs (by assumption) (by assumption)
                              · by_cases h3 : R.k = 3
                                · exact sw27 HP6 x6 r6 z6 hwl lB lg lh lXY rl s0 s1 hst hK (by omega) hm hp HRp h3 (by assumption) (by assumption)
                                · by_cases h0 : R.k = 0
                                  · exact sw28 HP6 x6 r6 z6 hwl lB lg lh lXY rl s0 s1 hst hK (by omega) hm hp HRp h3 h0 (by assumption) (by assumption)
                                  · exact sw29 HP6 x6 r6 z6 hwl lB lg lh lXY rl s0 s1 hst hK (by omega) hm hp HRp h3 h0 (by assumption) (by assumption)
                              --END YES
                        case rest =>
                          as_aux_lemma =>
                            --BEGIN REST
                            obtain ⟨err, wnt, nx, M, rfl, rfl, he1, he2, hat, hxx, hPI, hor⟩ := hcut
                            have HE1 := Lib.hid (And.intro he1 he2)
                            have HOR := Lib.hid hor
                            have HP8 := Lib.hid hPI
                            have HAT := Lib.hid hat
                            have HXX := Lib.hid hxx
                            clear he1 he2 hor hPI hat hxx HP6 x6 r6 z6 x0 x1 x2 x3 xl xf r0 r1 r2 r3 rl6 rf z0 z1 z2 z3 zl zf HR HMB HINV s0 s1 hst
                            go_upto_if 202 with fail
                            go_cut [15] from 39 to 233 (fun v wy => wc = wy ∧ v = .int .i64 err)
                            case first =>
                              as_aux_lemma =>
                                cases hb
                                · obtain rfl : err = 1 := (HE1.out).2 rfl
                                  go_wp2
                                  go_meet
                                  exact ⟨rfl, rfl⟩
                                · obtain rfl : err = wnt := (HE1.out).1 rfl
                                  go_wp2
                                  go_meet
                                  exact ⟨rfl, rfl⟩
                            case rest =>
                              as_aux_lemma =>
                                obtain ⟨rfl, rfl⟩ := hcut
                                go_upto_if 207 with fail
                                go_cut [16] from 39 to 233 (fun _ wx => ∃ L', PI w wx B g cap h k ((t + 1 : Nat) : Int) L' L')
                                case first =>
                                  as_aux_lemma =>
                                    --BEGIN R1
                                    rcases HOR.out with ⟨rfl, rfl, hM⟩ | ⟨hne, hM⟩
                                    · have hin := of_decide_eq_true HHB.out
                                      obtain ⟨p, rfl⟩ := Int.eq_ofNat_of_zero_le hin.1
                                      have hp : p < k := by have := hin.2; omega
                                      have hp1 : (p : Int) < (k : Int) := by omega
                                      rw [Int.toNat_natCast] at hM
                                      have HPN : Hid (PI w (put4 wc h p nx) B g cap h k ((t + 1 : Nat) : Int) M M) := Lib.hid (by have := (HP8.out).list p hp nx; rw [← hM] at this; exact this)
                                      have hrr := (HP8.out).row
                                      have d0 := hrr.c0 p hp
                                      have d1 := hrr.c1 p hp
                                      have d2 := hrr.c2 p hp
                                      have d3 := hrr.c3 p hp
                                      have df := hrr.fz
                                      obtain ⟨z0, z1, z2, z3, zl, zf⟩ := HAT.out
                                      obtain ⟨x0, x1, x2, x3, xl, xf⟩ := HXX.out
                                      clear hrr hin hM HOR HP8 HAT HXX HE1
                                      go_wp2
                                      go_meet
                                      exact ⟨M, HPN.out⟩
                                    · have HM := Lib.hid hM
                                      have t1 : (err == 0) = false := by simpa using hne
                                      clear hM hne HOR
                                      go_wp2
                                      go_meet
                                      exact ⟨L, by rw [HM.out] at HP8; exact HP8.out⟩
                                    --END R1
                                case rest =>
                                  as_aux_lemma =>
                                    obtain ⟨L', hP9⟩ := hcut
                                    have HP9 := Lib.hid hP9
                                    clear hP9 HOR HP8 HAT HXX HE1 HHB HVB
                                    go_wp2_with fail
                                    go_loopw [4, 17, 18, 19] (fun _ i _ _ wr => ∃ q : Nat, q ≤ k ∧ i = .int .i64 q ∧ PI w wr B g cap h k ((t + 1 : Nat) : Int) L' L') (fun _ i _ _ _ => k - (intOf i).toNat)
                                    case atStart => exact ⟨0, by omega, rfl, HP9.out⟩
                                    case round =>
                                      as_aux_lemma =>
                                        --BEGIN R2
                                        clear HP9
                                        obtain ⟨q, hq, rfl, hPa⟩ := hrel
                                        have HPa := Lib.hid hPa
                                        clear hPa
                                        by_cases hqk : q < k
                                        · have q1 : (q : Int) < (k : Int) := by omega
                                          have HG := Lib.hid (get_yes (HPa.out).own.bk q hqk)
                                          unfold R4.agg at HG
                                          obtain ⟨⟨qk, qv, qp, qs⟩, hL⟩ : ∃ r, L' q = r := ⟨_, rfl⟩
                                          rw [hL] at HG
                                          simp only at HG
                                          go_wp2_with fail
                                          refine (HG.out).mono ?_
                                          rintro e wb ⟨rfl, bb⟩
                                          have bc := below_up bb (below_new wb (.cells #[.int .u8 (qk : Nat), .int .i64 qv, .int .i64 qp, .int .i64 qs] 53))
                                          have HPc := Lib.hid ((HPa.out).below bc)
                                          obtain ⟨e0, e1, e2, e3, el, ef⟩ := l4_new wb (.int .u8 (qk : Nat)) (.int .i64 qv) (.int .i64 qp) (.int .i64 qs) 53
                                          have hrr := (HPc.out).row
                                          have d0 := hrr.c0 q hqk
                                          have d1 := hrr.c1 q hqk
                                          have d2 := hrr.c2 q hqk
                                          have d3 := hrr.c3 q hqk
                                          rw [hL] at d0 d1 d2 d3
                                          simp only at d0 d1 d2 d3
                                          clear hL bb bc hrr HG HPa
                                          dsimp only
                                          go_wp2_with fail
                                          generalize wb.alloc (.cells #[.int .u8 (qk : Nat), .int .i64 qv, .int .i64 qp, .int .i64 qs] 53) = wc at *
                                          generalize wb.heap.size = E at *
                                          go_quiet (fail)
                                          go_wp2
                                          go_roundw
                                          case rel => exact ⟨q + 1, by omega, by go_num, (HPc.out).below (below_draws (Below.refl _ _) _)⟩
                                          case measure => simp [intOf]; omega
                                        · have q1 : ¬ (q : Int) < (k : Int) := by omega
                                          go_wp2
                                          go_roundw
                                          case rel => exact ⟨t + 1, L', by omega, by go_num, HPa.out⟩
                                          case measure => simp [intOf]; omega
                                        --END R2
                            --END REST
      · --BEGIN END
        have t1 : ¬ (t : Int) < (len : Int) := by omega
        as_aux_lemma =>
          clear HACT
          go_wp2_with fail
          go_loopw [4, 20, 21, 22, 23] (fun _ i _ _ _ wr => ∃ q : Nat, q ≤ 4 ∧ i = .int .u8 q ∧ PI w wr B g cap h k (t : Int) L L) (fun _ i _ _ _ _ => 4 - (intOf i).toNat)
          case atStart => exact ⟨0, by omega, rfl, HP.out⟩
          case round =>
            as_aux_lemma =>
              clear HP
              obtain ⟨kd, hkd, rfl, hP1⟩ := hrel
              have HP1 := Lib.hid hP1
              clear hP1
              by_cases hk4 : kd < 4
              · have q1 : (kd : Int) < 4 := by omega
                go_wp2_with fail
                go_loopw [4, 21, 22, 23] (fun _ i _ _ wr => ∃ q : Nat, q ≤ 6 ∧ i = .int .i64 q ∧ PI w wr B g cap h k (t : Int) L L) (fun _ i _ _ _ => 6 - (intOf i).toNat)
                case atStart => exact ⟨0, by omega, rfl, HP1.out⟩
                case round =>
                  as_aux_lemma =>
                    clear HP1
                    obtain ⟨vm, hvm, rfl, hP2⟩ := hrel
                    have HP2 := Lib.hid hP2
                    clear hP2
                    by_cases hv6 : vm < 6
                    · have q2 : (vm : Int) < 6 := by omega
                      go_wp2_with fail
                      go_loopw [22, 23] (fun c i wz => wr = wz ∧ ∃ q : Nat, q ≤ k ∧ i = .int .i64 q ∧ c = .int .i64 (cntR L kd vm q : Nat)) (fun _ i _ => k - (intOf i).toNat)
                      case atStart => exact ⟨rfl, 0, by omega, rfl, rfl⟩
                      case round =>
                        as_aux_lemma =>
                          obtain ⟨rfl, q, hq, rfl, hc⟩ := hrel
                          have hle := cntR_le L kd vm q
                          obtain ⟨cc, hcc⟩ : ∃ cc, cntR L kd vm q = cc := ⟨_, rfl⟩
                          rw [hcc] at hc hle
                          subst hc
                          have HCC := Lib.hid hcc
                          clear hcc
                          by_cases hqk : q < k
                          · have q3 : (q : Int) < (k : Int) := by omega
                            have hrr := (HP2.out).row
                            have d0 := hrr.c0 q hqk
                            have d1 := hrr.c1 q hqk
                            obtain ⟨⟨qk, qv, qp, qs⟩, hL⟩ : ∃ r, L q = r := ⟨_, rfl⟩
                            rw [hL] at d0 d1
                            simp only at d0 d1
                            by_cases h1 : qk = kd
                            · have t2 : ((qk : Int) == (kd : Int)) = true := by simp; omega
                              by_cases h2 : kd < 2
                              · have t3 : (kd : Int) < 2 := by omega
                                have HY := Lib.hid (cntR_yes L kd vm q (by rw [hL]; simp [hit, h1]; omega))
                                clear hL hrr h1
                                go_wp2
                                go_roundw
                                case rel => exact ⟨trivial, q + 1, by omega, by go_num, by rw [HY.out, HCC.out]; go_num⟩
                                case measure => simp [intOf]; omega
                              · have t3 : ¬ (kd : Int) < 2 := by omega
                                by_cases h3 : qv = (vm : Int)
                                · have t4 : (qv == (vm : Int)) = true := by simpa using h3
                                  have HY := Lib.hid (cntR_yes L kd vm q (by rw [hL]; simp [hit, h1, h3]))
                                  clear hL hrr h1 h3
                                  go_wp2
                                  go_roundw
                                  case rel => exact ⟨trivial, q + 1, by omega, by go_num, by rw [HY.out, HCC.out]; go_num⟩
                                  case measure => simp [intOf]; omega
                                · have t4 : (qv == (vm : Int)) = false := by simpa using h3
                                  have HY := Lib.hid (cntR_no L kd vm q (by rw [hL]; simp [hit, h3]; omega))
                                  clear hL hrr h1 h3
                                  go_wp2
                                  go_roundw
                                  case rel => exact ⟨trivial, q + 1, by omega, by go_num, by rw [HY.out, HCC.out]⟩
                                  case measure => simp [intOf]; omega
                            · have t2 : ((qk : Int) == (kd : Int)) = false := by simp; omega
                              have HY := Lib.hid (cntR_no L kd vm q (by rw [hL]; simp [hit, h1]))
                              clear hL hrr h1
                              go_wp2
                              go_roundw
                              case rel => exact ⟨trivial, q + 1, by omega, by go_num, by rw [HY.out, HCC.out]⟩
                              case measure => simp [intOf]; omega
                          · have q3 : ¬ (q : Int) < (k : Int) := by omega
                            obtain rfl : q = k := by omega
                            have hct := count_in (HP2.out).own.bk kd (vm : Int)
                            rw [HCC.out] at hct
                            have HCT := Lib.hid hct
                            clear hct
                            go_wp2_with fail
                            refine (HCT.out).mono ?_
                            rintro e wd ⟨rfl, bd⟩
                            have HP3 := Lib.hid ((HP2.out).below bd)
                            clear bd HCT
                            dsimp only
                            go_wp2
                            go_roundw
                            case rel => exact ⟨vm + 1, by omega, by go_num, HP3.out⟩
                            case measure => simp [intOf]; omega
                    · have q2 : ¬ (vm : Int) < 6 := by omega
                      go_wp2
                      go_roundw
                      case rel => exact ⟨kd + 1, by omega, by go_num, HP2.out⟩
                      case measure => simp [intOf]; omega
              · have q1 : ¬ (kd : Int) < 4 := by omega
                go_wp2
                go_ret
                exact ⟨rfl, (HP1.out).own.bel⟩
        --END END
theorem walk (p_n : Nat) (hp_n : p_n < 256) (p_acts : Option Addr) (p_acts_len p_acts_cap : Nat) (w : World) (hp_acts : IsS46 w p_acts p_acts_len) :
    Calls Try.prog 8 #[.int .u8 p_n, .slice p_acts p_acts_len p_acts_cap] w fun e w' => e = .returned (.bool true) ∧ Below w.heap.size w w' := by
  by_cases h60 : p_acts_len ≤ 60
  · exact plays p_n hp_n p_acts p_acts_len p_acts_cap w hp_acts h60
  · have t60 : (60 : Int) < (p_acts_len : Int) := by omega
    clear hp_acts
    go_enter Try.func8, Try.ntmps8
    go_wp2_with fail
    refine (awake8_in _).mono ?_
    rintro e w1 ⟨rfl, b1⟩
    go_wp2_with fail
    refine (awake8_in _).mono ?_
    rintro e w2 ⟨rfl, b2⟩
    go_wp2
    go_ret
    exact ⟨rfl, below_up b1 b2⟩

/-! ### the row's step -/
set_option maxRecDepth 100000 in
theorem lifted (os : Os) (started : os.Started) (H : Type) (enc : TypeId × Value → H) :
    ReturnsInHanded {} Try.checked os 8 .any (Rows.ownerPlaysSpec.pre6 enc Try.prog Try.f8 Rows.ownerPlaysRow.domain false) (Rows.ownerPlaysSpec.post enc Try.prog Try.f8 false true false false) := by
  refine returnsInHanded_of_change (C := Try.checked) own started (by kernel_rfl) Try.func8
    (ChangeSpec.witness6 (enc := enc) (C := Try.checked) false ⟨#[], #[.int .u8 0, .slice none 0 0], []⟩ 8 (by kernel_rfl) (by kernel_rfl) (by kernel_rfl) (by kernel_rfl)) ?_
  intro W base args ds gs before hval0 hW hcnd _
  have hval : ∀ (j : Nat) t v, Try.f8.params[j]? = some t → args[j]? = some v → Value.okWide Try.prog W .any base t v := hval0
  have hW' := hW
  obtain ⟨p, q, hA0, hV, rfl, hfz, hnd⟩ := hW
  have hA : DataW.TrodAll enc Try.prog W 0 (fun _ => true) true Try.f8.params.toList args.toList ds p := hA0
  rw [Try.params8] at hA hval
  obtain ⟨v0, vs0, d0, ds0, p0, q0, hargs, rfl, rfl, h0, r0⟩ := trodAll_cons hA
  obtain ⟨v1, vs1, d1, ds1, p1, q1, rfl, rfl, rfl, h1, r1⟩ := trodAll_cons r0
  obtain ⟨rfl, rfl, rfl⟩ := trodAll_nil r1
  obtain rfl : args = #[v0, v1] := by cases args; simp_all
  obtain ⟨rfl, rfl⟩ := trodVars_none hV
  obtain ⟨a0, rfl, rfl, rfl, w0⟩ := open_int Try.underlying5 (hval 0 5 v0 rfl rfl) h0
  obtain ⟨n0, rfl, b0⟩ := wf_u8 w0
  obtain ⟨a1, len1, cap1, rfl⟩ := okWide_slice Try.underlying46 (hval 1 46 v1 rfl rfl)
  have k1 := h1
  have lt1 : ∀ x ∈ p1, x.block < W.heap.size := by obtain ⟨m, hm⟩ := k1; exact DataW.trod_lt m _ _ _ hm
  have w1 := openS46 h1
  clear hA0 hval0
  refine (walk n0 b0 a1 len1 cap1 W w1).mono fun e W' ⟨he, bel⟩ => ?_
  subst he
  exact ⟨_, rfl, _, _, _, [], _, [], hW', trodAll_mk1 (shut_bool Try.underlying4 _), (trodAll_cons_mk (shut_int Try.underlying5 w0) (trodAll_cons_mk (Below.trod laidOut (by kernel_rfl) (of_decide_eq_true (by kernel_rfl)) k1 bel lt1) trodAll_mk0)), rfl, bel.frame _, fun h => by cases h⟩

theorem over : Rows.ownerPlaysRow.holds Try.pinned (OpenSpec.ofChange Rows.ownerPlaysSpec) :=
  OpenClaim.holds_of_wide 8 Try.f8 rfl rfl rfl rfl rfl rfl rfl ⟨rfl, rfl, rfl, rfl, rfl⟩ rfl rfl rfl rfl rfl (by kernel_rfl) Try.func8 (by kernel_rfl)
    (of_decide_eq_true (by kernel_rfl)) (by unfold Func.isWrapper; first | (rw [if_pos (by decide +kernel)]; kernel_rfl) | (rw [if_neg (by decide +kernel)]; exact ⟨rfl, rfl⟩))
    (fun os started H enc _ => lifted os started H enc)

/-- THE STATEMENT -/
theorem proved : Rows.OwnerPlaysSaid := over
#print axioms proved
end Go.Proofs.Ytjidhmdphlmldaa.ownerPlays
