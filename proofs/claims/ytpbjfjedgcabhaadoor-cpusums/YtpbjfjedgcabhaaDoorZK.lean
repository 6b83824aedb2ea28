/-
  cpu.do: one instruction that may be.
-/
import Derived.Test.YtpbjfjedgcabhaaDoorZJ
namespace Go.Proofs.YtpbjfjedgcabhaaDoor
open Go.ChangeShapes Go.WideShapes Go.ChangeAt Go.RowKit
open WM CM
set_option maxRecDepth 100000
set_option linter.unusedVariables false

theorem Aft.later {w W w4 : World} {B : Nat} {L : Ly} {m m' : MV} {t : SV} {R : Nat} (hM : Mm w L m) (hB : B < w.heap.size) (hb : Below w.heap.size w W) (h : Aft W B L m t m' w4) (hhe : m'.he = m.he) (hR : w.heap.size ≤ R) (a b : Value) :
    Aft w B L m t m' ((w4.setCell ⟨R, 0, none⟩ a).setCell ⟨R, 1, none⟩ b) := by
  have hq : ∀ i, i < 32 → m'.he i = true → L.bk i ≠ R := fun i hi hh e => by have := hM.bl i hi (by rw [← hhe]; exact hh); omega
  have hl := hM.lt
  refine ⟨(h.ls.kept (grown_setCellS w4 ⟨R, 0, none⟩ a) (by simp; omega)).kept (grown_setCellS _ ⟨R, 1, none⟩ b) (by simp; omega), (h.mm.kept (grown_setCellS w4 ⟨R, 0, none⟩ a) (by show R ≠ L.M; omega) hq).kept (grown_setCellS _ ⟨R, 1, none⟩ b) (by show R ≠ L.M; omega) hq, ?_⟩
  have t1 : Trn (fun i => i = B ∨ pgS L m i) w w4 := (Trn.below hb).trans h.tr
  refine ⟨t1.os, t1.tape, t1.output, by simpa [World.setCell] using t1.size, fun i hi hs => ?_⟩
  rw [Below.heap_setCell _ ⟨R, 1, none⟩ b i (by simp; omega), Below.heap_setCell _ ⟨R, 0, none⟩ a i (by simp; omega)]
  exact t1.block i hi hs
theorem ldO {w : World} {N c a b d : Nat} {n : Int} (h : Lies w N c a b d n) : (loadVar 74 ⟨N, 0, none⟩).run Tryd.prog w = .ok (opV c a b d n) w := load5 w N _ _ _ _ _ h.k0 h.k1 h.k2 h.k3 h.k4
/-- As EC, and that nothing but the seat has turned since W. -/
def EC2 (w W : World) (B : Nat) (S : Nat → SV) (N c a b d : Nat) (n : Int) (R : Nat) (k : Nat) (w' : World) : Prop := EC w B S N c a b d n R k w' ∧ Sn W w' B (S k)
/-- What an instruction that may be comes to: the seat, memory, the Exit. -/
def doV (s : SV) (m : MV) (c a b d : Nat) (n : Int) (time me : Nat) : SV × MV × Int × Int :=
  if c = 12 then (match rd m s.ba (adN s b n) 8 with | none => (trapV s 3 (adN s b n), m, exT s 3 (adN s b n), 3) | some v => (nextV (setR s a v), m, 0, 0))
  else if c = 13 then (if (wrt m s.ba (adN s b n) (s.r a)).isSome = true then (nextV s, (wrt m s.ba (adN s b n) (s.r a)).getD m, 0, 0) else (trapV s 4 (adN s b n), (wrt m s.ba (adN s b n) (s.r a)).getD m, exT s 4 (adN s b n), 4))
  else if c = 18 then (nextV (setR s a (gtN s time me n.toNat)), m, 0, 0)
  else if c = 19 then (if n.toNat < 7 then (nextV (setV s n.toNat (s.r a)), m, 0, 0) else (trapV s 1 s.pc, m, exT s 1 s.pc, 1))
  else if c = 14 ∨ c = 15 ∨ c = 16 then (branchV s c a b n, m, 0, 0)
  else if c = 17 then (jmpV s a b n, m, 0, 0)
  else if c = 20 then (nextV s, m, 2, (kN n : Nat))
  else if c = 21 then (waitV s, m, waitK s, 0)
  else if c = 22 then (backV s, m, 0, 0)
  else if c = 0 then (nextV s, m, 0, 0)
  else (nextV (setR s a (reckN s c a b d n)), m, 0, 0)
set_option maxHeartbeats 1000000 in
theorem do_12 {w : World} {B : Nat} {s : SV} {L : Ly} {m : MV} (h : LS w B s) (hM : Mm w L m) (hs : s.ok) (hst : s.st = 0) (h0 : B ≠ L.M) (h1 : ¬ pgS L m B) (c a b d : Nat) (n : Int) (time me : Nat) (hme : me < 9223372036854775808) (ha : a < 16) (hb : b < 16) (hd : d < 16) (hc : c = 12) :
    Calls Tryd.prog 24 #[.pointer (some ⟨B, 0, none⟩), memV L s.ba, opV c a b d n, .int .u64 time, .int .i64 me] w fun e w' => e = .returned (match rd m s.ba (adN s b n) 8 with | none => exV (exT s 3 (adN s b n)) 3 | some _ => exV 0 0) ∧ Aft w B L m (match rd m s.ba (adN s b n) 8 with | none => trapV s 3 (adN s b n) | some v => nextV (setR s a v)) (m) w' := by
  subst hc
  obtain ⟨E, X, hbw⟩ := en3 h (busV L) (.int .u64 s.ba) 12 a b d n
  have HM := Lib.hid (hM.below hbw)
  have hlt := h.lt
  have E0 := Lib.hid E
  have x0 := X.k0
  have x1 := X.k1
  have o0 := E.op.k0
  have o1 := E.op.k1
  have o2 := E.op.k2
  have o3 := E.op.k3
  have o4 := E.op.k4
  have HOUT : Hid (∀ w3 t x y, Sn (((w.alloc (.cells #[busV L, .int .u64 s.ba] 70)).alloc (.cells #[.int .u8 (12 : Nat), .int .u8 a, .int .u8 b, .int .u8 d, .int .i16 n] 74)).alloc (.cells #[.int .u8 0, .int .u64 0] 50)) w3 B t → Aft w B L m t m ((w3.setCell ⟨w.heap.size + 2, 0, none⟩ x).setCell ⟨w.heap.size + 2, 1, none⟩ y)) :=
    Lib.hid (fun w3 t x y hsn => Aft.out (s := s) hM hlt (Trn.below hbw) HM.out rfl hsn h0 h1 (by omega) x y)
  have HOUT2 : Hid (∀ w3 t m' x y, m'.he = m.he → Aft (((w.alloc (.cells #[busV L, .int .u64 s.ba] 70)).alloc (.cells #[.int .u8 (12 : Nat), .int .u8 a, .int .u8 b, .int .u8 d, .int .i16 n] 74)).alloc (.cells #[.int .u8 0, .int .u64 0] 50)) B L m t m' w3 → Aft w B L m t m' ((w3.setCell ⟨w.heap.size + 2, 0, none⟩ x).setCell ⟨w.heap.size + 2, 1, none⟩ y)) :=
    Lib.hid (fun w3 t m' x y hhe hA => Aft.later hM hlt hbw hA hhe (by omega) x y)
  have n3 := pg_new hM (i := w.heap.size + 2) (by omega)
  have HC := Lib.hid (load_in E.sn.ls HM.out hs s.ba 12 a b d n hs.ba ha hb)
  unfold memV at *
  unfold opV exV at *
  clear h hM hbw X E
  generalize rd m s.ba (adN s b n) 8 = r at *
  generalize trapV s 3 (adN s b n) = tv at *
  generalize exT s 3 (adN s b n) = tx at *
  generalize busV L = bus at *
  go_enter Tryd.func24, Tryd.ntmps24
  go_wp2_with fail
  generalize ((w.alloc (.cells #[bus, .int .u64 s.ba] 70)).alloc (.cells #[.int .u8 12, .int .u8 a, .int .u8 b, .int .u8 d, .int .i16 n] 74)).alloc (.cells #[.int .u8 0, .int .u64 0] 50) = W at *
  cases r with
  | none =>
    refine (HC.out).mono ?_
    rintro e w4 ⟨rfl, h4⟩
    have h5 := (E0.out).x.kept h4.gr (by simp; omega)
    have k0 := h5.k0
    have k1 := h5.k1
    have kf := h5.fz
    have H5 := Lib.hid h5
    have H4 := Lib.hid h4
    clear h4 h5
    go_wp2
    refine retX (hr := rfl) (hp := rfl) (hx := H5.out) (hR := ⟨rfl, HOUT.out _ _ _ _ H4.out⟩)
  | some v =>
    refine (HC.out).mono ?_
    rintro e w4 ⟨rfl, h4⟩
    have h5 := (E0.out).x.kept h4.gr (by simp; omega)
    have k0 := h5.k0
    have k1 := h5.k1
    have kf := h5.fz
    have H5 := Lib.hid h5
    have H4 := Lib.hid h4
    clear h4 h5
    go_wp2
    refine retX (hr := rfl) (hp := rfl) (hx := H5.out) (hR := ⟨rfl, HOUT.out _ _ _ _ H4.out⟩)
set_option maxHeartbeats 1000000 in
theorem do_13 {w : World} {B : Nat} {s : SV} {L : Ly} {m : MV} (h : LS w B s) (hM : Mm w L m) (hs : s.ok) (hst : s.st = 0) (h0 : B ≠ L.M) (h1 : ¬ pgS L m B) (c a b d : Nat) (n : Int) (time me : Nat) (hme : me < 9223372036854775808) (ha : a < 16) (hb : b < 16) (hd : d < 16) (hc : c = 13) :
    Calls Tryd.prog 24 #[.pointer (some ⟨B, 0, none⟩), memV L s.ba, opV c a b d n, .int .u64 time, .int .i64 me] w fun e w' => e = .returned (if (wrt m s.ba (adN s b n) (s.r a)).isSome = true then exV 0 0 else exV (exT s 4 (adN s b n)) 4) ∧ Aft w B L m (if (wrt m s.ba (adN s b n) (s.r a)).isSome = true then nextV s else trapV s 4 (adN s b n)) ((wrt m s.ba (adN s b n) (s.r a)).getD m) w' := by
  subst hc
  obtain ⟨E, X, hbw⟩ := en3 h (busV L) (.int .u64 s.ba) 13 a b d n
  have HM := Lib.hid (hM.below hbw)
  have hlt := h.lt
  have E0 := Lib.hid E
  have x0 := X.k0
  have x1 := X.k1
  have o0 := E.op.k0
  have o1 := E.op.k1
  have o2 := E.op.k2
  have o3 := E.op.k3
  have o4 := E.op.k4
  have HOUT : Hid (∀ w3 t x y, Sn (((w.alloc (.cells #[busV L, .int .u64 s.ba] 70)).alloc (.cells #[.int .u8 (13 : Nat), .int .u8 a, .int .u8 b, .int .u8 d, .int .i16 n] 74)).alloc (.cells #[.int .u8 0, .int .u64 0] 50)) w3 B t → Aft w B L m t m ((w3.setCell ⟨w.heap.size + 2, 0, none⟩ x).setCell ⟨w.heap.size + 2, 1, none⟩ y)) :=
    Lib.hid (fun w3 t x y hsn => Aft.out (s := s) hM hlt (Trn.below hbw) HM.out rfl hsn h0 h1 (by omega) x y)
  have HOUT2 : Hid (∀ w3 t m' x y, m'.he = m.he → Aft (((w.alloc (.cells #[busV L, .int .u64 s.ba] 70)).alloc (.cells #[.int .u8 (13 : Nat), .int .u8 a, .int .u8 b, .int .u8 d, .int .i16 n] 74)).alloc (.cells #[.int .u8 0, .int .u64 0] 50)) B L m t m' w3 → Aft w B L m t m' ((w3.setCell ⟨w.heap.size + 2, 0, none⟩ x).setCell ⟨w.heap.size + 2, 1, none⟩ y)) :=
    Lib.hid (fun w3 t m' x y hhe hA => Aft.later hM hlt hbw hA hhe (by omega) x y)
  have n3 := pg_new hM (i := w.heap.size + 2) (by omega)
  have HC := Lib.hid (store_in E.sn.ls HM.out hs h0 h1 s.ba 13 a b d n hs.ba ha hb)
  have hhe := Lib.hid (wrtD_he m s.ba (adN s b n) (s.r a))
  unfold memV at *
  unfold opV exV at *
  clear h hM hbw X E
  generalize (wrt m s.ba (adN s b n) (s.r a)).isSome = ok at *
  generalize (wrt m s.ba (adN s b n) (s.r a)).getD m = m' at *
  generalize trapV s 4 (adN s b n) = tv at *
  generalize exT s 4 (adN s b n) = tx at *
  generalize busV L = bus at *
  go_enter Tryd.func24, Tryd.ntmps24
  go_wp2_with fail
  generalize ((w.alloc (.cells #[bus, .int .u64 s.ba] 70)).alloc (.cells #[.int .u8 13, .int .u8 a, .int .u8 b, .int .u8 d, .int .i16 n] 74)).alloc (.cells #[.int .u8 0, .int .u64 0] 50) = W at *
  have n4 : ¬ (w.heap.size + 2 = B ∨ pgS L m (w.heap.size + 2)) := by
    rintro (e | e)
    · omega
    · exact n3 e
  cases ok
  all_goals
    refine (HC.out).mono ?_
    rintro e w4 ⟨rfl, h4⟩
    have h5 := h4.tr.x2 n4 (E0.out).x
    have k0 := h5.k0
    have k1 := h5.k1
    have kf := h5.fz
    have H5 := Lib.hid h5
    have H4 := Lib.hid h4
    clear h4 h5
    go_wp2
    refine retX (hr := rfl) (hp := rfl) (hx := H5.out) (hR := ⟨rfl, HOUT2.out _ _ _ _ _ hhe.out H4.out⟩)
set_option maxHeartbeats 1000000 in
theorem do_18 {w : World} {B : Nat} {s : SV} {L : Ly} {m : MV} (h : LS w B s) (hM : Mm w L m) (hs : s.ok) (hst : s.st = 0) (h0 : B ≠ L.M) (h1 : ¬ pgS L m B) (c a b d : Nat) (n : Int) (time me : Nat) (hme : me < 9223372036854775808) (ha : a < 16) (hb : b < 16) (hd : d < 16) (hc : c = 18) (k : Nat) (hn : n = (k : Int)) (hk : k < 9) :
    Calls Tryd.prog 24 #[.pointer (some ⟨B, 0, none⟩), memV L s.ba, opV c a b d n, .int .u64 time, .int .i64 me] w fun e w' => e = .returned (exV 0 0) ∧ Aft w B L m (nextV (setR s a (gtN s time me k))) (m) w' := by
  subst hc
  obtain ⟨E, X, hbw⟩ := en3 h (busV L) (.int .u64 s.ba) 18 a b d n
  have HM := Lib.hid (hM.below hbw)
  have hlt := h.lt
  have E0 := Lib.hid E
  have x0 := X.k0
  have x1 := X.k1
  have o0 := E.op.k0
  have o1 := E.op.k1
  have o2 := E.op.k2
  have o3 := E.op.k3
  have o4 := E.op.k4
  have HOUT : Hid (∀ w3 t x y, Sn (((w.alloc (.cells #[busV L, .int .u64 s.ba] 70)).alloc (.cells #[.int .u8 (18 : Nat), .int .u8 a, .int .u8 b, .int .u8 d, .int .i16 n] 74)).alloc (.cells #[.int .u8 0, .int .u64 0] 50)) w3 B t → Aft w B L m t m ((w3.setCell ⟨w.heap.size + 2, 0, none⟩ x).setCell ⟨w.heap.size + 2, 1, none⟩ y)) :=
    Lib.hid (fun w3 t x y hsn => Aft.out (s := s) hM hlt (Trn.below hbw) HM.out rfl hsn h0 h1 (by omega) x y)
  have HOUT2 : Hid (∀ w3 t m' x y, m'.he = m.he → Aft (((w.alloc (.cells #[busV L, .int .u64 s.ba] 70)).alloc (.cells #[.int .u8 (18 : Nat), .int .u8 a, .int .u8 b, .int .u8 d, .int .i16 n] 74)).alloc (.cells #[.int .u8 0, .int .u64 0] 50)) B L m t m' w3 → Aft w B L m t m' ((w3.setCell ⟨w.heap.size + 2, 0, none⟩ x).setCell ⟨w.heap.size + 2, 1, none⟩ y)) :=
    Lib.hid (fun w3 t m' x y hhe hA => Aft.later hM hlt hbw hA hhe (by omega) x y)
  have n3 := pg_new hM (i := w.heap.size + 2) (by omega)
  have HC := Lib.hid (cget_in E.sn.ls hs 18 a b d k time me ha hk hme)
  rw [← hn] at HC
  clear hn
  unfold memV at *
  unfold opV exV at *
  clear h hM hbw X E
  generalize nextV (setR s a (gtN s time me k)) = tv at *
  generalize busV L = bus at *
  go_enter Tryd.func24, Tryd.ntmps24
  go_wp2_with fail
  generalize ((w.alloc (.cells #[bus, .int .u64 s.ba] 70)).alloc (.cells #[.int .u8 18, .int .u8 a, .int .u8 b, .int .u8 d, .int .i16 n] 74)).alloc (.cells #[.int .u8 0, .int .u64 0] 50) = W at *
  refine (HC.out).mono ?_
  rintro e w4 ⟨rfl, h4⟩
  have h5 := (E0.out).x.kept h4.gr (by simp; omega)
  have k0 := h5.k0
  have k1 := h5.k1
  have kf := h5.fz
  have H5 := Lib.hid h5
  have H4 := Lib.hid h4
  clear h4 h5
  go_wp2
  refine retX (hr := rfl) (hp := rfl) (hx := H5.out) (hR := ⟨rfl, HOUT.out _ _ _ _ H4.out⟩)
set_option maxHeartbeats 1000000 in
theorem do_19 {w : World} {B : Nat} {s : SV} {L : Ly} {m : MV} (h : LS w B s) (hM : Mm w L m) (hs : s.ok) (hst : s.st = 0) (h0 : B ≠ L.M) (h1 : ¬ pgS L m B) (c a b d : Nat) (n : Int) (time me : Nat) (hme : me < 9223372036854775808) (ha : a < 16) (hb : b < 16) (hd : d < 16) (hc : c = 19) (k : Nat) (hn : n = (k : Int)) (hk : k < 7) :
    Calls Tryd.prog 24 #[.pointer (some ⟨B, 0, none⟩), memV L s.ba, opV c a b d n, .int .u64 time, .int .i64 me] w fun e w' => e = .returned (exV 0 0) ∧ Aft w B L m (nextV (setV s k (s.r a))) (m) w' := by
  subst hc
  obtain ⟨E, X, hbw⟩ := en3 h (busV L) (.int .u64 s.ba) 19 a b d n
  have HM := Lib.hid (hM.below hbw)
  have hlt := h.lt
  have E0 := Lib.hid E
  have x0 := X.k0
  have x1 := X.k1
  have o0 := E.op.k0
  have o1 := E.op.k1
  have o2 := E.op.k2
  have o3 := E.op.k3
  have o4 := E.op.k4
  have HOUT : Hid (∀ w3 t x y, Sn (((w.alloc (.cells #[busV L, .int .u64 s.ba] 70)).alloc (.cells #[.int .u8 (19 : Nat), .int .u8 a, .int .u8 b, .int .u8 d, .int .i16 n] 74)).alloc (.cells #[.int .u8 0, .int .u64 0] 50)) w3 B t → Aft w B L m t m ((w3.setCell ⟨w.heap.size + 2, 0, none⟩ x).setCell ⟨w.heap.size + 2, 1, none⟩ y)) :=
    Lib.hid (fun w3 t x y hsn => Aft.out (s := s) hM hlt (Trn.below hbw) HM.out rfl hsn h0 h1 (by omega) x y)
  have HOUT2 : Hid (∀ w3 t m' x y, m'.he = m.he → Aft (((w.alloc (.cells #[busV L, .int .u64 s.ba] 70)).alloc (.cells #[.int .u8 (19 : Nat), .int .u8 a, .int .u8 b, .int .u8 d, .int .i16 n] 74)).alloc (.cells #[.int .u8 0, .int .u64 0] 50)) B L m t m' w3 → Aft w B L m t m' ((w3.setCell ⟨w.heap.size + 2, 0, none⟩ x).setCell ⟨w.heap.size + 2, 1, none⟩ y)) :=
    Lib.hid (fun w3 t m' x y hhe hA => Aft.later hM hlt hbw hA hhe (by omega) x y)
  have n3 := pg_new hM (i := w.heap.size + 2) (by omega)
  have HC := Lib.hid (cset_yes E.sn.ls hs hst 19 a b d k ha hk)
  rw [← hn] at HC
  clear hn
  unfold memV at *
  unfold opV exV at *
  clear h hM hbw X E
  generalize nextV (setV s k (s.r a)) = tv at *
  generalize busV L = bus at *
  go_enter Tryd.func24, Tryd.ntmps24
  go_wp2_with fail
  generalize ((w.alloc (.cells #[bus, .int .u64 s.ba] 70)).alloc (.cells #[.int .u8 19, .int .u8 a, .int .u8 b, .int .u8 d, .int .i16 n] 74)).alloc (.cells #[.int .u8 0, .int .u64 0] 50) = W at *
  refine (HC.out).mono ?_
  rintro e w4 ⟨rfl, h4⟩
  have h5 := (E0.out).x.kept h4.gr (by simp; omega)
  have k0 := h5.k0
  have k1 := h5.k1
  have kf := h5.fz
  have H5 := Lib.hid h5
  have H4 := Lib.hid h4
  clear h4 h5
  go_wp2
  refine retX (hr := rfl) (hp := rfl) (hx := H5.out) (hR := ⟨rfl, HOUT.out _ _ _ _ H4.out⟩)
set_option maxHeartbeats 1000000 in
theorem do_19n {w : World} {B : Nat} {s : SV} {L : Ly} {m : MV} (h : LS w B s) (hM : Mm w L m) (hs : s.ok) (hst : s.st = 0) (h0 : B ≠ L.M) (h1 : ¬ pgS L m B) (c a b d : Nat) (n : Int) (time me : Nat) (hme : me < 9223372036854775808) (ha : a < 16) (hb : b < 16) (hd : d < 16) (hc : c = 19) (k : Nat) (hn : n = (k : Int)) (hk : k < 9) (h7 : 7 ≤ k) :
    Calls Tryd.prog 24 #[.pointer (some ⟨B, 0, none⟩), memV L s.ba, opV c a b d n, .int .u64 time, .int .i64 me] w fun e w' => e = .returned (exV (exT s 1 s.pc) 1) ∧ Aft w B L m (trapV s 1 s.pc) (m) w' := by
  subst hc
  obtain ⟨E, X, hbw⟩ := en3 h (busV L) (.int .u64 s.ba) 19 a b d n
  have HM := Lib.hid (hM.below hbw)
  have hlt := h.lt
  have E0 := Lib.hid E
  have x0 := X.k0
  have x1 := X.k1
  have o0 := E.op.k0
  have o1 := E.op.k1
  have o2 := E.op.k2
  have o3 := E.op.k3
  have o4 := E.op.k4
  have HOUT : Hid (∀ w3 t x y, Sn (((w.alloc (.cells #[busV L, .int .u64 s.ba] 70)).alloc (.cells #[.int .u8 (19 : Nat), .int .u8 a, .int .u8 b, .int .u8 d, .int .i16 n] 74)).alloc (.cells #[.int .u8 0, .int .u64 0] 50)) w3 B t → Aft w B L m t m ((w3.setCell ⟨w.heap.size + 2, 0, none⟩ x).setCell ⟨w.heap.size + 2, 1, none⟩ y)) :=
    Lib.hid (fun w3 t x y hsn => Aft.out (s := s) hM hlt (Trn.below hbw) HM.out rfl hsn h0 h1 (by omega) x y)
  have HOUT2 : Hid (∀ w3 t m' x y, m'.he = m.he → Aft (((w.alloc (.cells #[busV L, .int .u64 s.ba] 70)).alloc (.cells #[.int .u8 (19 : Nat), .int .u8 a, .int .u8 b, .int .u8 d, .int .i16 n] 74)).alloc (.cells #[.int .u8 0, .int .u64 0] 50)) B L m t m' w3 → Aft w B L m t m' ((w3.setCell ⟨w.heap.size + 2, 0, none⟩ x).setCell ⟨w.heap.size + 2, 1, none⟩ y)) :=
    Lib.hid (fun w3 t m' x y hhe hA => Aft.later hM hlt hbw hA hhe (by omega) x y)
  have n3 := pg_new hM (i := w.heap.size + 2) (by omega)
  have HC := Lib.hid (cset_no E.sn.ls 19 a b d k ha hk h7)
  rw [← hn] at HC
  clear hn
  unfold memV at *
  unfold opV exV at *
  clear h hM hbw X E
  generalize trapV s 1 s.pc = tv at *
  generalize exT s 1 s.pc = tx at *
  generalize busV L = bus at *
  go_enter Tryd.func24, Tryd.ntmps24
  go_wp2_with fail
  generalize ((w.alloc (.cells #[bus, .int .u64 s.ba] 70)).alloc (.cells #[.int .u8 19, .int .u8 a, .int .u8 b, .int .u8 d, .int .i16 n] 74)).alloc (.cells #[.int .u8 0, .int .u64 0] 50) = W at *
  refine (HC.out).mono ?_
  rintro e w4 ⟨rfl, h4⟩
  have h5 := (E0.out).x.kept h4.gr (by simp; omega)
  have k0 := h5.k0
  have k1 := h5.k1
  have kf := h5.fz
  have H5 := Lib.hid h5
  have H4 := Lib.hid h4
  clear h4 h5
  go_wp2
  refine retX (hr := rfl) (hp := rfl) (hx := H5.out) (hR := ⟨rfl, HOUT.out _ _ _ _ H4.out⟩)
set_option maxHeartbeats 1000000 in
theorem do_14 {w : World} {B : Nat} {s : SV} {L : Ly} {m : MV} (h : LS w B s) (hM : Mm w L m) (hs : s.ok) (hst : s.st = 0) (h0 : B ≠ L.M) (h1 : ¬ pgS L m B) (c a b d : Nat) (n : Int) (time me : Nat) (hme : me < 9223372036854775808) (ha : a < 16) (hb : b < 16) (hd : d < 16) (hc : c = 14) :
    Calls Tryd.prog 24 #[.pointer (some ⟨B, 0, none⟩), memV L s.ba, opV c a b d n, .int .u64 time, .int .i64 me] w fun e w' => e = .returned (exV 0 0) ∧ Aft w B L m (branchV s 14 a b n) (m) w' := by
  subst hc
  obtain ⟨E, X, hbw⟩ := en3 h (busV L) (.int .u64 s.ba) 14 a b d n
  have HM := Lib.hid (hM.below hbw)
  have hlt := h.lt
  have E0 := Lib.hid E
  have x0 := X.k0
  have x1 := X.k1
  have o0 := E.op.k0
  have o1 := E.op.k1
  have o2 := E.op.k2
  have o3 := E.op.k3
  have o4 := E.op.k4
  have HOUT : Hid (∀ w3 t x y, Sn (((w.alloc (.cells #[busV L, .int .u64 s.ba] 70)).alloc (.cells #[.int .u8 (14 : Nat), .int .u8 a, .int .u8 b, .int .u8 d, .int .i16 n] 74)).alloc (.cells #[.int .u8 0, .int .u64 0] 50)) w3 B t → Aft w B L m t m ((w3.setCell ⟨w.heap.size + 2, 0, none⟩ x).setCell ⟨w.heap.size + 2, 1, none⟩ y)) :=
    Lib.hid (fun w3 t x y hsn => Aft.out (s := s) hM hlt (Trn.below hbw) HM.out rfl hsn h0 h1 (by omega) x y)
  have HOUT2 : Hid (∀ w3 t m' x y, m'.he = m.he → Aft (((w.alloc (.cells #[busV L, .int .u64 s.ba] 70)).alloc (.cells #[.int .u8 (14 : Nat), .int .u8 a, .int .u8 b, .int .u8 d, .int .i16 n] 74)).alloc (.cells #[.int .u8 0, .int .u64 0] 50)) B L m t m' w3 → Aft w B L m t m' ((w3.setCell ⟨w.heap.size + 2, 0, none⟩ x).setCell ⟨w.heap.size + 2, 1, none⟩ y)) :=
    Lib.hid (fun w3 t m' x y hhe hA => Aft.later hM hlt hbw hA hhe (by omega) x y)
  have n3 := pg_new hM (i := w.heap.size + 2) (by omega)
  have HC := Lib.hid (branch_in E.sn.ls hs 14 a b d n ha hb (.inl rfl))
  unfold memV at *
  unfold opV exV at *
  clear h hM hbw X E
  generalize branchV s 14 a b n = tv at *
  generalize busV L = bus at *
  go_enter Tryd.func24, Tryd.ntmps24
  go_wp2_with fail
  generalize ((w.alloc (.cells #[bus, .int .u64 s.ba] 70)).alloc (.cells #[.int .u8 14, .int .u8 a, .int .u8 b, .int .u8 d, .int .i16 n] 74)).alloc (.cells #[.int .u8 0, .int .u64 0] 50) = W at *
  refine (HC.out).mono ?_
  rintro e w4 ⟨rfl, h4⟩
  have h5 := (E0.out).x.kept h4.gr (by simp; omega)
  have k0 := h5.k0
  have k1 := h5.k1
  have kf := h5.fz
  have H5 := Lib.hid h5
  have H4 := Lib.hid h4
  clear h4 h5
  go_wp2
  refine retX (hr := rfl) (hp := rfl) (hx := H5.out) (hR := ⟨rfl, HOUT.out _ _ _ _ H4.out⟩)
set_option maxHeartbeats 1000000 in
theorem do_15 {w : World} {B : Nat} {s : SV} {L : Ly} {m : MV} (h : LS w B s) (hM : Mm w L m) (hs : s.ok) (hst : s.st = 0) (h0 : B ≠ L.M) (h1 : ¬ pgS L m B) (c a b d : Nat) (n : Int) (time me : Nat) (hme : me < 9223372036854775808) (ha : a < 16) (hb : b < 16) (hd : d < 16) (hc : c = 15) :
    Calls Tryd.prog 24 #[.pointer (some ⟨B, 0, none⟩), memV L s.ba, opV c a b d n, .int .u64 time, .int .i64 me] w fun e w' => e = .returned (exV 0 0) ∧ Aft w B L m (branchV s 15 a b n) (m) w' := by
  subst hc
  obtain ⟨E, X, hbw⟩ := en3 h (busV L) (.int .u64 s.ba) 15 a b d n
  have HM := Lib.hid (hM.below hbw)
  have hlt := h.lt
  have E0 := Lib.hid E
  have x0 := X.k0
  have x1 := X.k1
  have o0 := E.op.k0
  have o1 := E.op.k1
  have o2 := E.op.k2
  have o3 := E.op.k3
  have o4 := E.op.k4
  have HOUT : Hid (∀ w3 t x y, Sn (((w.alloc (.cells #[busV L, .int .u64 s.ba] 70)).alloc (.cells #[.int .u8 (15 : Nat), .int .u8 a, .int .u8 b, .int .u8 d, .int .i16 n] 74)).alloc (.cells #[.int .u8 0, .int .u64 0] 50)) w3 B t → Aft w B L m t m ((w3.setCell ⟨w.heap.size + 2, 0, none⟩ x).setCell ⟨w.heap.size + 2, 1, none⟩ y)) :=
    Lib.hid (fun w3 t x y hsn => Aft.out (s := s) hM hlt (Trn.below hbw) HM.out rfl hsn h0 h1 (by omega) x y)
  have HOUT2 : Hid (∀ w3 t m' x y, m'.he = m.he → Aft (((w.alloc (.cells #[busV L, .int .u64 s.ba] 70)).alloc (.cells #[.int .u8 (15 : Nat), .int .u8 a, .int .u8 b, .int .u8 d, .int .i16 n] 74)).alloc (.cells #[.int .u8 0, .int .u64 0] 50)) B L m t m' w3 → Aft w B L m t m' ((w3.setCell ⟨w.heap.size + 2, 0, none⟩ x).setCell ⟨w.heap.size + 2, 1, none⟩ y)) :=
    Lib.hid (fun w3 t m' x y hhe hA => Aft.later hM hlt hbw hA hhe (by omega) x y)
  have n3 := pg_new hM (i := w.heap.size + 2) (by omega)
  have HC := Lib.hid (branch_in E.sn.ls hs 15 a b d n ha hb (.inr (.inl rfl)))
  unfold memV at *
  unfold opV exV at *
  clear h hM hbw X E
  generalize branchV s 15 a b n = tv at *
  generalize busV L = bus at *
  go_enter Tryd.func24, Tryd.ntmps24
  go_wp2_with fail
  generalize ((w.alloc (.cells #[bus, .int .u64 s.ba] 70)).alloc (.cells #[.int .u8 15, .int .u8 a, .int .u8 b, .int .u8 d, .int .i16 n] 74)).alloc (.cells #[.int .u8 0, .int .u64 0] 50) = W at *
  refine (HC.out).mono ?_
  rintro e w4 ⟨rfl, h4⟩
  have h5 := (E0.out).x.kept h4.gr (by simp; omega)
  have k0 := h5.k0
  have k1 := h5.k1
  have kf := h5.fz
  have H5 := Lib.hid h5
  have H4 := Lib.hid h4
  clear h4 h5
  go_wp2
  refine retX (hr := rfl) (hp := rfl) (hx := H5.out) (hR := ⟨rfl, HOUT.out _ _ _ _ H4.out⟩)
set_option maxHeartbeats 1000000 in
theorem do_16 {w : World} {B : Nat} {s : SV} {L : Ly} {m : MV} (h : LS w B s) (hM : Mm w L m) (hs : s.ok) (hst : s.st = 0) (h0 : B ≠ L.M) (h1 : ¬ pgS L m B) (c a b d : Nat) (n : Int) (time me : Nat) (hme : me < 9223372036854775808) (ha : a < 16) (hb : b < 16) (hd : d < 16) (hc : c = 16) :
    Calls Tryd.prog 24 #[.pointer (some ⟨B, 0, none⟩), memV L s.ba, opV c a b d n, .int .u64 time, .int .i64 me] w fun e w' => e = .returned (exV 0 0) ∧ Aft w B L m (branchV s 16 a b n) (m) w' := by
  subst hc
  obtain ⟨E, X, hbw⟩ := en3 h (busV L) (.int .u64 s.ba) 16 a b d n
  have HM := Lib.hid (hM.below hbw)
  have hlt := h.lt
  have E0 := Lib.hid E
  have x0 := X.k0
  have x1 := X.k1
  have o0 := E.op.k0
  have o1 := E.op.k1
  have o2 := E.op.k2
  have o3 := E.op.k3
  have o4 := E.op.k4
  have HOUT : Hid (∀ w3 t x y, Sn (((w.alloc (.cells #[busV L, .int .u64 s.ba] 70)).alloc (.cells #[.int .u8 (16 : Nat), .int .u8 a, .int .u8 b, .int .u8 d, .int .i16 n] 74)).alloc (.cells #[.int .u8 0, .int .u64 0] 50)) w3 B t → Aft w B L m t m ((w3.setCell ⟨w.heap.size + 2, 0, none⟩ x).setCell ⟨w.heap.size + 2, 1, none⟩ y)) :=
    Lib.hid (fun w3 t x y hsn => Aft.out (s := s) hM hlt (Trn.below hbw) HM.out rfl hsn h0 h1 (by omega) x y)
  have HOUT2 : Hid (∀ w3 t m' x y, m'.he = m.he → Aft (((w.alloc (.cells #[busV L, .int .u64 s.ba] 70)).alloc (.cells #[.int .u8 (16 : Nat), .int .u8 a, .int .u8 b, .int .u8 d, .int .i16 n] 74)).alloc (.cells #[.int .u8 0, .int .u64 0] 50)) B L m t m' w3 → Aft w B L m t m' ((w3.setCell ⟨w.heap.size + 2, 0, none⟩ x).setCell ⟨w.heap.size + 2, 1, none⟩ y)) :=
    Lib.hid (fun w3 t m' x y hhe hA => Aft.later hM hlt hbw hA hhe (by omega) x y)
  have n3 := pg_new hM (i := w.heap.size + 2) (by omega)
  have HC := Lib.hid (branch_in E.sn.ls hs 16 a b d n ha hb (.inr (.inr rfl)))
  unfold memV at *
  unfold opV exV at *
  clear h hM hbw X E
  generalize branchV s 16 a b n = tv at *
  generalize busV L = bus at *
  go_enter Tryd.func24, Tryd.ntmps24
  go_wp2_with fail
  generalize ((w.alloc (.cells #[bus, .int .u64 s.ba] 70)).alloc (.cells #[.int .u8 16, .int .u8 a, .int .u8 b, .int .u8 d, .int .i16 n] 74)).alloc (.cells #[.int .u8 0, .int .u64 0] 50) = W at *
  refine (HC.out).mono ?_
  rintro e w4 ⟨rfl, h4⟩
  have h5 := (E0.out).x.kept h4.gr (by simp; omega)
  have k0 := h5.k0
  have k1 := h5.k1
  have kf := h5.fz
  have H5 := Lib.hid h5
  have H4 := Lib.hid h4
  clear h4 h5
  go_wp2
  refine retX (hr := rfl) (hp := rfl) (hx := H5.out) (hR := ⟨rfl, HOUT.out _ _ _ _ H4.out⟩)
set_option maxHeartbeats 1000000 in
theorem do_17 {w : World} {B : Nat} {s : SV} {L : Ly} {m : MV} (h : LS w B s) (hM : Mm w L m) (hs : s.ok) (hst : s.st = 0) (h0 : B ≠ L.M) (h1 : ¬ pgS L m B) (c a b d : Nat) (n : Int) (time me : Nat) (hme : me < 9223372036854775808) (ha : a < 16) (hb : b < 16) (hd : d < 16) (hc : c = 17) :
    Calls Tryd.prog 24 #[.pointer (some ⟨B, 0, none⟩), memV L s.ba, opV c a b d n, .int .u64 time, .int .i64 me] w fun e w' => e = .returned (exV 0 0) ∧ Aft w B L m (jmpV s a b n) (m) w' := by
  subst hc
  obtain ⟨E, X, hbw⟩ := en3 h (busV L) (.int .u64 s.ba) 17 a b d n
  have HM := Lib.hid (hM.below hbw)
  have hlt := h.lt
  have E0 := Lib.hid E
  have x0 := X.k0
  have x1 := X.k1
  have o0 := E.op.k0
  have o1 := E.op.k1
  have o2 := E.op.k2
  have o3 := E.op.k3
  have o4 := E.op.k4
  have HOUT : Hid (∀ w3 t x y, Sn (((w.alloc (.cells #[busV L, .int .u64 s.ba] 70)).alloc (.cells #[.int .u8 (17 : Nat), .int .u8 a, .int .u8 b, .int .u8 d, .int .i16 n] 74)).alloc (.cells #[.int .u8 0, .int .u64 0] 50)) w3 B t → Aft w B L m t m ((w3.setCell ⟨w.heap.size + 2, 0, none⟩ x).setCell ⟨w.heap.size + 2, 1, none⟩ y)) :=
    Lib.hid (fun w3 t x y hsn => Aft.out (s := s) hM hlt (Trn.below hbw) HM.out rfl hsn h0 h1 (by omega) x y)
  have HOUT2 : Hid (∀ w3 t m' x y, m'.he = m.he → Aft (((w.alloc (.cells #[busV L, .int .u64 s.ba] 70)).alloc (.cells #[.int .u8 (17 : Nat), .int .u8 a, .int .u8 b, .int .u8 d, .int .i16 n] 74)).alloc (.cells #[.int .u8 0, .int .u64 0] 50)) B L m t m' w3 → Aft w B L m t m' ((w3.setCell ⟨w.heap.size + 2, 0, none⟩ x).setCell ⟨w.heap.size + 2, 1, none⟩ y)) :=
    Lib.hid (fun w3 t m' x y hhe hA => Aft.later hM hlt hbw hA hhe (by omega) x y)
  have n3 := pg_new hM (i := w.heap.size + 2) (by omega)
  have HC := Lib.hid (jump_in E.sn.ls hs 17 a b d n ha hb)
  unfold memV at *
  unfold opV exV at *
  clear h hM hbw X E
  generalize jmpV s a b n = tv at *
  generalize busV L = bus at *
  go_enter Tryd.func24, Tryd.ntmps24
  go_wp2_with fail
  generalize ((w.alloc (.cells #[bus, .int .u64 s.ba] 70)).alloc (.cells #[.int .u8 17, .int .u8 a, .int .u8 b, .int .u8 d, .int .i16 n] 74)).alloc (.cells #[.int .u8 0, .int .u64 0] 50) = W at *
  refine (HC.out).mono ?_
  rintro e w4 ⟨rfl, h4⟩
  have h5 := (E0.out).x.kept h4.gr (by simp; omega)
  have k0 := h5.k0
  have k1 := h5.k1
  have kf := h5.fz
  have H5 := Lib.hid h5
  have H4 := Lib.hid h4
  clear h4 h5
  go_wp2
  refine retX (hr := rfl) (hp := rfl) (hx := H5.out) (hR := ⟨rfl, HOUT.out _ _ _ _ H4.out⟩)
set_option maxHeartbeats 1000000 in
theorem do_20 {w : World} {B : Nat} {s : SV} {L : Ly} {m : MV} (h : LS w B s) (hM : Mm w L m) (hs : s.ok) (hst : s.st = 0) (h0 : B ≠ L.M) (h1 : ¬ pgS L m B) (c a b d : Nat) (n : Int) (time me : Nat) (hme : me < 9223372036854775808) (ha : a < 16) (hb : b < 16) (hd : d < 16) (hc : c = 20) :
    Calls Tryd.prog 24 #[.pointer (some ⟨B, 0, none⟩), memV L s.ba, opV c a b d n, .int .u64 time, .int .i64 me] w fun e w' => e = .returned (exV 2 (kN n : Nat)) ∧ Aft w B L m (nextV s) (m) w' := by
  subst hc
  obtain ⟨E, X, hbw⟩ := en3 h (busV L) (.int .u64 s.ba) 20 a b d n
  have HM := Lib.hid (hM.below hbw)
  have hlt := h.lt
  have E0 := Lib.hid E
  have x0 := X.k0
  have x1 := X.k1
  have o0 := E.op.k0
  have o1 := E.op.k1
  have o2 := E.op.k2
  have o3 := E.op.k3
  have o4 := E.op.k4
  have HOUT : Hid (∀ w3 t x y, Sn (((w.alloc (.cells #[busV L, .int .u64 s.ba] 70)).alloc (.cells #[.int .u8 (20 : Nat), .int .u8 a, .int .u8 b, .int .u8 d, .int .i16 n] 74)).alloc (.cells #[.int .u8 0, .int .u64 0] 50)) w3 B t → Aft w B L m t m ((w3.setCell ⟨w.heap.size + 2, 0, none⟩ x).setCell ⟨w.heap.size + 2, 1, none⟩ y)) :=
    Lib.hid (fun w3 t x y hsn => Aft.out (s := s) hM hlt (Trn.below hbw) HM.out rfl hsn h0 h1 (by omega) x y)
  have HOUT2 : Hid (∀ w3 t m' x y, m'.he = m.he → Aft (((w.alloc (.cells #[busV L, .int .u64 s.ba] 70)).alloc (.cells #[.int .u8 (20 : Nat), .int .u8 a, .int .u8 b, .int .u8 d, .int .i16 n] 74)).alloc (.cells #[.int .u8 0, .int .u64 0] 50)) B L m t m' w3 → Aft w B L m t m' ((w3.setCell ⟨w.heap.size + 2, 0, none⟩ x).setCell ⟨w.heap.size + 2, 1, none⟩ y)) :=
    Lib.hid (fun w3 t m' x y hhe hA => Aft.later hM hlt hbw hA hhe (by omega) x y)
  have n3 := pg_new hM (i := w.heap.size + 2) (by omega)
  have HN := Lib.hid (cnumber_in 20 a b d n)
  have HC : Hid (∀ U, LS U B s → Calls Tryd.prog 42 #[.pointer (some ⟨B, 0, none⟩), exV 2 (kN n : Nat)] U fun e w' => e = .returned (exV 2 (kN n : Nat)) ∧ Sn U w' B (nextV s)) := Lib.hid (fun U hU => next_in hU 2 (kN n : Nat))
  rw [show (n % 18446744073709551616).toNat = kN n from rfl] at HN
  unfold memV at *
  unfold opV exV at *
  clear h hM hbw X E
  generalize nextV s = tv at *
  generalize kN n = k at *
  generalize busV L = bus at *
  go_enter Tryd.func24, Tryd.ntmps24
  go_wp2_with fail
  generalize ((w.alloc (.cells #[bus, .int .u64 s.ba] 70)).alloc (.cells #[.int .u8 20, .int .u8 a, .int .u8 b, .int .u8 d, .int .i16 n] 74)).alloc (.cells #[.int .u8 0, .int .u64 0] 50) = W at *
  refine (HN.out _).mono ?_
  rintro e w3 ⟨rfl, h3⟩
  have E3 := (E0.out).below h3
  have LS3 := Lib.hid E3.sn.ls
  have X3 := Lib.hid E3.x
  have H3 := Lib.hid h3
  have S3 := Lib.hid ((Sn.self (E0.out).sn.ls).grow h3)
  clear E3 h3
  go_wp2_with fail
  refine (HC.out _ LS3.out).mono ?_
  rintro e w4 ⟨rfl, h4⟩
  have h5 := (X3.out).kept h4.gr (by simp; omega)
  have k0 := h5.k0
  have k1 := h5.k1
  have kf := h5.fz
  have H5 := Lib.hid h5
  have H4 := Lib.hid ((S3.out).trans h4)
  clear h4 h5
  go_wp2
  refine retX (hr := rfl) (hp := rfl) (hx := H5.out) (hR := ⟨rfl, HOUT.out _ _ _ _ H4.out⟩)
set_option maxHeartbeats 1000000 in
theorem do_21 {w : World} {B : Nat} {s : SV} {L : Ly} {m : MV} (h : LS w B s) (hM : Mm w L m) (hs : s.ok) (hst : s.st = 0) (h0 : B ≠ L.M) (h1 : ¬ pgS L m B) (c a b d : Nat) (n : Int) (time me : Nat) (hme : me < 9223372036854775808) (ha : a < 16) (hb : b < 16) (hd : d < 16) (hc : c = 21) :
    Calls Tryd.prog 24 #[.pointer (some ⟨B, 0, none⟩), memV L s.ba, opV c a b d n, .int .u64 time, .int .i64 me] w fun e w' => e = .returned (exV (waitK s) 0) ∧ Aft w B L m (waitV s) (m) w' := by
  subst hc
  obtain ⟨E, X, hbw⟩ := en3 h (busV L) (.int .u64 s.ba) 21 a b d n
  have HM := Lib.hid (hM.below hbw)
  have hlt := h.lt
  have E0 := Lib.hid E
  have x0 := X.k0
  have x1 := X.k1
  have o0 := E.op.k0
  have o1 := E.op.k1
  have o2 := E.op.k2
  have o3 := E.op.k3
  have o4 := E.op.k4
  have HOUT : Hid (∀ w3 t x y, Sn (((w.alloc (.cells #[busV L, .int .u64 s.ba] 70)).alloc (.cells #[.int .u8 (21 : Nat), .int .u8 a, .int .u8 b, .int .u8 d, .int .i16 n] 74)).alloc (.cells #[.int .u8 0, .int .u64 0] 50)) w3 B t → Aft w B L m t m ((w3.setCell ⟨w.heap.size + 2, 0, none⟩ x).setCell ⟨w.heap.size + 2, 1, none⟩ y)) :=
    Lib.hid (fun w3 t x y hsn => Aft.out (s := s) hM hlt (Trn.below hbw) HM.out rfl hsn h0 h1 (by omega) x y)
  have HOUT2 : Hid (∀ w3 t m' x y, m'.he = m.he → Aft (((w.alloc (.cells #[busV L, .int .u64 s.ba] 70)).alloc (.cells #[.int .u8 (21 : Nat), .int .u8 a, .int .u8 b, .int .u8 d, .int .i16 n] 74)).alloc (.cells #[.int .u8 0, .int .u64 0] 50)) B L m t m' w3 → Aft w B L m t m' ((w3.setCell ⟨w.heap.size + 2, 0, none⟩ x).setCell ⟨w.heap.size + 2, 1, none⟩ y)) :=
    Lib.hid (fun w3 t m' x y hhe hA => Aft.later hM hlt hbw hA hhe (by omega) x y)
  have n3 := pg_new hM (i := w.heap.size + 2) (by omega)
  have HC := Lib.hid (wait_in E.sn.ls hs)
  unfold memV at *
  unfold opV exV at *
  clear h hM hbw X E
  generalize waitV s = tv at *
  generalize waitK s = tx at *
  generalize busV L = bus at *
  go_enter Tryd.func24, Tryd.ntmps24
  go_wp2_with fail
  generalize ((w.alloc (.cells #[bus, .int .u64 s.ba] 70)).alloc (.cells #[.int .u8 21, .int .u8 a, .int .u8 b, .int .u8 d, .int .i16 n] 74)).alloc (.cells #[.int .u8 0, .int .u64 0] 50) = W at *
  refine (HC.out).mono ?_
  rintro e w4 ⟨rfl, h4⟩
  have h5 := (E0.out).x.kept h4.gr (by simp; omega)
  have k0 := h5.k0
  have k1 := h5.k1
  have kf := h5.fz
  have H5 := Lib.hid h5
  have H4 := Lib.hid h4
  clear h4 h5
  go_wp2
  refine retX (hr := rfl) (hp := rfl) (hx := H5.out) (hR := ⟨rfl, HOUT.out _ _ _ _ H4.out⟩)
set_option maxHeartbeats 1000000 in
theorem do_22 {w : World} {B : Nat} {s : SV} {L : Ly} {m : MV} (h : LS w B s) (hM : Mm w L m) (hs : s.ok) (hst : s.st = 0) (h0 : B ≠ L.M) (h1 : ¬ pgS L m B) (c a b d : Nat) (n : Int) (time me : Nat) (hme : me < 9223372036854775808) (ha : a < 16) (hb : b < 16) (hd : d < 16) (hc : c = 22) :
    Calls Tryd.prog 24 #[.pointer (some ⟨B, 0, none⟩), memV L s.ba, opV c a b d n, .int .u64 time, .int .i64 me] w fun e w' => e = .returned (exV 0 0) ∧ Aft w B L m (backV s) (m) w' := by
  subst hc
  obtain ⟨E, X, hbw⟩ := en3 h (busV L) (.int .u64 s.ba) 22 a b d n
  have HM := Lib.hid (hM.below hbw)
  have hlt := h.lt
  have E0 := Lib.hid E
  have x0 := X.k0
  have x1 := X.k1
  have o0 := E.op.k0
  have o1 := E.op.k1
  have o2 := E.op.k2
  have o3 := E.op.k3
  have o4 := E.op.k4
  have HOUT : Hid (∀ w3 t x y, Sn (((w.alloc (.cells #[busV L, .int .u64 s.ba] 70)).alloc (.cells #[.int .u8 (22 : Nat), .int .u8 a, .int .u8 b, .int .u8 d, .int .i16 n] 74)).alloc (.cells #[.int .u8 0, .int .u64 0] 50)) w3 B t → Aft w B L m t m ((w3.setCell ⟨w.heap.size + 2, 0, none⟩ x).setCell ⟨w.heap.size + 2, 1, none⟩ y)) :=
    Lib.hid (fun w3 t x y hsn => Aft.out (s := s) hM hlt (Trn.below hbw) HM.out rfl hsn h0 h1 (by omega) x y)
  have HOUT2 : Hid (∀ w3 t m' x y, m'.he = m.he → Aft (((w.alloc (.cells #[busV L, .int .u64 s.ba] 70)).alloc (.cells #[.int .u8 (22 : Nat), .int .u8 a, .int .u8 b, .int .u8 d, .int .i16 n] 74)).alloc (.cells #[.int .u8 0, .int .u64 0] 50)) B L m t m' w3 → Aft w B L m t m' ((w3.setCell ⟨w.heap.size + 2, 0, none⟩ x).setCell ⟨w.heap.size + 2, 1, none⟩ y)) :=
    Lib.hid (fun w3 t m' x y hhe hA => Aft.later hM hlt hbw hA hhe (by omega) x y)
  have n3 := pg_new hM (i := w.heap.size + 2) (by omega)
  have HC := Lib.hid (back_in E.sn.ls)
  unfold memV at *
  unfold opV exV at *
  clear h hM hbw X E
  generalize backV s = tv at *
  generalize busV L = bus at *
  go_enter Tryd.func24, Tryd.ntmps24
  go_wp2_with fail
  generalize ((w.alloc (.cells #[bus, .int .u64 s.ba] 70)).alloc (.cells #[.int .u8 22, .int .u8 a, .int .u8 b, .int .u8 d, .int .i16 n] 74)).alloc (.cells #[.int .u8 0, .int .u64 0] 50) = W at *
  refine (HC.out).mono ?_
  rintro e w4 ⟨rfl, h4⟩
  have h5 := (E0.out).x.kept h4.gr (by simp; omega)
  have k0 := h5.k0
  have k1 := h5.k1
  have kf := h5.fz
  have H5 := Lib.hid h5
  have H4 := Lib.hid h4
  clear h4 h5
  go_wp2
  refine retX (hr := rfl) (hp := rfl) (hx := H5.out) (hR := ⟨rfl, HOUT.out _ _ _ _ H4.out⟩)
set_option maxHeartbeats 1000000 in
theorem do_0 {w : World} {B : Nat} {s : SV} {L : Ly} {m : MV} (h : LS w B s) (hM : Mm w L m) (hs : s.ok) (hst : s.st = 0) (h0 : B ≠ L.M) (h1 : ¬ pgS L m B) (c a b d : Nat) (n : Int) (time me : Nat) (hme : me < 9223372036854775808) (ha : a < 16) (hb : b < 16) (hd : d < 16) (hc : c = 0) :
    Calls Tryd.prog 24 #[.pointer (some ⟨B, 0, none⟩), memV L s.ba, opV c a b d n, .int .u64 time, .int .i64 me] w fun e w' => e = .returned (exV 0 0) ∧ Aft w B L m (nextV s) (m) w' := by
  subst hc
  obtain ⟨E, X, hbw⟩ := en3 h (busV L) (.int .u64 s.ba) 0 a b d n
  have HM := Lib.hid (hM.below hbw)
  have hlt := h.lt
  have E0 := Lib.hid E
  have x0 := X.k0
  have x1 := X.k1
  have o0 := E.op.k0
  have o1 := E.op.k1
  have o2 := E.op.k2
  have o3 := E.op.k3
  have o4 := E.op.k4
  have HOUT : Hid (∀ w3 t x y, Sn (((w.alloc (.cells #[busV L, .int .u64 s.ba] 70)).alloc (.cells #[.int .u8 (0 : Nat), .int .u8 a, .int .u8 b, .int .u8 d, .int .i16 n] 74)).alloc (.cells #[.int .u8 0, .int .u64 0] 50)) w3 B t → Aft w B L m t m ((w3.setCell ⟨w.heap.size + 2, 0, none⟩ x).setCell ⟨w.heap.size + 2, 1, none⟩ y)) :=
    Lib.hid (fun w3 t x y hsn => Aft.out (s := s) hM hlt (Trn.below hbw) HM.out rfl hsn h0 h1 (by omega) x y)
  have HOUT2 : Hid (∀ w3 t m' x y, m'.he = m.he → Aft (((w.alloc (.cells #[busV L, .int .u64 s.ba] 70)).alloc (.cells #[.int .u8 (0 : Nat), .int .u8 a, .int .u8 b, .int .u8 d, .int .i16 n] 74)).alloc (.cells #[.int .u8 0, .int .u64 0] 50)) B L m t m' w3 → Aft w B L m t m' ((w3.setCell ⟨w.heap.size + 2, 0, none⟩ x).setCell ⟨w.heap.size + 2, 1, none⟩ y)) :=
    Lib.hid (fun w3 t m' x y hhe hA => Aft.later hM hlt hbw hA hhe (by omega) x y)
  have n3 := pg_new hM (i := w.heap.size + 2) (by omega)
  have HC : Hid (∀ U, LS U B s → Calls Tryd.prog 42 #[.pointer (some ⟨B, 0, none⟩), exV 0 0] U fun e w' => e = .returned (exV 0 0) ∧ Sn U w' B (nextV s)) := Lib.hid (fun U hU => next_in hU 0 0)
  unfold memV at *
  unfold opV exV at *
  clear h hM hbw X E
  generalize nextV s = tv at *
  generalize busV L = bus at *
  go_enter Tryd.func24, Tryd.ntmps24
  go_wp2_with fail
  generalize ((w.alloc (.cells #[bus, .int .u64 s.ba] 70)).alloc (.cells #[.int .u8 0, .int .u8 a, .int .u8 b, .int .u8 d, .int .i16 n] 74)).alloc (.cells #[.int .u8 0, .int .u64 0] 50) = W at *
  refine (HC.out _ (E0.out).sn.ls).mono ?_
  rintro e w4 ⟨rfl, h4⟩
  have h5 := (E0.out).x.kept h4.gr (by simp; omega)
  have k0 := h5.k0
  have k1 := h5.k1
  have kf := h5.fz
  have H5 := Lib.hid h5
  have H4 := Lib.hid h4
  clear h4 h5
  go_wp2
  refine retX (hr := rfl) (hp := rfl) (hx := H5.out) (hR := ⟨rfl, HOUT.out _ _ _ _ H4.out⟩)
set_option maxHeartbeats 1000000 in
theorem do_r {w : World} {B : Nat} {s : SV} {L : Ly} {m : MV} (h : LS w B s) (hM : Mm w L m) (hs : s.ok) (hst : s.st = 0) (h0 : B ≠ L.M) (h1 : ¬ pgS L m B) (c a b d : Nat) (n : Int) (time me : Nat) (hme : me < 9223372036854775808) (ha : a < 16) (hb : b < 16) (hd : d < 16) (hc : 1 ≤ c ∧ c ≤ 11) :
    Calls Tryd.prog 24 #[.pointer (some ⟨B, 0, none⟩), memV L s.ba, opV c a b d n, .int .u64 time, .int .i64 me] w fun e w' => e = .returned (exV 0 0) ∧ Aft w B L m (nextV (setR s a (reckN s c a b d n))) (m) w' := by
  obtain ⟨E, X, hbw⟩ := en3 h (busV L) (.int .u64 s.ba) c a b d n
  have HM := Lib.hid (hM.below hbw)
  have hlt := h.lt
  have E0 := Lib.hid E
  have x0 := X.k0
  have x1 := X.k1
  have o0 := E.op.k0
  have o1 := E.op.k1
  have o2 := E.op.k2
  have o3 := E.op.k3
  have o4 := E.op.k4
  have HOUT : Hid (∀ w3 t x y, Sn (((w.alloc (.cells #[busV L, .int .u64 s.ba] 70)).alloc (.cells #[.int .u8 c, .int .u8 a, .int .u8 b, .int .u8 d, .int .i16 n] 74)).alloc (.cells #[.int .u8 0, .int .u64 0] 50)) w3 B t → Aft w B L m t m ((w3.setCell ⟨w.heap.size + 2, 0, none⟩ x).setCell ⟨w.heap.size + 2, 1, none⟩ y)) :=
    Lib.hid (fun w3 t x y hsn => Aft.out (s := s) hM hlt (Trn.below hbw) HM.out rfl hsn h0 h1 (by omega) x y)
  have HOUT2 : Hid (∀ w3 t m' x y, m'.he = m.he → Aft (((w.alloc (.cells #[busV L, .int .u64 s.ba] 70)).alloc (.cells #[.int .u8 c, .int .u8 a, .int .u8 b, .int .u8 d, .int .i16 n] 74)).alloc (.cells #[.int .u8 0, .int .u64 0] 50)) B L m t m' w3 → Aft w B L m t m' ((w3.setCell ⟨w.heap.size + 2, 0, none⟩ x).setCell ⟨w.heap.size + 2, 1, none⟩ y)) :=
    Lib.hid (fun w3 t m' x y hhe hA => Aft.later hM hlt hbw hA hhe (by omega) x y)
  have n3 := pg_new hM (i := w.heap.size + 2) (by omega)
  have HK := Lib.hid (fun U (hU : LS U B s) => reckon_in hU hs c a b d n ha hb hd hc)
  have HC : Hid (∀ v U, LS U B (setR s a v) → Calls Tryd.prog 42 #[.pointer (some ⟨B, 0, none⟩), exV 0 0] U fun e w' => e = .returned (exV 0 0) ∧ Sn U w' B (nextV (setR s a v))) := Lib.hid (fun v U hU => next_in hU 0 0)
  have z0 : ((c : Int) == 0) = false := by simp; omega
  have z12 : ((c : Int) == 12) = false := by simp; omega
  have z13 : ((c : Int) == 13) = false := by simp; omega
  have z14 : ((c : Int) == 14) = false := by simp; omega
  have z15 : ((c : Int) == 15) = false := by simp; omega
  have z16 : ((c : Int) == 16) = false := by simp; omega
  have z17 : ((c : Int) == 17) = false := by simp; omega
  have z18 : ((c : Int) == 18) = false := by simp; omega
  have z19 : ((c : Int) == 19) = false := by simp; omega
  have z20 : ((c : Int) == 20) = false := by simp; omega
  have z21 : ((c : Int) == 21) = false := by simp; omega
  have z22 : ((c : Int) == 22) = false := by simp; omega
  have g0 : (a : Int) < 16 := by omega
  unfold memV at *
  unfold opV exV at *
  clear h hM hbw X E hc
  generalize reckN s c a b d n = v at *
  generalize busV L = bus at *
  go_enter Tryd.func24, Tryd.ntmps24
  go_wp2_with fail
  generalize ((w.alloc (.cells #[bus, .int .u64 s.ba] 70)).alloc (.cells #[.int .u8 c, .int .u8 a, .int .u8 b, .int .u8 d, .int .i16 n] 74)).alloc (.cells #[.int .u8 0, .int .u64 0] 50) = W at *
  have OV : opV c a b d n = .agg #[.int .u8 c, .int .u8 a, .int .u8 b, .int .u8 d, .int .i16 n] := rfl
  refine ZR.wp_region_C (EC2 w W B (two1 s (setR s a v)) (w.heap.size + 1) c a b d n (w.heap.size + 2)) (fun i => [5, 9].contains i) (by kernel_rfl) (by kernel_rfl) (by kernel_rfl) (by kernel_rfl) ⟨(E0.out).drewN 1, (Sn.self (E0.out).sn.ls).drawn 1⟩ ?_
  iterate 2 (refine RQ.wpT_reads rfl (fun K hK => ?_); go_simp; refine ⟨_, fun _ _ _ => rfl, hK _ ?_⟩; clear hK K)
  refine ZR.valC rfl rfl (.int .u8 a) (fun j w' h' => ZR.run_ld1 5 (.tmp 71) rfl _ _ rfl (ld8 h'.1.op.k1)) ?_
  go_simp
  iterate 1 (refine RQ.wpT_reads rfl (fun K hK => ?_); go_simp; refine ⟨_, fun _ _ _ => rfl, hK _ ?_⟩; clear hK K)
  refine ZR.valC rfl rfl (opV c a b d n) (fun j w' h' => ZR.run_ld1 74 (.tmp 7) rfl _ _ rfl (ldO h'.1.op)) ?_
  rw [OV]
  go_simp
  refine RQ.wpT_turns rfl rfl _ (ZR.turnsC_ask 46 #[.pointer (some ⟨B, 0, none⟩), .agg #[.int .u8 c, .int .u8 a, .int .u8 b, .int .u8 d, .int .i16 n]] (fun w => by simp [go_sem]) (.int .u64 v) (fun w' h' => (HK.out w' h'.1.sn.ls).mono (fun e w'' q => ⟨q.1, h'.1.below q.2, h'.2.grow q.2⟩))) ?_
  go_simp
  iterate 3 (refine RQ.wpT_reads rfl (fun K hK => ?_); go_simp; refine ⟨_, fun _ _ _ => rfl, hK _ ?_⟩; clear hK K)
  refine RQ.wpT_turns rfl rfl _ (ZR.turnsC_st ⟨B, a, none⟩ (.int .u64 v) (fun w' h' => ZR.run_st1 22 (.tmp 78) (.tmp 75) rfl _ _ rfl rfl (st64 (h'.1.sn.ls.reg a ha) (h'.1.sn.ls.fz a))) (fun w' h' => ⟨h'.1.turn ((Sn.self h'.1.sn.ls).setR a v ha), h'.2.setR a v ha⟩)) ?_
  refine RQ.wpT_nil ?_
  intro w2 h2
  go_simp
  have h2' : En w w2 B (setR s a v) (w.heap.size + 1) c a b d n (w.heap.size + 2) := h2.1
  have S2 : Hid (Sn W w2 B (setR s a v)) := Lib.hid h2.2
  have HO := Lib.hid h2'
  clear h2 h2'
  go_wp2_with fail
  refine (HC.out _ _ (HO.out).sn.ls).mono ?_
  rintro e w4 ⟨rfl, h4⟩
  have h5 := (HO.out).x.kept h4.gr (by simp; omega)
  have k0 := h5.k0
  have k1 := h5.k1
  have kf := h5.fz
  have H5 := Lib.hid h5
  have H4 := Lib.hid ((S2.out).trans h4)
  clear h4 h5
  go_wp2
  refine retX (hr := rfl) (hp := rfl) (hx := H5.out) (hR := ⟨rfl, HOUT.out _ _ _ _ H4.out⟩)
end Go.Proofs.YtpbjfjedgcabhaaDoor
