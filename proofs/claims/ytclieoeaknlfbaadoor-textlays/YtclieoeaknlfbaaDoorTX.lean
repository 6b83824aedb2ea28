/-
  What package text's callees in Go's library answer, each by its contract of the shelf, laid at this cut: strconv.Itoa, ParseInt (10, 16), ParseUint (10, 8), strings.Cut, TrimPrefix; and what they ask of the world.
-/
import Derived.Test.YtclieoeaknlfbaaDoorCE
import Derived.Test.YtclieoeaknlfbaaDoorLT
import Derived.Shelf.Strconv.Itoa3
import Derived.Shelf.Strconv.ErrVarParseInt
import Derived.Shelf.Pu.ErrVarParseUint
import Derived.Shelf.Strings.Shaped
import Derived.Shelf.Strings.Prefix
import Derived.Shelf.Lay
import Derived.Ground.NamesProg
import Derived.Ground.MpProg
import Derived.WalkSmall
import Derived.Lib.LaidTab
namespace Go.Proofs.YtclieoeaknlfbaaDoor
open Go.Shelf Go.Proofs
shelf_lay LaysM.n171 Nm 171 at Tryd as lays_itoa
shelf_lay LaysC.n174 Nm 174 at Tryd as lays_pint
shelf_lay LaysPu.n14 Mp 14 at Tryd as lays_puint
shelf_lay Lays.n145 Nm 145 at Tryd as lays_cut
shelf_lay LaysM.n145 Nm 145 at Tryd as lays_cutM
shelf_lay Lays.n101 Nm 101 at Tryd as lays_trimp

open Go.ChangeShapes Go.WideShapes Go.ChangeAt Go.RowKit
open WM CM
set_option maxRecDepth 100000

/-- An operation's name. -/
def nameTab : List (List UInt8) := [[110, 111, 112], [108, 105], [108, 117], [97, 100, 100], [115, 117, 98], [109, 117, 108], [97, 110, 100], [111, 114], [120, 111, 114], [115, 104, 108], [115, 104, 114], [97, 100, 100, 105], [108, 100], [115, 116], [98, 101, 113], [98, 110, 101], [98, 108, 116], [106, 97, 108], [114, 100], [119, 114], [104, 118, 99], [119, 102, 105], [114, 101, 116]]
def nameL (c : Nat) : List UInt8 := nameTab.getD c []
def str (l : List UInt8) : ByteArray := ⟨l.toArray⟩
def namesArr : Array Value := (nameTab.map fun l => Value.string (str l)).toArray
theorem namesArr_at (c : Nat) (h : c < 23) : namesArr[c]? = some (.string (str (nameL c))) := by
  have : nameTab.length = 23 := by decide
  simp [namesArr, nameL, List.getD_eq_getElem?_getD, List.getElem?_eq_getElem (show c < nameTab.length by omega)]
/-- What the calls ask of the package variables. -/
structure TW (w : World) : Prop where
  names : w.var? Tryd.prog "hermitcrab/text.names" = some namesArr
  maxl : ∃ m : Int, w.cell? ⟨1, 0, none⟩ = some (.int .i64 m)
  pow : Lib.TabIs Tryd.prog w "internal/strconv.uint64pow10" .u64 Lib.pow10Tab
  esyn : ∃ te pe, w.var? Tryd.prog "strconv.ErrSyntax" = some #[.iface te pe]
  eran : ∃ te pe, w.var? Tryd.prog "strconv.ErrRange" = some #[.iface te pe]
theorem var_lt {w : World} {n : String} {g : Nat} {cs : Array Value} (hg : Tryd.prog.globalNamed n = some g) (h : w.var? Tryd.prog n = some cs) : g < w.heap.size := by
  unfold World.var? at h
  rw [hg] at h
  rcases Nat.lt_or_ge g w.heap.size with hlt | hge
  · exact hlt
  · simp [Array.getElem?_eq_none hge] at h
theorem var_later {w w' : World} {n : String} {g : Nat} {cs : Array Value} (hg : Tryd.prog.globalNamed n = some g) (h : w.var? Tryd.prog n = some cs) (hb : Below w.heap.size w w') : w'.var? Tryd.prog n = some cs :=
  var?_below hb hg (var_lt hg h) h
theorem TW.later {w w' : World} (h : TW w) (hb : Below w.heap.size w w') : TW w' := by
  obtain ⟨h1, ⟨m, h2⟩, h3, ⟨t1, p1, h4⟩, ⟨t2, p2, h5⟩⟩ := h
  exact ⟨var_later (g := 0) (by kernel_rfl) h1 hb, ⟨m, (hb.cell (World.block_lt_of_cell? w ⟨1, 0, none⟩ h2)).trans h2⟩, var_later (g := 6) (by kernel_rfl) h3 hb, ⟨t1, p1, var_later (g := 4) (by kernel_rfl) h4 hb⟩, ⟨t2, p2, var_later (g := 5) (by kernel_rfl) h5 hb⟩⟩
theorem var_cell {w : World} {n : String} {g : Nat} {cs : Array Value} (hg : Tryd.prog.globalNamed n = some g) (h : w.var? Tryd.prog n = some cs) (i : Nat) : w.cell? ⟨g, i, none⟩ = cs[i]? := by
  unfold World.var? at h
  rw [hg] at h
  simp only [Option.bind_some] at h
  split at h
  · rename_i cs' t f hh
    injection h with h
    subst h
    simp [World.cell?, hh]
  · cases h
theorem TW.name {w : World} (h : TW w) (c : Nat) (hc : c < 23) : w.cell? ⟨0, c, none⟩ = some (.string (str (nameL c))) := by
  rw [var_cell (g := 0) (by kernel_rfl) h.names c]; exact namesArr_at c hc

theorem below_grow (w : World) (k : Nat) (os : Array Obj) : Below w.heap.size w (Go.Sort.grow (w.drewN k) os) :=
  ⟨rfl, rfl, rfl, by simp [Go.Sort.grow], fun j hj => by simp [Go.Sort.grow, Array.getElem?_append, hj]⟩
theorem below_bytes (w : World) (t : TypeId) (s : ByteArray) : Below w.heap.size w (Lib.bytesWorld w t s) := Lib.bytesWorld_below w t s

theorem itoa_in (n : Int) (w : World) (h0 : -9223372036854775808 ≤ n) (h1 : n ≤ 9223372036854775807) (hT : TW w) :
    Calls Tryd.prog 34 #[.int .i64 n] w fun e w' => e = .returned (.string (str (Lib.itoa n))) ∧ Below w.heap.size w w' :=
  (Any.strconv_Itoa lays_itoa n h0 h1 w hT.pow).mono fun _ _ ⟨he, k, os, hw⟩ => ⟨he, by subst hw; exact below_grow w k os⟩
/-- What ParseInt(s, 10, 16) tells of a text. -/
def pintV (l : List UInt8) : Int := match Lib.parseIntB 16 l with
  | .ok v => v
  | .«syntax» => 0
  | .range => Lib.intSat 16 l
theorem pint_in (s : ByteArray) (w : World) (hs : s.size ≤ 1000000) (hT : TW w) :
    Calls Tryd.prog 37 #[.string s, .int .i64 10, .int .i64 16] w fun e w' => ∃ ev, e = .returned (.tuple #[.int .i64 (pintV s.data.toList), ev]) ∧ Below w.heap.size w w' := by
  obtain ⟨t1, p1, h4⟩ := hT.esyn
  obtain ⟨t2, p2, h5⟩ := hT.eran
  unfold pintV
  cases h : Lib.parseIntB 16 s.data.toList with
  | ok v => exact (Any.strconv_ParseInt_10_at16_ok lays_pint s (by omega) v h w).mono fun _ _ ⟨he, hw⟩ => ⟨_, he, by
      rcases hw with rfl | ⟨t, rfl⟩
      · exact Below.refl _ _
      · exact below_bytes w _ t⟩
  | «syntax» => exact (Any.strconv_ParseInt_10_at16_syntax_var lays_pint s (by omega) h t1 p1 w h4).mono fun _ _ ⟨N, he, _, _, hb⟩ => ⟨_, he, hb⟩
  | range => exact (Any.strconv_ParseInt_10_at16_range_var lays_pint s (by omega) h t2 p2 w h5).mono fun _ _ ⟨N, he, _, _, hb⟩ => ⟨_, he, hb⟩
/-- What ParseUint(s, 10, 8) tells of a text. -/
def puintV (l : List UInt8) : Nat := match Lib.parseUintB 8 l with
  | .ok v => v
  | .«syntax» => 0
  | .range => 255
theorem puint_in (s : ByteArray) (w : World) (hs : s.size ≤ 1000000) (hT : TW w) :
    Calls Tryd.prog 50 #[.string s, .int .i64 10, .int .i64 8] w fun e w' => ∃ ev, e = .returned (.tuple #[.int .u64 (puintV s.data.toList : Nat), ev]) ∧ Below w.heap.size w w' := by
  obtain ⟨t1, p1, h4⟩ := hT.esyn
  obtain ⟨t2, p2, h5⟩ := hT.eran
  unfold puintV
  cases h : Lib.parseUintB 8 s.data.toList with
  | ok v => exact (Any.strconv_ParseUint_10_at8_ok lays_puint s (by omega) v h w).mono fun _ _ ⟨he, hw⟩ => ⟨_, he, by
      rcases hw with rfl | rfl
      · exact Below.refl _ _
      · exact below_bytes w _ s⟩
  | «syntax» => exact (Any.strconv_ParseUint_10_at8_syntax_var lays_puint s (by omega) h t1 p1 w h4).mono fun _ _ ⟨N, he, _, _, hb⟩ => ⟨_, he, hb⟩
  | range => exact (Any.strconv_ParseUint_10_at8_range_var lays_puint s (by omega) h t2 p2 w h5).mono fun _ _ ⟨N, he, _, _, hb⟩ => ⟨_, he, hb⟩
theorem cut_in (s sep : ByteArray) (w : World) (hs : s.size ≤ 1000000) (hT : TW w) :
    Calls Tryd.prog 14 #[.string s, .string sep] w fun e w' =>
      e = .returned (.tuple #[.string (str (Lib.cut s.data.toList sep.data.toList).1), .string (str (Lib.cut s.data.toList sep.data.toList).2.1), .bool (Lib.cut s.data.toList sep.data.toList).2.2]) ∧ Below w.heap.size w w' := by
  obtain ⟨m, hm⟩ := hT.maxl
  exact (Any.strings_Cut lays_cut s sep m w (by omega) (by show w.cell? ⟨1, 0, none⟩ = _; exact hm)).mono fun _ _ ⟨he, n, hw⟩ => ⟨he, by subst hw; exact below_draws (Below.refl _ _) n⟩
theorem trimp_in (s p : ByteArray) (w : World) :
    Calls Tryd.prog 51 #[.string s, .string p] w fun e w' => e = .returned (.string (str (Lib.trimPrefix s.data.toList p.data.toList))) ∧ w = w' :=
  (Any.strings_TrimPrefix lays_trimp s p w).mono fun _ _ ⟨he, hw⟩ => ⟨he, hw.symm⟩
end Go.Proofs.YtclieoeaknlfbaaDoor
