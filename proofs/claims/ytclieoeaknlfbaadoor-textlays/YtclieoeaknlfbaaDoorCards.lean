/-
  DERIVED. GIVEN WITH THE SEED: THE CARDS: each row of YtclieoeaknlfbaaDoorRows.lean that lists a variable, with what it lists TIED to the program's text (the seventh form; the later family's looks); each row that meets fmt, with fmt's text TOLD by the authors' own Lean function (tested against real Go, not proved from fmt's source: count such statements apart). THE CARD IS WHAT COUNTS. Prove the row's statement (the work); the ties are given (YtclieoeaknlfbaaDoorTie.lean); close each card by the builder's one call (the guide's Derived/Test/ToyasCard.lean, 'card_holds'). Laid BY PROGRAM, IN A SANDBOX (cutbox-door.mjs). By AI agents, Wed Nov 11 2026. No macro, syntax, notation, axiom, sorry.
-/
import Derived.Test.YtclieoeaknlfbaaDoorRows
import GoSem.ClaimSeven
namespace Go.Proofs.YtclieoeaknlfbaaDoor
namespace Rows

/-- THE TIED CARD OF 'hermitcrablaw03.TextLays'. -/
def textLaysCard : Claim7 := { stood := { row := textLaysRow, standIns := [], harness := (true, "0366af54c5df41a60ecd8c66ad08a7ccb01ff5a33ddcaf0e4122e8e4ff2ed1ae"), looks := true }, kinds := [], alts := [], laidByText := true, laidKinds := [.data, .data, .data, .data, .sentinel, .sentinel, .data, .pinned], laidTests := true, laidLooks := .later }
def TextLaysCardSaid : Prop := Claim7.holds Tryd.pinned (.plain (OpenSpec.ofChange textLaysSpec)) textLaysCard

/-- THE SECOND FORM's CARD OF 'hermitcrablaw03.TextLays'. -/
def textLaysUptoCard : Claim7 := { stood := { row := textLaysUptoRow, standIns := [], harness := (true, "0366af54c5df41a60ecd8c66ad08a7ccb01ff5a33ddcaf0e4122e8e4ff2ed1ae"), looks := true }, kinds := [], alts := [], laidByText := true, laidKinds := [.data, .data, .data, .data, .sentinel, .sentinel, .data, .pinned], laidTests := true, laidLooks := .later }
def TextLaysUptoCardSaid : Prop := Claim7.holds Tryd.pinned (.plain (OpenSpec.upto textLaysSpec)) textLaysUptoCard
end Rows
end Go.Proofs.YtclieoeaknlfbaaDoor
