/-
  No cell of these rows narrows 'for every input' (looked for: loops, veiled, ifaces, maps, wideKeys, modest, calm, conditions, laid).
  DERIVED. THE GIVEN ROWS OF THIS SEAT. 8 by the template 'for every input the law returns true; each argument reads behind the call as it read before'; 0 by the template 'total and deterministic' (their statements: YthafcgppopfdkaaTotals.lean).
  GIVEN WITH THE SEED: the statements are not yours to turn. If you find one false, say at which input.
  Laid BY PROGRAM, IN A SANDBOX (cutbox-rows.mjs): the forced cells as the released guide's own fill.sh prints them over the translation 46e0dbb2327e759f… (all of the seat's roots in one cut). By AI agents, Wed Nov 11 2026. No macro, syntax, notation, axiom, sorry.
-/
import Derived.Test.YthafcgppopfdkaaChecked
import GoSem.Claim
import GoSem.ClaimJoined
import GoSem.ClaimMapViews
import Derived.JoinedTies
import Derived.KernelRfl
namespace Go.Proofs.Ythafcgppopfdkaa
/- THE CELL 'sum', in the pinned program and in every row, IS THE sha256 OF THE DUMP (.gsa) THAT YthafcgppopfdkaaProg.lean LOADS. Nothing in Lean hashes anything: it is a label: what it is worth is what the hold of that sum in a sandbox is worth. -/
noncomputable def Try.pinned : Pinned := { name := "ythafcgppopfdkaa", sum := "46e0dbb2327e759ff42551c74ffed30686686bc79f9ba12af63a4bba3c544e71", checked := Try.checked }
namespace Rows
def none {H : Type} : Left H := { results := [], args := [] }

/-- 'hermitcrablaw13.TurnPicks': WHATEVER THE INPUT: true; the input reads as it did. -/
def turnPicksSpec : ChangeSpec := { name := "turnPicks", fn := fun _ => fun
  | [d1, d2] => { results := [.lit (.bool true)], args := [d1, d2] }
  | _ => none }
def turnPicksRow : OpenClaim := { program := "ythafcgppopfdkaa", sum := "46e0dbb2327e759ff42551c74ffed30686686bc79f9ba12af63a4bba3c544e71", func := "hermitcrab/hermitcrablaw13.TurnPicks", spec := "turnPicks", apart := false }
def TurnPicksSaid : Prop := turnPicksRow.holds Try.pinned (OpenSpec.ofChange turnPicksSpec)

/-- ITS FALSE NEIGHBOUR: 'it returns false'. Refute it at one input. -/
def turnPicksWrong : ChangeSpec := { name := "turnPicks", fn := fun _ => fun
  | [d1, d2] => { results := [.lit (.bool false)], args := [d1, d2] }
  | _ => none }
def TurnPicksWrongFalsely : Prop := turnPicksRow.holds Try.pinned (OpenSpec.ofChange turnPicksWrong)

/-- 'hermitcrablaw13.TurnFair': WHATEVER THE INPUT: true; the input reads as it did. -/
def turnFairSpec : ChangeSpec := { name := "turnFair", fn := fun _ => fun
  | [d1, d2, d3] => { results := [.lit (.bool true)], args := [d1, d2, d3] }
  | _ => none }
def turnFairRow : OpenClaim := { program := "ythafcgppopfdkaa", sum := "46e0dbb2327e759ff42551c74ffed30686686bc79f9ba12af63a4bba3c544e71", func := "hermitcrab/hermitcrablaw13.TurnFair", spec := "turnFair", apart := false }
def TurnFairSaid : Prop := turnFairRow.holds Try.pinned (OpenSpec.ofChange turnFairSpec)

/-- ITS FALSE NEIGHBOUR: 'it returns false'. Refute it at one input. -/
def turnFairWrong : ChangeSpec := { name := "turnFair", fn := fun _ => fun
  | [d1, d2, d3] => { results := [.lit (.bool false)], args := [d1, d2, d3] }
  | _ => none }
def TurnFairWrongFalsely : Prop := turnFairRow.holds Try.pinned (OpenSpec.ofChange turnFairWrong)

/-- 'hermitcrablaw13.TurnNumbers': WHATEVER THE INPUT: true; the input reads as it did. -/
def turnNumbersSpec : ChangeSpec := { name := "turnNumbers", fn := fun _ => fun
  | [d1, d2, d3] => { results := [.lit (.bool true)], args := [d1, d2, d3] }
  | _ => none }
def turnNumbersRow : OpenClaim := { program := "ythafcgppopfdkaa", sum := "46e0dbb2327e759ff42551c74ffed30686686bc79f9ba12af63a4bba3c544e71", func := "hermitcrab/hermitcrablaw13.TurnNumbers", spec := "turnNumbers", apart := false }
def TurnNumbersSaid : Prop := turnNumbersRow.holds Try.pinned (OpenSpec.ofChange turnNumbersSpec)

/-- ITS FALSE NEIGHBOUR: 'it returns false'. Refute it at one input. -/
def turnNumbersWrong : ChangeSpec := { name := "turnNumbers", fn := fun _ => fun
  | [d1, d2, d3] => { results := [.lit (.bool false)], args := [d1, d2, d3] }
  | _ => none }
def TurnNumbersWrongFalsely : Prop := turnNumbersRow.holds Try.pinned (OpenSpec.ofChange turnNumbersWrong)

/-- 'hermitcrablaw13.TurnEven': WHATEVER THE INPUT: true; the input reads as it did. -/
def turnEvenSpec : ChangeSpec := { name := "turnEven", fn := fun _ => fun
  | [d1, d2] => { results := [.lit (.bool true)], args := [d1, d2] }
  | _ => none }
def turnEvenRow : OpenClaim := { program := "ythafcgppopfdkaa", sum := "46e0dbb2327e759ff42551c74ffed30686686bc79f9ba12af63a4bba3c544e71", func := "hermitcrab/hermitcrablaw13.TurnEven", spec := "turnEven", apart := false }
def TurnEvenSaid : Prop := turnEvenRow.holds Try.pinned (OpenSpec.ofChange turnEvenSpec)

/-- ITS FALSE NEIGHBOUR: 'it returns false'. Refute it at one input. -/
def turnEvenWrong : ChangeSpec := { name := "turnEven", fn := fun _ => fun
  | [d1, d2] => { results := [.lit (.bool false)], args := [d1, d2] }
  | _ => none }
def TurnEvenWrongFalsely : Prop := turnEvenRow.holds Try.pinned (OpenSpec.ofChange turnEvenWrong)

/-- 'hermitcrablaw14.LeasePlays': WHATEVER THE INPUT: true; the input reads as it did. -/
def leasePlaysSpec : ChangeSpec := { name := "leasePlays", fn := fun _ => fun
  | [d] => { results := [.lit (.bool true)], args := [d] }
  | _ => none }
def leasePlaysRow : OpenClaim := { program := "ythafcgppopfdkaa", sum := "46e0dbb2327e759ff42551c74ffed30686686bc79f9ba12af63a4bba3c544e71", func := "hermitcrab/hermitcrablaw14.LeasePlays", spec := "leasePlays", unfollowed := true, recurses := true, apart := false }
def LeasePlaysSaid : Prop := leasePlaysRow.holds Try.pinned (OpenSpec.ofChange leasePlaysSpec)

/-- ITS FALSE NEIGHBOUR: 'it returns false'. Refute it at one input. -/
def leasePlaysWrong : ChangeSpec := { name := "leasePlays", fn := fun _ => fun
  | [d] => { results := [.lit (.bool false)], args := [d] }
  | _ => none }
def LeasePlaysWrongFalsely : Prop := leasePlaysRow.holds Try.pinned (OpenSpec.ofChange leasePlaysWrong)

/-- 'hermitcrablaw14.LeaseGets': WHATEVER THE INPUT: true; the input reads as it did. -/
def leaseGetsSpec : ChangeSpec := { name := "leaseGets", fn := fun _ => fun
  | [d1, d2] => { results := [.lit (.bool true)], args := [d1, d2] }
  | _ => none }
def leaseGetsRow : OpenClaim := { program := "ythafcgppopfdkaa", sum := "46e0dbb2327e759ff42551c74ffed30686686bc79f9ba12af63a4bba3c544e71", func := "hermitcrab/hermitcrablaw14.LeaseGets", spec := "leaseGets", unfollowed := true, recurses := true, apart := false }
def LeaseGetsSaid : Prop := leaseGetsRow.holds Try.pinned (OpenSpec.ofChange leaseGetsSpec)

/-- ITS FALSE NEIGHBOUR: 'it returns false'. Refute it at one input. -/
def leaseGetsWrong : ChangeSpec := { name := "leaseGets", fn := fun _ => fun
  | [d1, d2] => { results := [.lit (.bool false)], args := [d1, d2] }
  | _ => none }
def LeaseGetsWrongFalsely : Prop := leaseGetsRow.holds Try.pinned (OpenSpec.ofChange leaseGetsWrong)

/-- 'hermitcrablaw14.LeaseFull': WHATEVER THE INPUT: true; the input reads as it did. -/
def leaseFullSpec : ChangeSpec := { name := "leaseFull", fn := fun _ => fun
  | [d1, d2, d3] => { results := [.lit (.bool true)], args := [d1, d2, d3] }
  | _ => none }
def leaseFullRow : OpenClaim := { program := "ythafcgppopfdkaa", sum := "46e0dbb2327e759ff42551c74ffed30686686bc79f9ba12af63a4bba3c544e71", func := "hermitcrab/hermitcrablaw14.LeaseFull", spec := "leaseFull", unfollowed := true, recurses := true, apart := false }
def LeaseFullSaid : Prop := leaseFullRow.holds Try.pinned (OpenSpec.ofChange leaseFullSpec)

/-- ITS FALSE NEIGHBOUR: 'it returns false'. Refute it at one input. -/
def leaseFullWrong : ChangeSpec := { name := "leaseFull", fn := fun _ => fun
  | [d1, d2, d3] => { results := [.lit (.bool false)], args := [d1, d2, d3] }
  | _ => none }
def LeaseFullWrongFalsely : Prop := leaseFullRow.holds Try.pinned (OpenSpec.ofChange leaseFullWrong)

/-- 'hermitcrablaw14.LeaseBack': WHATEVER THE INPUT: true; the input reads as it did. -/
def leaseBackSpec : ChangeSpec := { name := "leaseBack", fn := fun _ => fun
  | [d1, d2, d3, d4, d5, d6] => { results := [.lit (.bool true)], args := [d1, d2, d3, d4, d5, d6] }
  | _ => none }
def leaseBackRow : OpenClaim := { program := "ythafcgppopfdkaa", sum := "46e0dbb2327e759ff42551c74ffed30686686bc79f9ba12af63a4bba3c544e71", func := "hermitcrab/hermitcrablaw14.LeaseBack", spec := "leaseBack", unfollowed := true, recurses := true, apart := false }
def LeaseBackSaid : Prop := leaseBackRow.holds Try.pinned (OpenSpec.ofChange leaseBackSpec)

/-- ITS FALSE NEIGHBOUR: 'it returns false'. Refute it at one input. -/
def leaseBackWrong : ChangeSpec := { name := "leaseBack", fn := fun _ => fun
  | [d1, d2, d3, d4, d5, d6] => { results := [.lit (.bool false)], args := [d1, d2, d3, d4, d5, d6] }
  | _ => none }
def LeaseBackWrongFalsely : Prop := leaseBackRow.holds Try.pinned (OpenSpec.ofChange leaseBackWrong)

/- THE SECOND FORM. 'bulk': how many values and letters a reading holds, each counted each time it is reached (what is shared counts as often as it is met; a slice's spare places count too). A statement '..UptoSaid' is the law's where the arguments, and the package variables that the reading takes, are together of bulk at most 1048576: NARROWER than '..Said'. Prove '..Said' where nothing that the law and all that it calls make is longer than what came in: it says more and counts as full. Else prove '..UptoSaid'. A law counts once. -/
mutual
def uptoBulk {H : Type} : DataW H → Nat
  | .lit (.string bytes) => bytes.length + 1
  | .lit _ => 1
  | .nil => 1
  | .ptr d => uptoBulk d + 1
  | .slice elems spare => uptoBulkAll elems + uptoBulkAll spare + 1
  | .agg parts => uptoBulkAll parts + 1
  | .iface _ d => uptoBulk d + 1
  | .map entries => uptoBulkEntries entries + 1
  | .held _ => 1
def uptoBulkAll {H : Type} : List (DataW H) → Nat
  | [] => 0
  | d :: r => uptoBulk d + uptoBulkAll r
def uptoBulkEntries {H : Type} : List (Lit × DataW H) → Nat
  | [] => 0
  | x :: r => uptoBulkEntry x + uptoBulkEntries r
def uptoBulkEntry {H : Type} : Lit × DataW H → Nat
  | (.string bytes, d) => bytes.length + uptoBulk d + 1
  | (_, d) => uptoBulk d + 1
 end
def uptoSmall : (H : Type) → List (DataW H) → Bool := fun _ ds => decide (uptoBulkAll ds ≤ 1048576)
def OpenSpec.upto (s : _root_.Go.ChangeSpec) : _root_.Go.OpenSpec := { _root_.Go.OpenSpec.ofChange s with cond := some uptoSmall }

/-- 'hermitcrablaw13.TurnPicks', WHERE WHAT IT READS IS OF BULK AT MOST 1048576: true; the input reads as it did. -/
def turnPicksUptoRow : OpenClaim := { program := "ythafcgppopfdkaa", sum := "46e0dbb2327e759ff42551c74ffed30686686bc79f9ba12af63a4bba3c544e71", func := "hermitcrab/hermitcrablaw13.TurnPicks", spec := "turnPicks", apart := false, narrowed := true }
def TurnPicksUptoSaid : Prop := turnPicksUptoRow.holds Try.pinned (OpenSpec.upto turnPicksSpec)

/-- 'hermitcrablaw13.TurnFair', WHERE WHAT IT READS IS OF BULK AT MOST 1048576: true; the input reads as it did. -/
def turnFairUptoRow : OpenClaim := { program := "ythafcgppopfdkaa", sum := "46e0dbb2327e759ff42551c74ffed30686686bc79f9ba12af63a4bba3c544e71", func := "hermitcrab/hermitcrablaw13.TurnFair", spec := "turnFair", apart := false, narrowed := true }
def TurnFairUptoSaid : Prop := turnFairUptoRow.holds Try.pinned (OpenSpec.upto turnFairSpec)

/-- 'hermitcrablaw13.TurnNumbers', WHERE WHAT IT READS IS OF BULK AT MOST 1048576: true; the input reads as it did. -/
def turnNumbersUptoRow : OpenClaim := { program := "ythafcgppopfdkaa", sum := "46e0dbb2327e759ff42551c74ffed30686686bc79f9ba12af63a4bba3c544e71", func := "hermitcrab/hermitcrablaw13.TurnNumbers", spec := "turnNumbers", apart := false, narrowed := true }
def TurnNumbersUptoSaid : Prop := turnNumbersUptoRow.holds Try.pinned (OpenSpec.upto turnNumbersSpec)

/-- 'hermitcrablaw13.TurnEven', WHERE WHAT IT READS IS OF BULK AT MOST 1048576: true; the input reads as it did. -/
def turnEvenUptoRow : OpenClaim := { program := "ythafcgppopfdkaa", sum := "46e0dbb2327e759ff42551c74ffed30686686bc79f9ba12af63a4bba3c544e71", func := "hermitcrab/hermitcrablaw13.TurnEven", spec := "turnEven", apart := false, narrowed := true }
def TurnEvenUptoSaid : Prop := turnEvenUptoRow.holds Try.pinned (OpenSpec.upto turnEvenSpec)

/-- 'hermitcrablaw14.LeasePlays', WHERE WHAT IT READS IS OF BULK AT MOST 1048576: true; the input reads as it did. -/
def leasePlaysUptoRow : OpenClaim := { program := "ythafcgppopfdkaa", sum := "46e0dbb2327e759ff42551c74ffed30686686bc79f9ba12af63a4bba3c544e71", func := "hermitcrab/hermitcrablaw14.LeasePlays", spec := "leasePlays", unfollowed := true, recurses := true, apart := false, narrowed := true }
def LeasePlaysUptoSaid : Prop := leasePlaysUptoRow.holds Try.pinned (OpenSpec.upto leasePlaysSpec)

/-- 'hermitcrablaw14.LeaseGets', WHERE WHAT IT READS IS OF BULK AT MOST 1048576: true; the input reads as it did. -/
def leaseGetsUptoRow : OpenClaim := { program := "ythafcgppopfdkaa", sum := "46e0dbb2327e759ff42551c74ffed30686686bc79f9ba12af63a4bba3c544e71", func := "hermitcrab/hermitcrablaw14.LeaseGets", spec := "leaseGets", unfollowed := true, recurses := true, apart := false, narrowed := true }
def LeaseGetsUptoSaid : Prop := leaseGetsUptoRow.holds Try.pinned (OpenSpec.upto leaseGetsSpec)

/-- 'hermitcrablaw14.LeaseFull', WHERE WHAT IT READS IS OF BULK AT MOST 1048576: true; the input reads as it did. -/
def leaseFullUptoRow : OpenClaim := { program := "ythafcgppopfdkaa", sum := "46e0dbb2327e759ff42551c74ffed30686686bc79f9ba12af63a4bba3c544e71", func := "hermitcrab/hermitcrablaw14.LeaseFull", spec := "leaseFull", unfollowed := true, recurses := true, apart := false, narrowed := true }
def LeaseFullUptoSaid : Prop := leaseFullUptoRow.holds Try.pinned (OpenSpec.upto leaseFullSpec)

/-- 'hermitcrablaw14.LeaseBack', WHERE WHAT IT READS IS OF BULK AT MOST 1048576: true; the input reads as it did. -/
def leaseBackUptoRow : OpenClaim := { program := "ythafcgppopfdkaa", sum := "46e0dbb2327e759ff42551c74ffed30686686bc79f9ba12af63a4bba3c544e71", func := "hermitcrab/hermitcrablaw14.LeaseBack", spec := "leaseBack", unfollowed := true, recurses := true, apart := false, narrowed := true }
def LeaseBackUptoSaid : Prop := leaseBackUptoRow.holds Try.pinned (OpenSpec.upto leaseBackSpec)

end Rows
end Go.Proofs.Ythafcgppopfdkaa
