/-
  No cell of these rows narrows 'for every input' (looked for: loops, veiled, ifaces, maps, wideKeys, modest, calm, conditions, laid).
  DERIVED. THE GIVEN ROWS OF THIS SEAT. 5 by the template 'for every input the law returns true; each argument reads behind the call as it read before'; 0 by the template 'total and deterministic' (their statements: YtfiahkjaeeoepaaTotals.lean).
  GIVEN WITH THE SEED: the statements are not yours to turn. If you find one false, say at which input.
  Laid BY PROGRAM, IN A SANDBOX (cutbox-rows.mjs): the forced cells as the released guide's own fill.sh prints them over the translation aa0a1f90a6749221… (all of the seat's roots in one cut). By AI agents, Wed Nov 11 2026. No macro, syntax, notation, axiom, sorry.
-/
import Derived.Test.YtfiahkjaeeoepaaChecked
import GoSem.Claim
import GoSem.ClaimJoined
import GoSem.ClaimMapViews
import Derived.JoinedTies
import Derived.KernelRfl
namespace Go.Proofs.Ytfiahkjaeeoepaa
/- THE CELL 'sum', in the pinned program and in every row, IS THE sha256 OF THE DUMP (.gsa) THAT YtfiahkjaeeoepaaProg.lean LOADS. Nothing in Lean hashes anything: it is a label: what it is worth is what the hold of that sum in a sandbox is worth. -/
noncomputable def Try.pinned : Pinned := { name := "ytfiahkjaeeoepaa", sum := "aa0a1f90a6749221e8e1a705937804c82bcd450a5c3fceb5b8abcfd2de32149b", checked := Try.checked }
namespace Rows
def none {H : Type} : Left H := { results := [], args := [] }

/-- 'hermitcrablaw10.AlarmPlays': WHATEVER THE INPUT: true; the input reads as it did. -/
def alarmPlaysSpec : ChangeSpec := { name := "alarmPlays", fn := fun _ => fun
  | [d] => { results := [.lit (.bool true)], args := [d] }
  | _ => none }
def alarmPlaysRow : OpenClaim := { program := "ytfiahkjaeeoepaa", sum := "aa0a1f90a6749221e8e1a705937804c82bcd450a5c3fceb5b8abcfd2de32149b", func := "hermitcrab/hermitcrablaw10.AlarmPlays", spec := "alarmPlays", unfollowed := true, recurses := true, apart := false }
def AlarmPlaysSaid : Prop := alarmPlaysRow.holds Try.pinned (OpenSpec.ofChange alarmPlaysSpec)

/-- ITS FALSE NEIGHBOUR: 'it returns false'. Refute it at one input. -/
def alarmPlaysWrong : ChangeSpec := { name := "alarmPlays", fn := fun _ => fun
  | [d] => { results := [.lit (.bool false)], args := [d] }
  | _ => none }
def AlarmPlaysWrongFalsely : Prop := alarmPlaysRow.holds Try.pinned (OpenSpec.ofChange alarmPlaysWrong)

/-- 'hermitcrablaw10.AlarmTwins': WHATEVER THE INPUT: true; the input reads as it did. -/
def alarmTwinsSpec : ChangeSpec := { name := "alarmTwins", fn := fun _ => fun
  | [d1, d2] => { results := [.lit (.bool true)], args := [d1, d2] }
  | _ => none }
def alarmTwinsRow : OpenClaim := { program := "ytfiahkjaeeoepaa", sum := "aa0a1f90a6749221e8e1a705937804c82bcd450a5c3fceb5b8abcfd2de32149b", func := "hermitcrab/hermitcrablaw10.AlarmTwins", spec := "alarmTwins", unfollowed := true, recurses := true, apart := false }
def AlarmTwinsSaid : Prop := alarmTwinsRow.holds Try.pinned (OpenSpec.ofChange alarmTwinsSpec)

/-- ITS FALSE NEIGHBOUR: 'it returns false'. Refute it at one input. -/
def alarmTwinsWrong : ChangeSpec := { name := "alarmTwins", fn := fun _ => fun
  | [d1, d2] => { results := [.lit (.bool false)], args := [d1, d2] }
  | _ => none }
def AlarmTwinsWrongFalsely : Prop := alarmTwinsRow.holds Try.pinned (OpenSpec.ofChange alarmTwinsWrong)

/-- 'hermitcrablaw10.AlarmNil': WHATEVER THE INPUT: true; the input reads as it did. -/
def alarmNilSpec : ChangeSpec := { name := "alarmNil", fn := fun _ => fun
  | [d1, d2, d3] => { results := [.lit (.bool true)], args := [d1, d2, d3] }
  | _ => none }
def alarmNilRow : OpenClaim := { program := "ytfiahkjaeeoepaa", sum := "aa0a1f90a6749221e8e1a705937804c82bcd450a5c3fceb5b8abcfd2de32149b", func := "hermitcrab/hermitcrablaw10.AlarmNil", spec := "alarmNil", unfollowed := true, recurses := true, apart := false }
def AlarmNilSaid : Prop := alarmNilRow.holds Try.pinned (OpenSpec.ofChange alarmNilSpec)

/-- ITS FALSE NEIGHBOUR: 'it returns false'. Refute it at one input. -/
def alarmNilWrong : ChangeSpec := { name := "alarmNil", fn := fun _ => fun
  | [d1, d2, d3] => { results := [.lit (.bool false)], args := [d1, d2, d3] }
  | _ => none }
def AlarmNilWrongFalsely : Prop := alarmNilRow.holds Try.pinned (OpenSpec.ofChange alarmNilWrong)

/-- 'hermitcrablaw10.AlarmEnds': WHATEVER THE INPUT: true; the input reads as it did. -/
def alarmEndsSpec : ChangeSpec := { name := "alarmEnds", fn := fun _ => fun
  | [d1, d2] => { results := [.lit (.bool true)], args := [d1, d2] }
  | _ => none }
def alarmEndsRow : OpenClaim := { program := "ytfiahkjaeeoepaa", sum := "aa0a1f90a6749221e8e1a705937804c82bcd450a5c3fceb5b8abcfd2de32149b", func := "hermitcrab/hermitcrablaw10.AlarmEnds", spec := "alarmEnds", unfollowed := true, recurses := true, apart := false }
def AlarmEndsSaid : Prop := alarmEndsRow.holds Try.pinned (OpenSpec.ofChange alarmEndsSpec)

/-- ITS FALSE NEIGHBOUR: 'it returns false'. Refute it at one input. -/
def alarmEndsWrong : ChangeSpec := { name := "alarmEnds", fn := fun _ => fun
  | [d1, d2] => { results := [.lit (.bool false)], args := [d1, d2] }
  | _ => none }
def AlarmEndsWrongFalsely : Prop := alarmEndsRow.holds Try.pinned (OpenSpec.ofChange alarmEndsWrong)

/-- 'hermitcrablaw10.AlarmOnce': WHATEVER THE INPUT: true; the input reads as it did. -/
def alarmOnceSpec : ChangeSpec := { name := "alarmOnce", fn := fun _ => fun
  | [d1, d2, d3] => { results := [.lit (.bool true)], args := [d1, d2, d3] }
  | _ => none }
def alarmOnceRow : OpenClaim := { program := "ytfiahkjaeeoepaa", sum := "aa0a1f90a6749221e8e1a705937804c82bcd450a5c3fceb5b8abcfd2de32149b", func := "hermitcrab/hermitcrablaw10.AlarmOnce", spec := "alarmOnce", unfollowed := true, recurses := true, apart := false }
def AlarmOnceSaid : Prop := alarmOnceRow.holds Try.pinned (OpenSpec.ofChange alarmOnceSpec)

/-- ITS FALSE NEIGHBOUR: 'it returns false'. Refute it at one input. -/
def alarmOnceWrong : ChangeSpec := { name := "alarmOnce", fn := fun _ => fun
  | [d1, d2, d3] => { results := [.lit (.bool false)], args := [d1, d2, d3] }
  | _ => none }
def AlarmOnceWrongFalsely : Prop := alarmOnceRow.holds Try.pinned (OpenSpec.ofChange alarmOnceWrong)

/- THE SECOND FORM. 'bulk': how many values and letters a reading holds, each counted each time it is reached (what is shared counts as often as it is met; a slice's spare places count too). A statement '..UptoSaid' is the law's where the arguments, and the package variables that the reading takes, are together of bulk at most 1048576: NARROWER than '..Said'. Prove '..Said' where nothing that the law and all that it calls make is longer than what came in: it says more and counts as full. Else prove '..UptoSaid'. A law counts once. -/
mutual
def uptoBulk {H : Type} : DataW H → Nat
  | .lit (.string bytes) => bytes.length + 1
  | .lit _ => 1
  | .nil => 1
  | .ptr d => uptoBulk d + 1
  | .slice elems spare => uptoBulkAll elems + uptoBulkAll spare + 1
  | .agg parts => uptoBulkAll parts + 1
  | .iface _ d => uptoBulk d + 1
  | .map entries => uptoBulkEntries entries + 1
  | .held _ => 1
def uptoBulkAll {H : Type} : List (DataW H) → Nat
  | [] => 0
  | d :: r => uptoBulk d + uptoBulkAll r
def uptoBulkEntries {H : Type} : List (Lit × DataW H) → Nat
  | [] => 0
  | x :: r => uptoBulkEntry x + uptoBulkEntries r
def uptoBulkEntry {H : Type} : Lit × DataW H → Nat
  | (.string bytes, d) => bytes.length + uptoBulk d + 1
  | (_, d) => uptoBulk d + 1
 end
def uptoSmall : (H : Type) → List (DataW H) → Bool := fun _ ds => decide (uptoBulkAll ds ≤ 1048576)
def OpenSpec.upto (s : _root_.Go.ChangeSpec) : _root_.Go.OpenSpec := { _root_.Go.OpenSpec.ofChange s with cond := some uptoSmall }

/-- 'hermitcrablaw10.AlarmPlays', WHERE WHAT IT READS IS OF BULK AT MOST 1048576: true; the input reads as it did. -/
def alarmPlaysUptoRow : OpenClaim := { program := "ytfiahkjaeeoepaa", sum := "aa0a1f90a6749221e8e1a705937804c82bcd450a5c3fceb5b8abcfd2de32149b", func := "hermitcrab/hermitcrablaw10.AlarmPlays", spec := "alarmPlays", unfollowed := true, recurses := true, apart := false, narrowed := true }
def AlarmPlaysUptoSaid : Prop := alarmPlaysUptoRow.holds Try.pinned (OpenSpec.upto alarmPlaysSpec)

/-- 'hermitcrablaw10.AlarmTwins', WHERE WHAT IT READS IS OF BULK AT MOST 1048576: true; the input reads as it did. -/
def alarmTwinsUptoRow : OpenClaim := { program := "ytfiahkjaeeoepaa", sum := "aa0a1f90a6749221e8e1a705937804c82bcd450a5c3fceb5b8abcfd2de32149b", func := "hermitcrab/hermitcrablaw10.AlarmTwins", spec := "alarmTwins", unfollowed := true, recurses := true, apart := false, narrowed := true }
def AlarmTwinsUptoSaid : Prop := alarmTwinsUptoRow.holds Try.pinned (OpenSpec.upto alarmTwinsSpec)

/-- 'hermitcrablaw10.AlarmNil', WHERE WHAT IT READS IS OF BULK AT MOST 1048576: true; the input reads as it did. -/
def alarmNilUptoRow : OpenClaim := { program := "ytfiahkjaeeoepaa", sum := "aa0a1f90a6749221e8e1a705937804c82bcd450a5c3fceb5b8abcfd2de32149b", func := "hermitcrab/hermitcrablaw10.AlarmNil", spec := "alarmNil", unfollowed := true, recurses := true, apart := false, narrowed := true }
def AlarmNilUptoSaid : Prop := alarmNilUptoRow.holds Try.pinned (OpenSpec.upto alarmNilSpec)

/-- 'hermitcrablaw10.AlarmEnds', WHERE WHAT IT READS IS OF BULK AT MOST 1048576: true; the input reads as it did. -/
def alarmEndsUptoRow : OpenClaim := { program := "ytfiahkjaeeoepaa", sum := "aa0a1f90a6749221e8e1a705937804c82bcd450a5c3fceb5b8abcfd2de32149b", func := "hermitcrab/hermitcrablaw10.AlarmEnds", spec := "alarmEnds", unfollowed := true, recurses := true, apart := false, narrowed := true }
def AlarmEndsUptoSaid : Prop := alarmEndsUptoRow.holds Try.pinned (OpenSpec.upto alarmEndsSpec)

/-- 'hermitcrablaw10.AlarmOnce', WHERE WHAT IT READS IS OF BULK AT MOST 1048576: true; the input reads as it did. -/
def alarmOnceUptoRow : OpenClaim := { program := "ytfiahkjaeeoepaa", sum := "aa0a1f90a6749221e8e1a705937804c82bcd450a5c3fceb5b8abcfd2de32149b", func := "hermitcrab/hermitcrablaw10.AlarmOnce", spec := "alarmOnce", unfollowed := true, recurses := true, apart := false, narrowed := true }
def AlarmOnceUptoSaid : Prop := alarmOnceUptoRow.holds Try.pinned (OpenSpec.upto alarmOnceSpec)

end Rows
end Go.Proofs.Ytfiahkjaeeoepaa
