/-
  A block of a function's code, found by its number.
-/
import Derived.Test.YtjidhmdphlmldaaKI
namespace Go.Proofs.Ytjidhmdphlmldaa
open Go.ChangeShapes Go.WideShapes Go.ChangeAt Go.RowKit

def blockOf (n : Nat) : Code → Option Code
  | .block i c => if i = n then some (.block i c) else blockOf n c
  | .seq a b => match blockOf n a with
    | some c => some c
    | none => blockOf n b
  | .cond _ a b => match blockOf n a with
    | some c => some c
    | none => blockOf n b
  | .loop c => blockOf n c
  | .scope c => blockOf n c
  | _ => none
def blk (f : Func) (n : Nat) : Code := (f.body.bind (blockOf n)).getD .skip
end Go.Proofs.Ytjidhmdphlmldaa
