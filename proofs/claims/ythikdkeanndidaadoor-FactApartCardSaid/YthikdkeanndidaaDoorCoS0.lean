/-
  CONTRACTS: (*Dice).Code: a block of its code.
-/
import Derived.Test.YthikdkeanndidaaDoorCoB
import Derived.Test.YthikdkeanndidaaDoorTpO
namespace Go.Proofs.YthikdkeanndidaaDoor
open Go Go.RowKit Go.Maps
set_option linter.unusedVariables false
set_option linter.unusedSimpArgs false
set_option maxRecDepth 1000000

/-- the block of a number in a code -/
def findBlk (n : Nat) : Code → Option Code
  | .block id b => if id = n then some (.block id b) else findBlk n b
  | .seq a b => match findBlk n a with
    | some c => some c
    | none => findBlk n b
  | .cond _ a b => match findBlk n a with
    | some c => some c
    | none => findBlk n b
  | .loop b => findBlk n b
  | .scope b => findBlk n b
  | _ => none
end Go.Proofs.YthikdkeanndidaaDoor
