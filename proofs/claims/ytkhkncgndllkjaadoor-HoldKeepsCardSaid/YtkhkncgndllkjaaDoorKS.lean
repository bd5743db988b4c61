/- The switch of HoldKeeps, found in the law's code. Conditions: none. -/
import Derived.Test.YtkhkncgndllkjaaDoorK13
import Derived.Test.YtkhkncgndllkjaaDoorEAny
import Derived.Test.YtkhkncgndllkjaaDoorH1
import Derived.Deep.DeepCutAuto
namespace Go.Proofs.YtkhkncgndllkjaaDoor.Hol
open Go.RowKit

/-- The block of a number in a code. -/
def findB (n : Nat) : Code → Option Code
  | .block i c => if i = n then some (.block i c) else findB n c
  | .seq a b => match findB n a with | some c => some c | none => findB n b
  | .cond _ a b => match findB n a with | some c => some c | none => findB n b
  | .loop c => findB n c
  | _ => none
end Go.Proofs.YtkhkncgndllkjaaDoor.Hol
