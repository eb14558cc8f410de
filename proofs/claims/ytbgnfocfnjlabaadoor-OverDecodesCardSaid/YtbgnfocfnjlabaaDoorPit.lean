/-
  putItem: an item behind what the writer has.
-/
import Derived.Test.YtbgnfocfnjlabaaDoorPkd
set_option linter.unusedVariables false
namespace Go.Proofs.YtbgnfocfnjlabaaDoor
open Go.RowKit

/-- The cursor behind an item. -/
def itC (C : Cur) (g : Int) (n m : Nat) (s r : Int) (key val : Bytes) : Cur :=
  if far m r = true then ((((C.put n 1).put 1 1).put (long m s r) 2).write key).put r (tr g 4 8 8) else ((((C.put n 1).put 0 1).put (long m s r) 2).write key).write val
end Go.Proofs.YtbgnfocfnjlabaaDoor
