/-
  headFor, unplaced.
-/
import Derived.Test.YtbgnfocfnjlabaaDoorPit
import Derived.Test.YtbgnfocfnjlabaaDoorPhd
set_option linter.unusedVariables false
namespace Go.Proofs.YtbgnfocfnjlabaaDoor
open Go.RowKit

def hfV (g : Int) (lf : Bool) (i k : Nat) : Value := .agg #[.int .i64 (if lf = true then 76 else 66), .int .i64 g, .int .i64 (if lf = true then (i : Int) else (k : Int)), .int .i64 0]
/-- Is a value too long for the leaf, with no place outside? -/
def unp (m : Nat) (r : Int) : Bool := far m r && decide (r = 0)
end Go.Proofs.YtbgnfocfnjlabaaDoor
