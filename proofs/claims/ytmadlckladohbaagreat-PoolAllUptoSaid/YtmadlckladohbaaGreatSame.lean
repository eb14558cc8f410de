/-
  few, old and of of the law; Same of the document.
-/
import Derived.Test.YtmadlckladohbaaGreatRigt
import Derived.OwnWalk
import Derived.Maps.AppendAt
set_option linter.unusedVariables false
namespace Go.Proofs.YtmadlckladohbaaGreat
open Go.RowKit

def short (l : List R) : Bool := decide (l.length ≤ 60) && l.all fun x => !(may x && decide (600 < x.1 + x.2))

end Go.Proofs.YtmadlckladohbaaGreat
