/-
  put of the document: a number behind bytes of the call's own.
-/
import Derived.Test.YtoghojgajpfkkaaGreatDoorGe
import Derived.Test.YtoghojgajpfkkaaGreatDoorGa
set_option linter.unusedVariables false
namespace Go.Proofs.YtoghojgajpfkkaaGreatDoor
open Go.RowKit

end Go.Proofs.YtoghojgajpfkkaaGreatDoor
