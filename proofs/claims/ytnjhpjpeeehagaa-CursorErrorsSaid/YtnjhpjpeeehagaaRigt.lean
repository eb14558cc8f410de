/-
  Right, Room, KidRoom of the program.
-/
import Derived.Test.YtnjhpjpeeehagaaItm
set_option linter.unusedVariables false
namespace Go.Proofs.Ytnjhpjpeeehagaa
open Go.RowKit

section
variable (w : World) (A B : Option Addr) (n c m d : Nat) (s r g : Int)

end
end Go.Proofs.Ytnjhpjpeeehagaa
