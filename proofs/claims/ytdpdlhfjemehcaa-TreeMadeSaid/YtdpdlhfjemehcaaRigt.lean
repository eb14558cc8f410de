/-
  Right, Room, KidRoom of the program.
-/
import Derived.Test.YtdpdlhfjemehcaaItm
set_option linter.unusedVariables false
namespace Go.Proofs.Ytdpdlhfjemehcaa
open Go.RowKit

section
variable (w : World) (A B : Option Addr) (n c m d : Nat) (s r g : Int)

end
end Go.Proofs.Ytdpdlhfjemehcaa
