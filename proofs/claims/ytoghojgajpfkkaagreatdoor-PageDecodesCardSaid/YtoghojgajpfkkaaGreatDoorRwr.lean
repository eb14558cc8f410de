/-
  Wrap of the document, and that the program's says the same.
-/
import Derived.Test.YtoghojgajpfkkaaGreatDoorRpt
import Derived.Test.YtoghojgajpfkkaaGreatDoorBak
set_option linter.unusedVariables false
namespace Go.Proofs.YtoghojgajpfkkaaGreatDoor
open Go.RowKit

section
variable {P : Program} {w : World}
end
/-- Under way: the bytes stand in a row of the call's own. -/
def OwnR (w1 wr : World) (v : Value) (xs : Bytes) : Prop := wr.ownsRow w1.heap.size 5 1 v xs.length (cb xs) ∧ Only (w1.heap.size ≤ ·) w1 wr
theorem OwnR.put {w1 wr w' : World} {v v' : Value} {xs ys : Bytes} (h : OwnR w1 wr v xs) (h' : w'.ownsRow w1.heap.size 5 1 v' ys.length (cb ys)) (ho : Only (w1.heap.size ≤ ·) wr w') : OwnR w1 w' v' ys := ⟨h', h.2.trans ho⟩
end Go.Proofs.YtoghojgajpfkkaaGreatDoor
