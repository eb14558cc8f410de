/-
  What is asked of a node's items, or kids, one by one.
-/
import Derived.Test.YtnjhpjpeeehagaaPln
import Derived.Test.YtnjhpjpeeehagaaRoom
import Derived.Test.YtnjhpjpeeehagaaOf
set_option linter.unusedVariables false
namespace Go.Proofs.Ytnjhpjpeeehagaa
open Go.RowKit

theorem run_store_func {P : Program} {w : World} {a : Addr} {m : Mode} (fn : Fn) (x y : Array Value) : (store a (.func fn x y) m).run P w = stored P w a (.func fn x y) m := run_store P w a _ m rfl
attribute [local go_sem] run_store_func
/-- A value that holds these bytes is handed back; what was there is as it was. -/
def Gave (w : World) (xs : Bytes) (e : Ending) (w' : World) : Prop := ∃ A c, e = .returned (.slice A xs.length c) ∧ Src w' (.slice A xs.length c) xs ∧ Only (w.heap.size ≤ ·) w w'
section
variable (w : World) (f : Bool) (A B : Option Addr) (n c m d k : Nat) (x : Nd) (g : Int)

end
end Go.Proofs.Ytnjhpjpeeehagaa
