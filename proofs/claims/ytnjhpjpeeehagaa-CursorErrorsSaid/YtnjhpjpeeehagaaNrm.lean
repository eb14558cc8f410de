/-
  Room, Fits, Low, middle of the program.
-/
import Derived.Test.YtnjhpjpeeehagaaEnt
set_option linter.unusedVariables false
namespace Go.Proofs.Ytnjhpjpeeehagaa
open Go.RowKit
attribute [local go_sem] run_store_func

theorem rms_leaf {x : Nd} (g : Int) (h : x.leaf = true) : rms g x = x.its.map (irm g) := by unfold rms; rw [if_pos h]
theorem rms_kids {x : Nd} (g : Int) (h : x.leaf = false) : rms g x = x.kds.map (krm g) := by unfold rms; rw [if_neg (by rw [h]; decide)]
section
variable (w : World) (A B : Option Addr) (n c m d : Nat) (x : Nd) (g : Int)

theorem Blk.three {w : World} {g : Nat} {t : TypeId} {a b c : Value} (h : Blk w g t [a, b, c]) : w.cell? ⟨g, 0, none⟩ = some a ∧ w.cell? ⟨g, 1, none⟩ = some b ∧ w.cell? ⟨g, 2, none⟩ = some c := ⟨h.cell 0, h.cell 1, h.cell 2⟩
/-- The place at which a row of such room is cut is handed back. -/
def Mid (w : World) (l : List Int) (e : Ending) (w' : World) : Prop := ∃ k : Nat, e = .returned (.int .i64 k) ∧ IsMid l k ∧ Only (w.heap.size ≤ ·) w w'

end
end Go.Proofs.Ytnjhpjpeeehagaa
