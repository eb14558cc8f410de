/-
  PageHeads: the walk.
-/
import Derived.Test.YtoghojgajpfkkaaGreatDoorHeq
import Derived.Test.YtoghojgajpfkkaaGreatDoorGa
set_option linter.unusedVariables false
namespace Go.Proofs.YtoghojgajpfkkaaGreatDoor
open Go.RowKit

theorem few_c (w : World) (A : Option Addr) (n c : Nat) (b : Bool) (hb : decide (n ≤ 2000) = b) : Calls Tryz.prog 4 #[.slice A n c] w fun e w' => e = .returned (.bool b) ∧ w = w' := by
  subst hb
  by_cases h : n ≤ 2000
  · have hi : (n : Int) ≤ 2000 := by omega
    rw [decide_eq_true h]
    go_enter Tryz.func4, Tryz.ntmps4
    go_wp2
    go_ret
    exact ⟨by simp [], rfl⟩
  · have hi : ¬ (n : Int) ≤ 2000 := by omega
    rw [decide_eq_false h]
    go_enter Tryz.func4, Tryz.ntmps4
    go_wp2
    go_ret
    exact ⟨by first | (simp; done) | (simp; omega), rfl⟩
end Go.Proofs.YtoghojgajpfkkaaGreatDoor
