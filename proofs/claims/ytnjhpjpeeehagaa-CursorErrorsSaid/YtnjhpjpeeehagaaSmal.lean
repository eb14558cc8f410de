/-
  Small words: what a call tells.
-/
import Derived.Test.YtnjhpjpeeehagaaMem
import Derived.Deep.RegionHeld3
import Derived.IntWalk
import Derived.OwnWalk
import Derived.Outline
set_option linter.unusedVariables false
namespace Go.Proofs.Ytnjhpjpeeehagaa
open Go.RowKit

/-- Returned with this value; what was there is as it was. -/
def Told (w : World) (v : Value) (e : Ending) (w' : World) : Prop := e = .returned v ∧ Only (w.heap.size ≤ ·) w w'
theorem Told.later {w w' : World} {v : Value} {e : Ending} {w1 : World} (h : Told w' v e w1) (ho : Only (w.heap.size ≤ ·) w w') : Told w v e w1 := ⟨h.1, ho.trans (h.2.mono fun _ hk => Nat.le_trans ho.size hk)⟩
theorem on_new {w0 w w' : World} (h : Only (w0.heap.size ≤ ·) w0 w) (ho : Only (w.heap.size ≤ ·) w w') : Only (w0.heap.size ≤ ·) w0 w' := h.trans (ho.mono fun k hk => Nat.le_trans h.size hk)

def gen (g : Int) : Bool := decide (1 ≤ g ∧ g ≤ 3)
theorem gen_iff (g : Int) : gen g = true ↔ g = 1 ∨ g = 2 ∨ g = 3 := by unfold gen; rw [decide_eq_true_eq]; omega
def tr (g a b c : Int) : Int := if g = 1 then a else if g = 2 then b else if g = 3 then c else 0
theorem tr_no {g : Int} (h : gen g = false) (a b c : Int) : tr g a b c = 0 := by
  have : ¬ (g = 1 ∨ g = 2 ∨ g = 3) := fun hh => by rw [(gen_iff g).2 hh] at h; cases h
  unfold tr
  rw [if_neg (by omega), if_neg (by omega), if_neg (by omega)]

def hasOf (g : Int) : Value := .agg #[.int .i64 (tr g 16 20 24), .int .i64 (tr g 400 800 1600), .int .i64 (tr g 4 8 8), .int .i64 (tr g 8 16 16)]
end Go.Proofs.Ytnjhpjpeeehagaa
