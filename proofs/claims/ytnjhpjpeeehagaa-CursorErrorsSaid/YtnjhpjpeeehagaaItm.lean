/-
  What the program, and what the document, says of one item: by plain functions of its lengths and numbers.
-/
import Derived.Test.YtnjhpjpeeehagaaSmal
import Derived.Deep.QuietTactic
import Derived.BigQuiet
set_option linter.unusedVariables false
namespace Go.Proofs.Ytnjhpjpeeehagaa
open Go.RowKit

theorem Blk.later {w w' : World} {g : Nat} {t : TypeId} {cs : List Value} (h : Blk w g t cs) (ho : Only (w.heap.size ≤ ·) w w') : Blk w' g t cs := h.only ho (by have := h.lt; omega)
theorem Blk.four {w : World} {g : Nat} {t : TypeId} {a b c d : Value} (h : Blk w g t [a, b, c, d]) : w.cell? ⟨g, 0, none⟩ = some a ∧ w.cell? ⟨g, 1, none⟩ = some b ∧ w.cell? ⟨g, 2, none⟩ = some c ∧ w.cell? ⟨g, 3, none⟩ = some d := ⟨h.cell 0, h.cell 1, h.cell 2, h.cell 3⟩

def far (m : Nat) (r : Int) : Bool := decide (r ≠ 0 ∨ 32 < m)
def long (m : Nat) (s r : Int) : Int := if r = 0 then (m : Int) else s
def keyOk (g : Int) (n : Nat) : Bool := decide (1 ≤ n ∧ (n : Int) ≤ tr g 16 20 24)
def why (g : Int) (n m : Nat) : Int := if gen g = true then (if keyOk g n = true then (if (m : Int) ≤ tr g 400 800 1600 then 0 else 51) else 50) else 1
def putOk (m : Nat) (s r : Int) : Bool := decide ((r = 0 ∧ s = 0) ∨ (r ≠ 0 ∧ 2 ≤ r ∧ r < 16384 ∧ 32 < s ∧ m = 0))
def okay (g : Int) (n m : Nat) (s r : Int) : Bool := gen g && (keyOk g n && (decide (long m s r ≤ tr g 400 800 1600) && putOk m s r))
def room (g : Int) (n m : Nat) (r : Int) : Int := if gen g = true then 4 + n + (if far m r = true then tr g 4 8 8 else (m : Int)) else 0
def kid (g : Int) (n : Nat) : Int := if gen g = true then 1 + n + tr g 4 8 8 else 0

section
variable (w : World) (A B : Option Addr) (n c m d : Nat) (s r : Int)

end
section
variable (w : World) (A B : Option Addr) (n c m d : Nat) (s r g : Int)

end
end Go.Proofs.Ytnjhpjpeeehagaa
