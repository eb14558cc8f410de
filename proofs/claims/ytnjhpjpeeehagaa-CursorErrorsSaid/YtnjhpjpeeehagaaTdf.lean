/-
  The document's Find, Side.
-/
import Derived.Test.YtnjhpjpeeehagaaTfw
set_option linter.unusedVariables false
namespace Go.Proofs.Ytnjhpjpeeehagaa
open Go.RowKit

def cntP (key : Bytes) (l : List It) : Nat := (l.filter fun a => decide (cmp a.1 key < 0)).length
def isP (key : Bytes) (l : List It) : Bool := l.any fun a => decide (cmp a.1 key = 0)
/-- The last kid behind the first one whose key is not above. -/
def lastP (key : Bytes) (l : List Kd) : Nat → Nat
  | 0 => 0
  | k + 1 => if 1 ≤ k ∧ cmp (l.getD k ([], 0)).1 key ≤ 0 then k else lastP key l k
theorem cnt_take {key : Bytes} {l : List It} {k : Nat} {y : It} (h : l[k]? = some y) : cntP key (l.take (k + 1)) = cntP key (l.take k) + (if cmp y.1 key < 0 then 1 else 0) := by
  rw [List.take_add_one, h]
  by_cases hc : cmp y.1 key < 0 <;> simp [cntP, hc]
theorem is_take {key : Bytes} {l : List It} {k : Nat} {y : It} (h : l[k]? = some y) : isP key (l.take (k + 1)) = (isP key (l.take k) || decide (cmp y.1 key = 0)) := by
  rw [List.take_add_one, h]
  simp [isP]
theorem cnt_le (key : Bytes) (l : List It) : cntP key l ≤ l.length := List.length_filter_le _ _
theorem last_le (key : Bytes) (l : List Kd) : ∀ k, lastP key l k ≤ k
  | 0 => Nat.le_refl _
  | k + 1 => by
    rw [lastP]
    split
    · omega
    · exact Nat.le_succ_of_le (last_le key l k)
end Go.Proofs.Ytnjhpjpeeehagaa
