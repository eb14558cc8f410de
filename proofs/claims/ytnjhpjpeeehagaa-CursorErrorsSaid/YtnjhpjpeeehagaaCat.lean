/-
  slices.Grow of nil, slices.Concat of at most three rows, slices.Clone, cell by cell.
-/
import Derived.Test.YtnjhpjpeeehagaaRow
import Derived.Laws.AppendOwnNone
import Derived.Shelf.Spec.SlicesGrow
set_option linter.unusedVariables false
namespace Go.Proofs.Ytnjhpjpeeehagaa
open Go.RowKit Go.Proofs

def zI : Value := .agg #[.slice none 0 0, .slice none 0 0, .int .i64 0, .int .i64 0]
def zK : Value := .agg #[.slice none 0 0, .int .i64 0]
theorem info_I : (Try.prog.info? 39).map (fun i => (i.zero, i.size, i.bytes)) = some (some zI, 4, 64) := by kernel_rfl
theorem info_K : (Try.prog.info? 97).map (fun i => (i.zero, i.size, i.bytes)) = some (some zK, 2, 32) := by kernel_rfl

/-- A slice value of n elements of z cells each, these cells. -/
def RawV (z : Nat) (w : World) (v : Value) (n : Nat) (C : List Value) : Prop := ∃ A c, v = .slice A n c ∧ C.length = n * z ∧ Raw w A C ∧ (A = none → c = 0) ∧ n ≤ c ∧ c ≤ 9223372036854775807 ∧ ∀ u ∈ C, u.oneCell' = true
theorem RawV.later {z n : Nat} {w w' : World} {v : Value} {C : List Value} (h : RawV z w v n C) (ho : Only (w.heap.size ≤ ·) w w') : RawV z w' v n C := by
  obtain ⟨A, c, h1, h2, h3, h4⟩ := h
  exact ⟨A, c, h1, h2, h3.later ho, h4⟩
/-- A row of the call's own comes back; these cells. -/
def OwnsR (w : World) (t : TypeId) (z n : Nat) (C : List Value) (e : Ending) (w' : World) : Prop := ∃ v, e = .returned v ∧ w'.ownsRow w.heap.size t z v n C ∧ Only (w.heap.size ≤ ·) w w'

abbrev Lst := List (Value × Nat × List Value)
def lens (L : Lst) : Nat := (L.map fun x => x.2.1).sum
def flat (L : Lst) : List Value := L.flatMap (·.2.2)
theorem lens_snoc {L : Lst} {k : Nat} {x : Value × Nat × List Value} (h : L[k]? = some x) : lens (L.take (k + 1)) = lens (L.take k) + x.2.1 := by
  unfold lens; rw [List.take_add_one, h]; simp
theorem flat_snoc {L : Lst} {k : Nat} {x : Value × Nat × List Value} (h : L[k]? = some x) : flat (L.take (k + 1)) = flat (L.take k) ++ x.2.2 := by
  unfold flat; rw [List.take_add_one, h]; simp

end Go.Proofs.Ytnjhpjpeeehagaa
