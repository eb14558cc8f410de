/-
  steps.
-/
import Derived.Test.YtnjhpjpeeehagaaTrp
import Derived.Test.YtnjhpjpeeehagaaSam
set_option linter.unusedVariables false
namespace Go.Proofs.Ytnjhpjpeeehagaa
open Go.RowKit

theorem ten_later {w W : World} {a0 a1 a2 a3 a4 a5 a6 a7 a8 a9 : Addr} {x0 x1 x2 x3 x4 x5 x6 x7 x8 x9 : Value} (h : w.cell? a0 = some x0 ∧ w.cell? a1 = some x1 ∧ w.cell? a2 = some x2 ∧ w.cell? a3 = some x3 ∧ w.cell? a4 = some x4 ∧ w.cell? a5 = some x5 ∧ w.cell? a6 = some x6 ∧ w.cell? a7 = some x7 ∧ w.cell? a8 = some x8 ∧ w.cell? a9 = some x9) (ho : Only (w.heap.size ≤ ·) w W) : W.cell? a0 = some x0 ∧ W.cell? a1 = some x1 ∧ W.cell? a2 = some x2 ∧ W.cell? a3 = some x3 ∧ W.cell? a4 = some x4 ∧ W.cell? a5 = some x5 ∧ W.cell? a6 = some x6 ∧ W.cell? a7 = some x7 ∧ W.cell? a8 = some x8 ∧ W.cell? a9 = some x9 := by
  obtain ⟨h0, h1, h2, h3, h4, h5, h6, h7, h8, h9⟩ := h
  exact ⟨cell_later h0 ho, cell_later h1 ho, cell_later h2 ho, cell_later h3 ho, cell_later h4 ho, cell_later h5 ho, cell_later h6 ho, cell_later h7 ho, cell_later h8 ho, cell_later h9 ho⟩
theorem on_eq {w W : World} {x : Nd} {f g : Bool} {A B A' B' : Option Addr} {n c m d n' c' m' d' : Nat} (h : Nod w x f (.slice A n c) (.slice B m d)) (k : Nod W x g (.slice A' n' c') (.slice B' m' d')) : n = n' := h.2.1.len.trans k.2.1.len.symm
theorem om_eq {w W : World} {x : Nd} {f g : Bool} {A B A' B' : Option Addr} {n c m d n' c' m' d' : Nat} (h : Nod w x f (.slice A n c) (.slice B m d)) (k : Nod W x g (.slice A' n' c') (.slice B' m' d')) : m = m' := h.2.2.len.trans k.2.2.len.symm
end Go.Proofs.Ytnjhpjpeeehagaa
