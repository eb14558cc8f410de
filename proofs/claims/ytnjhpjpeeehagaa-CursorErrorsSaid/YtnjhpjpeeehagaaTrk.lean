/-
  The document's keys.
-/
import Derived.Test.YtnjhpjpeeehagaaTst
set_option linter.unusedVariables false
namespace Go.Proofs.Ytnjhpjpeeehagaa
open Go.RowKit

def keysOf (x : Nd) : List Bytes := if x.leaf = true then x.its.map (·.1) else x.kds.map (·.1)
def okK (last : Option Bytes) (eq : Bool) (hi : Option Bytes) (k : Bytes) : Prop := (∀ b, last = some b → ¬ (cmp k b < 0 ∨ cmp k b = 0 ∧ eq = false)) ∧ ∀ h, hi = some h → ¬ 0 ≤ cmp k h
/-- The keys rise from a bound on, and end below another one. -/
def KeysP (hi : Option Bytes) : Option Bytes → Bool → List Bytes → Prop
  | _, _, [] => True
  | la, eq, k :: r => okK la eq hi k ∧ KeysP hi (some k) false r
def restK (x : Nd) (k : Nat) : List Bytes := (keysOf x).drop (if x.leaf = false ∧ k = 0 then 1 else k)
def KeysSays (w : World) (P : Prop) (e : Ending) (w' : World) : Prop := (∃ r, e = .returned (.bool r) ∧ (r = true ↔ P)) ∧ Only (w.heap.size ≤ ·) w w'
theorem keys_len (x : Nd) : (keysOf x).length = many x := by
  unfold keysOf many
  split <;> simp
theorem rest_cons {x : Nd} {k : Nat} {y : Bytes} (h : (keysOf x)[k]? = some y) (hk : x.leaf = true ∨ k ≠ 0) : restK x k = y :: restK x (k + 1) := by
  unfold restK
  rw [if_neg (fun e => hk.elim (fun h => by rw [e.1] at h; cases h) (fun h => h e.2)), if_neg (fun e => absurd e.2 (by omega))]
  obtain ⟨h1, h2⟩ := List.getElem?_eq_some_iff.1 h
  rw [List.drop_eq_getElem_cons h1, h2]
theorem rest_skip {x : Nd} (h : x.leaf = false) : restK x 0 = restK x (0 + 1) := by
  unfold restK
  rw [if_pos ⟨h, rfl⟩, if_neg (fun e => absurd e.2 (by omega))]
theorem rest_end {x : Nd} {k : Nat} (h : many x ≤ k) : restK x k = [] := by
  unfold restK
  rw [List.drop_eq_nil_iff, keys_len]
  split
  · rename_i e
    have := e.2
    omega
  · exact h
theorem two_cells {w : World} {g : Nat} {t : TypeId} {a b : Value} (h : Blk w g t [a, b]) : w.cell? ⟨g, 0, none⟩ = some a ∧ w.cell? ⟨g, 1, none⟩ = some b := ⟨by rw [h.cell]; rfl, by rw [h.cell]; rfl⟩
theorem heapLast {w : World} {g : Nat} {t : TypeId} {cs : List Value} (e : g = w.heap.size) : Blk (w.alloc (.cells cs.toArray t)) g t cs := by
  subst e
  exact Blk.new w t cs
end Go.Proofs.Ytnjhpjpeeehagaa
