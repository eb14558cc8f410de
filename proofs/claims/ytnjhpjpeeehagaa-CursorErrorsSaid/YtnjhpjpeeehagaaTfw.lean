/-
  few, rises.
-/
import Derived.Test.YtnjhpjpeeehagaaTnm
import Derived.Test.YtnjhpjpeeehagaaSame
import Derived.Test.YtnjhpjpeeehagaaStp
import Derived.WalkSmall
set_option linter.unusedVariables false
namespace Go.Proofs.Ytnjhpjpeeehagaa
open Go.RowKit

def szN (x : Nm) : Nat := x.2.its.length + x.2.kds.length
def sumN (l : List Nm) : Nat := (l.map szN).sum
def fewB (l : List Nm) : Bool := decide (l.length ≤ 40) && decide (sumN l ≤ 200)
theorem sumN_take {l : List Nm} {k : Nat} {x : Nm} (h : l[k]? = some x) : sumN (l.take (k + 1)) = sumN (l.take k) + szN x := by
  rw [List.take_add_one, h]
  simp [sumN]
theorem sumN_le (l : List Nm) (k : Nat) : sumN (l.take k) ≤ sumN l := by
  have h : sumN l = sumN (l.take k) + sumN (l.drop k) := by
    conv => lhs; rw [← List.take_append_drop k l]
    simp [sumN, -List.take_append_drop]
  omega
theorem its_key {A : Option Addr} {n c k : Nat} {w : World} {l : List It} (h : Its w (.slice A n c) l) (hk : k < n) : ∃ (b off : Nat) (x : It) (P : Option Addr) (p : Nat), A = some ⟨b, off, none⟩ ∧ l[k]? = some x ∧ w.cell? ⟨b, off + k * 4, none⟩ = some (.slice P x.1.length p) ∧ Src w (.slice P x.1.length p) x.1 := by
  obtain ⟨b, off, x, cs, e, _, hx, ⟨P, p, Q, q, rfl, h1, _⟩, hc⟩ := Rw.at_ (E := itE) (by decide) h hk
  exact ⟨b, off, x, P, p, e, hx, hc 0 _ rfl, h1⟩
theorem kds_key {A : Option Addr} {n c k : Nat} {w : World} {l : List Kd} (h : Kds w (.slice A n c) l) (hk : k < n) : ∃ (b off : Nat) (x : Kd) (P : Option Addr) (p : Nat), A = some ⟨b, off, none⟩ ∧ l[k]? = some x ∧ w.cell? ⟨b, off + k * 2, none⟩ = some (.slice P x.1.length p) ∧ Src w (.slice P x.1.length p) x.1 := by
  obtain ⟨b, off, x, P, p, e, _, hx, h1, _, h2⟩ := kds_at h hk
  exact ⟨b, off, x, P, p, e, hx, h1, h2⟩
/-- The keys rise (of a branch from the second one on). -/
def RisI (l : List It) : Prop := ∀ i a b, l[i]? = some a → l[i + 1]? = some b → cmp a.1 b.1 < 0
def RisK (l : List Kd) : Prop := ∀ i a b, 1 ≤ i → l[i]? = some a → l[i + 1]? = some b → cmp a.1 b.1 < 0
def RisN (x : Nd) : Prop := RisI x.its ∧ RisK x.kds
def RisSays (w : World) (x : Nd) (e : Ending) (w' : World) : Prop := (∃ r, e = .returned (.bool r) ∧ (r = true ↔ RisN x)) ∧ Only (w.heap.size ≤ ·) w w'
theorem cells3 {w W : World} {a b c : Addr} {x y z : Value} (h : w.cell? a = some x ∧ w.cell? b = some y ∧ w.cell? c = some z) (ho : Only (w.heap.size ≤ ·) w W) : W.cell? a = some x ∧ W.cell? b = some y ∧ W.cell? c = some z := by
  have one : ∀ {a : Addr} {x : Value}, w.cell? a = some x → W.cell? a = some x := fun {a x} h => (ho.cell (p := a) (Nat.not_le.2 (World.block_lt_of_cell? w _ h))).trans h
  exact ⟨one h.1, one h.2.1, one h.2.2⟩
end Go.Proofs.Ytnjhpjpeeehagaa
