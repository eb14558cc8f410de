/-
  node.Right, exactly.
-/
import Derived.Test.YtbgnfocfnjlabaaDoorGb
import Derived.Test.YtbgnfocfnjlabaaDoorGa
set_option linter.unusedVariables false
namespace Go.Proofs.YtbgnfocfnjlabaaDoor
open Go.RowKit
attribute [local go_sem] run_store_func

/-- A bool came back of which this is true. -/
def AnsB (w : World) (R : Bool → Prop) (e : Ending) (w' : World) : Prop := ∃ b, e = .returned (.bool b) ∧ R b ∧ Only (w.heap.size ≤ ·) w w'
def KidR (g : Int) (k : Nat) (y : Kd) : Prop := (2 ≤ y.2 ∧ y.2 < 16384) ∧ (k = 0 → y.1.length = 0) ∧ (k ≠ 0 → 1 ≤ y.1.length ∧ (y.1.length : Int) ≤ tr g 16 20 24)
def ItR (g : Int) (i : It) : Prop := okay g i.1.length i.2.1.length i.2.2.1 i.2.2.2 = true
def PureR (x : Nd) : Prop := if x.leaf = true then x.kds = [] else x.its = [] ∧ x.kds ≠ []
def EachR (g : Int) (x : Nd) : Prop := if x.leaf = true then ∀ (k : Nat) i, x.its[k]? = some i → ItR g i else ∀ (k : Nat) y, x.kds[k]? = some y → KidR g k y
def RisesR (x : Nd) : Prop := if x.leaf = true then ∀ (k : Nat) y z, x.its[k]? = some y → x.its[k + 1]? = some z → cmp y.1 z.1 < 0 else ∀ (k : Nat) y z, x.kds[k]? = some y → x.kds[k + 1]? = some z → cmp y.1 z.1 < 0
/-- May there be such a node? -/
def RightN (g : Int) (x : Nd) : Prop := gen g = true ∧ PureR x ∧ EachR g x ∧ RisesR x ∧ nfit g x = true
section
variable (w : World) (A B : Option Addr) (n c m d : Nat) (x : Nd) (g : Int)
theorem small_L (hf : x.leaf = true) (hp : PureR x) (he : EachR g x) (hl : x.its.length ≤ 1000) : Small x := by
  unfold PureR at hp
  unfold EachR at he
  rw [hf] at hp he
  simp only [if_true] at hp he
  refine ⟨hl, by rw [hp]; simp, fun i hi => ?_, by rw [hp]; simp⟩
  obtain ⟨k, hk, e⟩ := List.mem_iff_getElem.1 hi
  have := he k i (by rw [← e]; exact List.getElem?_eq_getElem hk)
  unfold ItR okay keyOk at this
  simp only [Bool.and_eq_true, decide_eq_true_eq] at this
  obtain ⟨hg, ⟨_, h1⟩, h2, h3⟩ := this
  unfold putOk at h3
  rw [decide_eq_true_eq] at h3
  have t1 : tr g 16 20 24 ≤ 24 := by rcases (gen_iff g).1 hg with rfl | rfl | rfl <;> decide
  have t2 : tr g 400 800 1600 ≤ 1600 := by rcases (gen_iff g).1 hg with rfl | rfl | rfl <;> decide
  unfold long at h2
  refine ⟨by omega, ?_⟩
  split at h2 <;> omega

theorem small_K (hf : x.leaf = false) (hp : PureR x) (he : EachR g x) (hl : x.kds.length ≤ 1000) : Small x := by
  unfold PureR at hp
  unfold EachR at he
  rw [hf] at hp he
  simp only [Bool.false_eq_true, if_false] at hp he
  refine ⟨by rw [hp.1]; simp, hl, by rw [hp.1]; simp, fun i hi => ?_⟩
  obtain ⟨k, hk, e⟩ := List.mem_iff_getElem.1 hi
  have := he k i (by rw [← e]; exact List.getElem?_eq_getElem hk)
  unfold KidR at this
  have t1 : tr g 16 20 24 ≤ 24 := by unfold tr; split <;> (try split) <;> (try split) <;> omega
  rcases Nat.eq_zero_or_pos k with h0 | h0
  · have := this.2.1 h0
    omega
  · have := (this.2.2 (by omega)).2
    omega

end
end Go.Proofs.YtbgnfocfnjlabaaDoor
