/-
  Encode of the document: the page of a node.
-/
import Derived.Test.YtoghojgajpfkkaaGreatDoorRpf
import Derived.Test.YtoghojgajpfkkaaGreatDoorDrx
set_option linter.unusedVariables false
namespace Go.Proofs.YtoghojgajpfkkaaGreatDoor
open Go.RowKit

theorem le_one (n : Nat) (h : n < 256) : le n 1 = [UInt8.ofNat n] := by
  rw [le_cons, Nat.mod_eq_of_lt h]
  rfl
theorem serI_near {g : Int} {xs ys : Bytes} {s : Int} (hm : ys.length ≤ 32) (hn : xs.length < 256) : serI g (xs, ys, s, 0) = [UInt8.ofNat xs.length] ++ ([UInt8.ofNat 0] ++ (le ys.length 2 ++ (xs ++ ys))) := by
  have hf : far ys.length 0 = false := by unfold far; rw [decide_eq_false (by omega : ¬ ((0 : Int) ≠ 0 ∨ 32 < ys.length))]
  have hl : long ys.length s 0 = (ys.length : Int) := by unfold long; rw [if_pos rfl]
  show le xs.length 1 ++ (le (if far ys.length 0 = true then 1 else 0) 1 ++ (le (long ys.length s 0).toNat 2 ++ (xs ++ (if far ys.length 0 = true then le (0 : Int).toNat (tr g 4 8 8).toNat else ys)))) = _
  rw [hf, hl, if_neg Bool.false_ne_true, if_neg Bool.false_ne_true, le_one _ hn, le_one 0 (by omega), Int.toNat_natCast]
theorem serI_far {g : Int} {xs ys : Bytes} {s r : Nat} (hr : ¬ (r : Int) = 0) (hn : xs.length < 256) : serI g (xs, ys, (s : Int), (r : Int)) = [UInt8.ofNat xs.length] ++ ([UInt8.ofNat 1] ++ (le s 2 ++ (xs ++ le r (tr g 4 8 8).toNat))) := by
  have hf : far ys.length (r : Int) = true := by unfold far; rw [decide_eq_true (Or.inl hr)]
  have hl : long ys.length s (r : Int) = (s : Int) := by unfold long; rw [if_neg hr]
  show le xs.length 1 ++ (le (if far ys.length (r : Int) = true then 1 else 0) 1 ++ (le (long ys.length s (r : Int)).toNat 2 ++ (xs ++ (if far ys.length (r : Int) = true then le (r : Int).toNat (tr g 4 8 8).toNat else ys)))) = _
  rw [hf, hl, if_pos rfl, if_pos rfl, le_one _ hn, le_one 1 (by omega), Int.toNat_natCast, Int.toNat_natCast]
theorem serK_one {g : Int} {xs : Bytes} {r : Nat} (hn : xs.length < 256) : serK g (xs, (r : Int)) = [UInt8.ofNat xs.length] ++ (xs ++ le r (tr g 4 8 8).toNat) := by
  unfold serK
  simp only
  rw [le_one _ hn, Int.toNat_natCast]
theorem okay_in {g : Int} {n m : Nat} {s r : Int} (h : okay g n m s r = true) : n < 256 ∧ (r ≠ 0 → 0 ≤ s ∧ s ≤ 1600 ∧ 0 ≤ r ∧ r < 16384) := by
  unfold okay keyOk putOk long at h
  simp only [Bool.and_eq_true, decide_eq_true_eq] at h
  obtain ⟨hg, ⟨h2, h3⟩, h4, h5⟩ := h
  have t1 : tr g 16 20 24 ≤ 24 := by rcases (gen_iff g).1 hg with rfl | rfl | rfl <;> decide
  have t2 : tr g 400 800 1600 ≤ 1600 := by rcases (gen_iff g).1 hg with rfl | rfl | rfl <;> decide
  refine ⟨by omega, fun hr => ?_⟩
  rw [if_neg hr] at h4
  omega
/-- The items so far have their values placed. -/
def Placed (x : Nd) (k : Nat) : Prop := ∀ j y, j < k → x.its[j]? = some y → unp y.2.1.length y.2.2.2 = false
theorem Placed.next {x : Nd} {k : Nat} {y : It} (h : Placed x k) (hy : x.its[k]? = some y) (hu : unp y.2.1.length y.2.2.2 = false) : Placed x (k + 1) := fun j z hj hz => by
  by_cases e : j = k
  · subst e
    obtain rfl := Option.some.inj (hy.symm.trans hz)
    exact hu
  · exact h j z (by omega) hz
theorem Placed.all {x : Nd} {k : Nat} (h : Placed x k) (hk : x.its.length ≤ k) : anyU x.its = false := by
  unfold anyU
  rw [List.any_eq_false]
  intro i hi
  obtain ⟨j, hj, e⟩ := List.mem_iff_getElem.1 hi
  have := h j i (by omega) (by rw [← e]; exact List.getElem?_eq_getElem hj)
  simp [this]
section
variable {B : Nat} {w1 wr w' : World} {v v' : Value} {xs xs' : Bytes}
end
end Go.Proofs.YtoghojgajpfkkaaGreatDoor
