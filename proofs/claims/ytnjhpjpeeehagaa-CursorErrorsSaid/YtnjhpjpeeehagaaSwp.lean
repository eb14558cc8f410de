/-
  swap of items, and of kids; headed.
-/
import Derived.Test.YtnjhpjpeeehagaaCat
import Derived.Test.YtnjhpjpeeehagaaRoom
import Derived.Test.YtnjhpjpeeehagaaOf
import Derived.Deep.RegionHeld3
import Derived.Deep.Onto
set_option linter.unusedVariables false
namespace Go.Proofs.Ytnjhpjpeeehagaa
open Go.RowKit

/-- Elements of a row, cell by cell. -/
theorem Rw.raw {α : Type} {E : El α} {w : World} {A : Option Addr} {n c : Nat} {l : List α} (h : Rw E w (.slice A n c) l) : ∃ C, Den (E.At w) l C ∧ RawV E.z w (.slice A n c) n C := by
  have hn := h.len
  obtain ⟨A', c', C, e, hd, hr, h1, h2, h3⟩ := h
  simp only [Value.slice.injEq] at e
  obtain ⟨rfl, rfl, rfl⟩ := e
  exact ⟨C, hd, A, c, rfl, Den.length (fun _ _ => E.len) hd, hr, h1, h2, h3, Den.one (fun _ _ => E.one) hd⟩
theorem RawV.take {z n c k : Nat} {w : World} {A : Option Addr} {C : List Value} (h : RawV z w (.slice A n c) n C) (hk : k ≤ n) : RawV z w (.slice A k c) k (C.take (k * z)) := by
  obtain ⟨A', c', e, h1, h2, h3, h4, h5, h6⟩ := h
  simp only [Value.slice.injEq, true_and] at e
  obtain ⟨rfl, rfl⟩ := e
  refine ⟨A, c, rfl, ?_, h2.take _, h3, by omega, h5, fun u hu => h6 u (List.mem_of_mem_take hu)⟩
  have := Nat.mul_le_mul_right z hk
  rw [List.length_take]
  omega
theorem RawV.cut {z n c k : Nat} {w : World} {A : Option Addr} {C : List Value} (h : RawV z w (.slice A n c) n C) (hk : k ≤ n) : RawV z w (.slice A k k) k (C.take (k * z)) := by
  obtain ⟨A', c', e, h1, h2, h3, h4, h5, h6⟩ := h
  simp only [Value.slice.injEq, true_and] at e
  obtain ⟨rfl, rfl⟩ := e
  refine ⟨A, k, rfl, ?_, h2.take _, fun e => by have := h3 e; omega, by omega, by omega, fun u hu => h6 u (List.mem_of_mem_take hu)⟩
  have := Nat.mul_le_mul_right z hk
  rw [List.length_take]
  omega
theorem RawV.drop {z n c k : Nat} {w : World} {A : Option Addr} {C : List Value} (h : RawV z w (.slice A n c) n C) (hk : k ≤ n) : RawV z w (.slice (if c = k then A else A.map (·.add (k * z))) (n - k) (c - k)) (n - k) (C.drop (k * z)) := by
  obtain ⟨A', c', e, h1, h2, h3, h4, h5, h6⟩ := h
  simp only [Value.slice.injEq, true_and] at e
  obtain ⟨rfl, rfl⟩ := e
  have hm := Nat.mul_le_mul_right z hk
  refine ⟨_, _, rfl, by rw [List.length_drop, h1, Nat.sub_mul], fun hn => ?_, fun e => ?_, by omega, by omega, fun u hu => h6 u (List.mem_of_mem_drop hu)⟩
  · simp at hn
    obtain ⟨b, off, rfl, hb, hc⟩ := h2 (by omega)
    have hne : c ≠ k := by
      rintro rfl
      have : n = c := by omega
      subst this
      omega
    rw [if_neg hne]
    refine ⟨b, off + k * z, by simp [Addr.add_lit], hb, fun j u hu => ?_⟩
    rw [Nat.add_assoc]
    exact hc _ u (by rw [← hu, List.getElem?_drop])
  · split at e
    · have := h3 e
      omega
    · rw [Option.map_eq_none_iff] at e
      have := h3 e
      omega
theorem RawV.rw_ {α : Type} {E : El α} {n : Nat} {w : World} {v : Value} {l : List α} {C : List Value} (hn : n = l.length) (hd : Den (E.At w) l C) (h : RawV E.z w v n C) : Rw E w v l := by
  obtain ⟨A, c, rfl, h1, h2, h3, h4, h5, h6⟩ := h
  subst hn
  exact ⟨A, c, C, rfl, hd, h2, h3, h4, h5⟩
/-- A row of the call's own comes back. -/
def Owns {α : Type} (E : El α) (t : TypeId) (w : World) (l : List α) (e : Ending) (w' : World) : Prop := ∃ A n c, e = .returned (.slice A n c) ∧ Own E t w' w.heap.size (.slice A n c) n l ∧ Only (w.heap.size ≤ ·) w w'

end Go.Proofs.Ytnjhpjpeeehagaa
