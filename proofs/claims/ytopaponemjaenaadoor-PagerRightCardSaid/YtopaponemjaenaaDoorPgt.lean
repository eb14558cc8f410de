/-
  Which writes are right: in any order; not one twice.
-/
import Derived.Test.YtopaponemjaenaaDoorPgy
set_option linter.unusedVariables false
namespace Go.Proofs.YtopaponemjaenaaDoor
open Go.RowKit

def inW (i : Nat) (y : Wt) : Prop := y.1.toNat ≤ i ∧ i < y.1.toNat + y.2.length / 256
def Apart (x y : Wt) : Prop := ∀ i, inW i x → ¬ inW i y
theorem Apart.symm {x y : Wt} (h : Apart x y) : Apart y x := fun i h1 h2 => h i h2 h1
theorem sub_iff {bits : List Bool} {y : Wt} : (true ∈ (bits.drop y.1.toNat).take (y.2.length / 256)) ↔ ∃ i, inW i y ∧ bits[i]? = some true := by
  constructor
  · intro h
    obtain ⟨j, hj⟩ := List.mem_iff_getElem?.1 h
    rw [List.getElem?_take] at hj
    split at hj
    · rename_i hlt
      rw [List.getElem?_drop] at hj
      exact ⟨_, ⟨by omega, by omega⟩, hj⟩
    · cases hj
  · rintro ⟨i, ⟨h1, h2⟩, h⟩
    exact mem_sub (k := i - y.1.toNat) (by omega) (by rw [show y.1.toNat + (i - y.1.toNat) = i by omega]; exact h)
theorem putB_true {bits : List Bool} {a m i : Nat} (h : a + m ≤ bits.length) : (putB bits a m)[i]? = some true ↔ (a ≤ i ∧ i < a + m) ∨ bits[i]? = some true := by
  unfold putB
  rw [over_get _ _ _ (by simpa using h)]
  simp only [List.length_replicate, List.getElem?_replicate]
  split
  · rename_i h1
    rw [if_pos (by omega)]
    exact ⟨fun _ => .inl h1, fun _ => rfl⟩
  · rename_i h1
    exact ⟨.inr, fun h => h.elim (fun h => absurd h h1) id⟩
theorem rightL_iff {N : Nat} : ∀ (l : List Wt) (bits : List Bool), bits.length = N → (rightL N bits l = true ↔ (∀ y ∈ l, fitW N y = true) ∧ (∀ y ∈ l, ∀ i, inW i y → bits[i]? ≠ some true) ∧ l.Pairwise Apart)
  | [], bits, _ => by simp [rightL]
  | y :: r, bits, hb => by
    rw [rightL]
    by_cases hf : fitW N y = true
    · rw [if_pos hf]
      obtain ⟨a, m, ha, hm, hm1, ha2, ham⟩ := fitW_facts hf
      have hat : y.1.toNat = a := by omega
      by_cases hs : true ∈ (bits.drop y.1.toNat).take (y.2.length / 256)
      · rw [if_pos hs]
        obtain ⟨i, h1, h2⟩ := sub_iff.1 hs
        exact ⟨fun h => (by cases h), fun h => absurd h2 (h.2.1 y (by simp) i h1)⟩
      · rw [if_neg hs]
        have hle : y.1.toNat + y.2.length / 256 ≤ bits.length := by omega
        rw [rightL_iff r _ ((putB_len hle).trans hb)]
        have hn : ∀ i, inW i y → bits[i]? ≠ some true := fun i h1 h2 => hs (sub_iff.2 ⟨i, h1, h2⟩)
        rw [List.pairwise_cons]
        constructor
        · rintro ⟨h1, h2, h3⟩
          refine ⟨fun z hz => ?_, fun z hz i hi => ?_, fun z hz i hi hi2 => ?_, h3⟩
          · rcases List.mem_cons.1 hz with rfl | hz
            · exact hf
            · exact h1 z hz
          · rcases List.mem_cons.1 hz with rfl | hz
            · exact hn i hi
            · exact fun h => h2 z hz i hi ((putB_true hle).2 (.inr h))
          · exact h2 z hz i hi2 ((putB_true hle).2 (.inl hi))
        · rintro ⟨h1, h2, h3, h4⟩
          refine ⟨fun z hz => h1 z (List.mem_cons_of_mem _ hz), fun z hz i hi h => ?_, h4⟩
          rcases (putB_true hle).1 h with h | h
          · exact h3 z hz i h hi
          · exact h2 z (List.mem_cons_of_mem _ hz) i hi h
    · rw [if_neg hf]
      exact ⟨fun h => (by cases h), fun h => absurd (h.1 y (by simp)) hf⟩
theorem bool_iff {a b : Bool} (h : a = true ↔ b = true) : a = b := by
  cases a <;> cases b <;> simp_all
/-- In any order. -/
theorem rightL_perm {N : Nat} {l l' : List Wt} (bits : List Bool) (hb : bits.length = N) (hp : l'.Perm l) : rightL N bits l' = rightL N bits l := by
  apply bool_iff
  rw [rightL_iff _ _ hb, rightL_iff _ _ hb, hp.pairwise_iff (fun h => Apart.symm h)]
  constructor
  · rintro ⟨h1, h2, h3⟩
    exact ⟨fun y hy => h1 y (hp.mem_iff.2 hy), fun y hy => h2 y (hp.mem_iff.2 hy), h3⟩
  · rintro ⟨h1, h2, h3⟩
    exact ⟨fun y hy => h1 y (hp.mem_iff.1 hy), fun y hy => h2 y (hp.mem_iff.1 hy), h3⟩
theorem pgRight_perm {ok : Bool} {N : Int} {l l' : List Wt} (hp : l'.Perm l) : pgRight ok N l' = pgRight ok N l := by
  unfold pgRight
  rw [rightL_perm _ (by simp) hp]
theorem pgRight_turn (ok : Bool) (N : Int) (l : List Wt) (k : Nat) : pgRight ok N (l.drop k ++ l.take k) = pgRight ok N l :=
  pgRight_perm (by
    have h := List.perm_append_comm (l₁ := l.drop k) (l₂ := l.take k)
    rwa [List.take_append_drop] at h)
/-- Not one twice. -/
theorem pgRight_twice {ok : Bool} {N : Int} {l : List Wt} {k : Nat} {y : Wt} {xs : Bytes} (h : l[k]? = some y) (hx : xs.length = 256) : pgRight ok N (l ++ [(y.1, xs)]) = false := by
  unfold pgRight
  cases ok with
  | false => rfl
  | true =>
    rw [Bool.true_and, ← Bool.not_eq_true, rightL_iff _ _ (by simp)]
    rintro ⟨h1, _, h3⟩
    have hy := List.mem_of_getElem? h
    obtain ⟨a, m, ha, hm, hm1, _, _⟩ := fitW_facts (h1 y (List.mem_append_left _ hy))
    rw [List.pairwise_append] at h3
    exact h3.2.2 y hy (y.1, xs) (by simp) y.1.toNat ⟨Nat.le_refl _, by omega⟩ ⟨Nat.le_refl _, by simp only; omega⟩
end Go.Proofs.YtopaponemjaenaaDoor
