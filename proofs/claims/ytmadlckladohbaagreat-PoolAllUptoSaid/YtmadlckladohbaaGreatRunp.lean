/-
  The right runs of a row of yes and no: plain.
-/
import Derived.Test.YtmadlckladohbaaGreatPlan
set_option linter.unusedVariables false
namespace Go.Proofs.YtmadlckladohbaaGreat

def bump (l : List R) : List R := l.set (l.length - 1) ((lastOf l).1, (lastOf l).2 + 1)
def runsOf (f : Nat → Bool) : Nat → List R
  | 0 => []
  | k + 1 => if f k = true then (if k ≠ 0 ∧ f (k - 1) = true then bump (runsOf f k) else runsOf f k ++ [((k : Int), 1)]) else runsOf f k
theorem lastOf_some {l : List R} {r : R} (h : l.getLast? = some r) : lastOf l = r := by unfold lastOf; rw [h]; rfl
theorem bump_eq {l : List R} {r : R} (h : l.getLast? = some r) : bump l = l.dropLast ++ [(r.1, r.2 + 1)] := by
  unfold bump
  rw [lastOf_some h]
  have hs := snoc_of h
  have hlen : l.length - 1 = l.dropLast.length := by simp
  rw [hlen]
  conv => lhs; rw [hs]
  simp
theorem bump_snoc (l : List R) (a n : Int) : bump (l ++ [(a, n)]) = l ++ [(a, n + 1)] := by
  rw [bump_eq (r := (a, n)) (by simp)]
  simp

theorem bump_len (l : List R) : (bump l).length = l.length := by simp [bump]
theorem runsOf_len (f : Nat → Bool) : ∀ k, f k = true → 0 < (runsOf f (k + 1)).length
  | 0, h => by rw [runsOf, if_pos h]; simp
  | k + 1, h => by
    rw [runsOf, if_pos h]
    by_cases hp : k + 1 ≠ 0 ∧ f (k + 1 - 1) = true
    · rw [if_pos hp, bump_len]; exact runsOf_len f k hp.2
    · rw [if_neg hp]; simp
def Bit (f : Nat → Bool) (m : Nat) (p : Int) : Prop := ∃ q : Nat, q < m ∧ p = q ∧ f q = true
theorem Bit.succ {f : Nat → Bool} {k : Nat} {p : Int} : Bit f (k + 1) p ↔ Bit f k p ∨ (p = k ∧ f k = true) := by
  constructor
  · rintro ⟨q, h1, rfl, h3⟩
    rcases Nat.lt_or_ge q k with h | h
    · exact .inl ⟨q, h, rfl, h3⟩
    · obtain rfl : q = k := by omega
      exact .inr ⟨rfl, h3⟩
  · rintro (⟨q, h1, h2, h3⟩ | ⟨h1, h2⟩)
    · exact ⟨q, by omega, h2, h3⟩
    · exact ⟨k, by omega, h1, h2⟩
theorem runsOf_row (f : Nat → Bool) : ∀ m, m ≤ 32768 → IsRow (runsOf f m) (Bit f m)
  | 0, _ => ⟨rfl, fun p => by
    rw [runsOf, inn_nil]
    exact ⟨fun h => by simp at h, fun ⟨q, h, _⟩ => by omega⟩⟩
  | k + 1, hm => by
    have ih := runsOf_row f k (by omega)
    unfold runsOf
    by_cases hk : f k = true
    · rw [if_pos hk]
      have hend : ∀ r, (runsOf f k).getLast? = some r → r.1 + r.2 ≤ k ∧ (r.1 + r.2 = k → k ≠ 0 ∧ f (k - 1) = true) := fun r hr => by
        have hmr := (may_iff r).1 (right_may ih.1 r (List.mem_of_getLast? hr))
        have hin := (ih.2 (r.1 + r.2 - 1)).1 ((inn_iff _ _).2 ⟨r, List.mem_of_getLast? hr, by unfold within; omega⟩)
        obtain ⟨q, h1, h2, h3⟩ := hin
        refine ⟨by omega, fun e => ⟨by omega, ?_⟩⟩
        rwa [show k - 1 = q by omega]
      by_cases hp : k ≠ 0 ∧ f (k - 1) = true
      · rw [if_pos hp]
        have hin := (ih.2 ((k - 1 : Nat) : Int)).2 ⟨k - 1, by omega, rfl, hp.2⟩
        cases hl : (runsOf f k).getLast? with
        | none => rw [List.getLast?_eq_none_iff.1 hl] at hin; simp [inn] at hin
        | some r =>
          have h1 := last_ge ih.1 hl hin
          have h2 := hend r hl
          have hmr := (may_iff r).1 (right_may ih.1 r (List.mem_of_getLast? hl))
          rw [bump_eq hl]
          have hs := snoc_of hl
          have hr0 := ih.1
          rw [hs] at hr0
          obtain ⟨a1, a2, a3⟩ := right_snoc.1 hr0
          refine ⟨right_snoc.2 ⟨a1, (may_iff _).2 ⟨by simp only; omega, by simp only; omega, by simp only; omega⟩, ?_⟩, fun p => ?_⟩
          · cases hd : (runsOf f k).dropLast.getLast? with
            | none => rfl
            | some q => rw [hd, gap_some] at a3; rw [gap_some]; exact a3
          · rw [Bit.succ, ← ih.2 p]
            conv => rhs; rw [hs]
            rw [inn_append, inn_append, inn_cons, inn_cons]
            simp only [inn_nil, within, Bool.false_eq_true, or_false]
            constructor
            · rintro (h | h)
              · exact .inl (.inl h)
              · by_cases e : p = k
                · exact .inr ⟨e, hk⟩
                · exact .inl (.inr ⟨h.1, by omega⟩)
            · rintro ((h | h) | h)
              · exact .inl h
              · exact .inr ⟨h.1, by omega⟩
              · exact .inr ⟨by omega, by omega⟩
      · rw [if_neg hp]
        refine ⟨right_snoc.2 ⟨ih.1, (may_iff _).2 ⟨by simp only; omega, by simp only; omega, by simp only; omega⟩, ?_⟩, fun p => ?_⟩
        · cases hl : (runsOf f k).getLast? with
          | none => rfl
          | some r =>
            have h2 := hend r hl
            rw [gap_some]
            simp only
            rcases Int.lt_or_eq_of_le h2.1 with h | h
            · exact h
            · exact absurd (h2.2 h) hp
        · rw [Bit.succ, ← ih.2 p, inn_append, inn_cons]
          simp only [inn_nil, within, Bool.false_eq_true, or_false]
          constructor
          · rintro (h | h)
            · exact .inl h
            · exact .inr ⟨by omega, hk⟩
          · rintro (h | h)
            · exact .inl h
            · exact .inr ⟨by omega, by omega⟩
    · rw [if_neg hk]
      exact ⟨ih.1, fun p => (ih.2 p).trans (by rw [Bit.succ]; exact ⟨.inl, fun h => h.elim id fun h => absurd h.2 hk⟩)⟩
end Go.Proofs.YtmadlckladohbaaGreat
