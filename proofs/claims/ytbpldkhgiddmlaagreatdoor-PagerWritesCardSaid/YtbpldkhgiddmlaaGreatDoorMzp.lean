/-
  Metas: some sectors of a page over zeros, as plain data. No memory here.
-/
import Derived.Test.YtbpldkhgiddmlaaGreatDoorGv
import Derived.Test.YtbpldkhgiddmlaaGreatDoorPgc
set_option linter.unusedVariables false
namespace Go.Proofs.YtbpldkhgiddmlaaGreatDoor

theorem over_at9 (T xs : Bytes) (o i : Nat) (h : o + xs.length ≤ T.length) : (over T o xs)[i]? = if o ≤ i ∧ i < o + xs.length then xs[i - o]? else T[i]? := by
  unfold over
  by_cases h1 : i < o
  · rw [if_neg (by omega), List.getElem?_append_left (by rw [List.length_take]; omega), List.getElem?_take, if_pos h1]
  · rw [List.getElem?_append_right (by rw [List.length_take]; omega), List.length_take, Nat.min_eq_left (by omega)]
    by_cases h2 : i < o + xs.length
    · rw [if_pos ⟨by omega, h2⟩, List.getElem?_append_left (by omega)]
    · rw [if_neg (by omega), List.getElem?_append_right (by omega), List.getElem?_drop]
      congr 1
      omega
/-- A sector. -/
def sect (P : Bytes) (j : Nat) : Bytes := (P.drop (64 * j)).take 64
theorem z256_len : z256.length = 256 := List.length_replicate
end Go.Proofs.YtbpldkhgiddmlaaGreatDoor
