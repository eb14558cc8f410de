/-
  The document's disk: Do, where it reads.
-/
import Derived.Test.YtbpldkhgiddmlaaGreatDoorPuc
set_option linter.unusedVariables false
namespace Go.Proofs.YtbpldkhgiddmlaaGreatDoor
open Go.RowKit

theorem blk_five {w : World} {q : Nat} {t : TypeId} {a b c d e : Value} (h : Blk w q t [a, b, c, d, e]) : w.cell? ⟨q, 0, none⟩ = some a ∧ w.cell? ⟨q, 1, none⟩ = some b ∧ w.cell? ⟨q, 2, none⟩ = some c ∧ w.cell? ⟨q, 3, none⟩ = some d ∧ w.cell? ⟨q, 4, none⟩ = some e := ⟨h.cell 0, h.cell 1, h.cell 2, h.cell 3, h.cell 4⟩
theorem src_capn {w : World} {A : Option Addr} {n c : Nat} {xs : Bytes} (h : Src w (.slice A n c) xs) : n ≤ c := by
  obtain ⟨A', c', e, _, _, h5, _⟩ := h
  cases e
  exact h5
theorem src_lt {w : World} {b o n c : Nat} {xs : Bytes} (h : Src w (.slice (some ⟨b, o, none⟩) n c) xs) (hn : 0 < n) : b < w.heap.size := by
  obtain ⟨A', c', e, ht, _⟩ := h
  cases e
  exact ht.block hn
end Go.Proofs.YtbpldkhgiddmlaaGreatDoor
