/-
  A row of bytes of the call's own that grows, with the blocks told that are written.
-/
import Derived.Test.YtoghojgajpfkkaaGreatDoorRwr
set_option linter.unusedVariables false
namespace Go.Proofs.YtoghojgajpfkkaaGreatDoor
open Go.RowKit

/-- The bytes stand in a row of the call's own (from block B on), which lies in blocks of which F speaks; nothing else has changed. -/
def OwnF (F : Nat → Prop) (B : Nat) (w0 wr : World) (v : Value) (xs : Bytes) : Prop := wr.ownsRow B 5 1 v xs.length (cb xs) ∧ (∀ k, v.ownBlock = some k → F k) ∧ Only F w0 wr ∧ B ≤ wr.heap.size ∧ (∀ k, w0.heap.size ≤ k → F k)
section
variable {F : Nat → Prop} {B : Nat} {w0 wr w w' : World} {v v' : Value} {xs ys : Bytes}
theorem OwnF.src (h : OwnF F B w0 wr v xs) : Src wr v xs := Src.own h.1
theorem OwnF.new (h : OwnF F B w0 wr v xs) : ∀ k, wr.heap.size ≤ k → F k := fun k hk => h.2.2.2.2 k (Nat.le_trans h.2.2.1.size hk)
theorem OwnF.alloc (h : OwnF F B w0 wr v xs) (b : Obj) : OwnF F B w0 (wr.alloc b) v xs :=
  ⟨h.1.alloc b, h.2.1, h.2.2.1.alloc h.2.2.2.2 b, Nat.le_trans h.2.2.2.1 ((Only.refl (wr.heap.size ≤ ·) wr).alloc (fun _ h => h) b).size, h.2.2.2.2⟩
theorem OwnF.drew (h : OwnF F B w0 wr v xs) : OwnF F B w0 wr.drew v xs := ⟨h.1, h.2.1, h.2.2.1.drew, h.2.2.2.1, h.2.2.2.2⟩
theorem OwnF.raw (h : OwnF F B w0 wr v xs) : ∃ A c, v = .slice A xs.length c := by
  obtain ⟨A, c, e, _⟩ := raw_of_own h.1
  exact ⟨A, c, e⟩
/-- What an append leaves. -/
theorem OwnF.grown (h : OwnF F B w0 wr v xs) (h1 : w'.ownsRow B 5 1 v' (xs.length + ys.length) (cb xs ++ cb ys)) (h2 : wr.grownBy w' v.ownBlock) (h3 : v'.ownBlock = v.ownBlock ∨ v'.ownBlock = some wr.heap.size) : OwnF F B w0 w' v' (xs ++ ys) := by
  refine ⟨by rw [List.length_append, cb_append]; exact h1, fun k hk => ?_, h.2.2.1.grown h2 h.2.2.2.2 h.2.1, Nat.le_trans h.2.2.2.1 h2.size, h.2.2.2.2⟩
  rcases h3 with h3 | h3
  · exact h.2.1 k (by rw [← h3]; exact hk)
  · rw [h3] at hk
    cases hk
    exact h.new _ (Nat.le_refl _)
end
end Go.Proofs.YtoghojgajpfkkaaGreatDoor
