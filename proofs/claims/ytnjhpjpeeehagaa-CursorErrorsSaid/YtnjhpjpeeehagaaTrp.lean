/-
  The document's Path.
-/
import Derived.Test.YtnjhpjpeeehagaaTdf
import Derived.Test.YtnjhpjpeeehagaaTdw
set_option linter.unusedVariables false
namespace Go.Proofs.Ytnjhpjpeeehagaa
open Go.RowKit

/-- Where the document goes on. -/
def dchP (which : Int) (key : Bytes) (x : Nd) : Nat := if which = 2 then many x - 1 else if which = 1 then 0 else if x.leaf = true then cntP key x.its else lastP key x.kds x.kds.length
def PathSays (w : World) (r : Int × List Sp) (e : Ending) (w' : World) : Prop := (∃ S s sc, e = .returned (.tuple #[.slice S s sc, .int .i64 r.1]) ∧ Sps w' (.slice S s sc) r.2) ∧ Only (w.heap.size ≤ ·) w w'
theorem down_ne {l : List Nm} {ch : Nd → Nat} : ∀ (k : Nat) (r : Int), (downP l ch k r).1 = 0 → (downP l ch k r).2 ≠ []
  | 0, r, h => by simp [downP] at h
  | k + 1, r, h => by
    rw [downP] at h ⊢
    cases hn : nodeP l r with
    | none => rw [hn] at h; simp at h
    | some x =>
      rw [hn] at h
      simp only at h ⊢
      split at h
      · simp at h
      · rename_i h1
        rw [if_neg h1]
        split at h
        · rename_i h2
          rw [if_pos h2]
          simp
        · rename_i h2
          rw [if_neg h2]
          split at h
          · rename_i h3
            rw [if_pos h3]
            simp
          · rename_i h3
            exact absurd h h3
theorem down_len {l : List Nm} {ch : Nd → Nat} : ∀ (k : Nat) (r : Int), (downP l ch k r).2.length ≤ k
  | 0, r => by simp [downP]
  | k + 1, r => by
    rw [downP]
    cases hn : nodeP l r with
    | none => simp
    | some x =>
      simp only
      have := down_len (l := l) (ch := ch) k (kidRef x (ch x))
      split
      · simp
      · split
        · simp
        · split
          · simp only [List.length_cons]
            omega
          · simp
theorem last_lt (key : Bytes) (l : List Kd) (k : Nat) : lastP key l (k + 1) < k + 1 := by
  rw [lastP]
  split
  · omega
  · have := last_le key l k
    omega
theorem cells5 {w : World} {q : Nat} {t : TypeId} {a b c d e : Value} (h : Blk w q t [a, b, c, d, e]) : w.cell? ⟨q, 0, none⟩ = some a ∧ w.cell? ⟨q, 1, none⟩ = some b ∧ w.cell? ⟨q, 2, none⟩ = some c ∧ w.cell? ⟨q, 3, none⟩ = some d ∧ w.cell? ⟨q, 4, none⟩ = some e := by
  refine ⟨?_, ?_, ?_, ?_, ?_⟩ <;> rw [h.cell] <;> rfl
theorem cell_later {w W : World} {a : Addr} {x : Value} (h : w.cell? a = some x) (ho : Only (w.heap.size ≤ ·) w W) : W.cell? a = some x := (ho.cell (p := a) (Nat.not_le.2 (World.block_lt_of_cell? w _ h))).trans h
theorem own_one (w : World) (cs : List Value) {t : TypeId} {z : Nat} (hz : cs.length = z) : (w.alloc (.cells cs.toArray t)).ownsRow w.heap.size t z (.slice (some ⟨w.heap.size, 0, none⟩) 1 1) 1 cs := by
  subst hz
  exact ⟨by omega, .inr ⟨w.heap.size, 1, cs.toArray, rfl, Nat.le_refl _, heap_alloc_new w _, Nat.le_refl _, by decide, by simp, by simp⟩⟩
theorem den_one {w : World} : ∀ {l : List Sp} {C : List Value}, Den (spE.At w) l C → ∀ u ∈ C, u.oneCell' = true
  | [], C, h, u, hu => by
    have : C = [] := h
    subst this
    cases hu
  | x :: l, C, h, u, hu => by
    obtain ⟨cs, D, rfl, h1, h2⟩ := h
    rcases List.mem_append.1 hu with h3 | h3
    · exact spE.one h1 u h3
    · exact den_one h2 u h3
end Go.Proofs.Ytnjhpjpeeehagaa
