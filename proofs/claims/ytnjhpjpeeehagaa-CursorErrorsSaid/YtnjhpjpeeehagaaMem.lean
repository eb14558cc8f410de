/-
  What a disk is in memory, for any world: plain lemmas on blocks, and on what a call leaves alone.
-/
import Derived.Test.YtnjhpjpeeehagaaRows
import Derived.WalkKit
import Derived.Deep.MidRow
import Derived.Deep.Draws
import Derived.Below
import Derived.Lib.Hide
namespace Go.Proofs.Ytnjhpjpeeehagaa
open Go.RowKit

/-- Only blocks of which F speaks may have changed; the streams are as they were. -/
structure Only (F : Nat → Prop) (w w' : World) : Prop where
  os : w'.os = w.os
  tape : w'.tape = w.tape
  output : w'.output = w.output
  size : w.heap.size ≤ w'.heap.size
  block : ∀ k, ¬ F k → w'.heap[k]? = w.heap[k]?

section
variable {F G : Nat → Prop} {a w w' : World}
theorem Only.refl (F : Nat → Prop) (w : World) : Only F w w := ⟨rfl, rfl, rfl, Nat.le_refl _, fun _ _ => rfl⟩
theorem Only.trans {b c : World} (h : Only F a b) (k : Only F b c) : Only F a c :=
  ⟨k.os.trans h.os, k.tape.trans h.tape, k.output.trans h.output, Nat.le_trans h.size k.size, fun i hi => (k.block i hi).trans (h.block i hi)⟩
theorem Only.mono (h : Only F w w') (hg : ∀ k, F k → G k) : Only G w w' := ⟨h.os, h.tape, h.output, h.size, fun k hk => h.block k (fun hf => hk (hg k hf))⟩
theorem Only.drew (h : Only F a w) : Only F a w.drew := ⟨h.os, h.tape, h.output, h.size, h.block⟩
theorem Only.drewN (h : Only F a w) (n : Nat) : Only F a (w.drewN n) := ⟨h.os, h.tape, h.output, h.size, h.block⟩
theorem Only.alloc (h : Only F a w) (hF : ∀ k, a.heap.size ≤ k → F k) (o : Obj) : Only F a (w.alloc o) :=
  ⟨h.os, h.tape, h.output, Nat.le_trans h.size (by simp), fun k hk => by
    have hlt : k < a.heap.size := Nat.lt_of_not_le fun h => hk (hF k h)
    exact (Below.heap_alloc w o k (Nat.lt_of_lt_of_le hlt h.size)).trans (h.block k hk)⟩
theorem Only.setCell (h : Only F a w) {p : Addr} (hp : F p.block) (u : Value) : Only F a (w.setCell p u) :=
  ⟨h.os, h.tape, h.output, by simpa [World.setCell] using h.size, fun k hk => (Below.heap_setCell w p u k (fun e => hk (e ▸ hp))).trans (h.block k hk)⟩
theorem Only.setCells (b : Nat) : ∀ (vs : List Value) (o : Nat) {w : World}, Only F a w → F b → Only F a (w.setCells b o vs)
  | [], _, _, h, _ => h
  | v :: r, o, _, h, hb => Only.setCells b r (o + 1) (h.setCell (p := ⟨b, o, none⟩) hb v) hb
theorem Only.setRow (h : Only F a w) {g : Nat} (hp : F g) (cs : Array Value) : Only F a (w.setRow g cs) :=
  ⟨h.os, h.tape, h.output, by simpa [World.setRow] using h.size, fun k hk => (setRow_other w g k cs (fun e => hk (e ▸ hp))).trans (h.block k hk)⟩
theorem Only.grown (h : Only F a w) {row : Option Nat} (hg : w.grownBy w' row) (hF : ∀ k, a.heap.size ≤ k → F k) (hr : ∀ g, row = some g → F g) : Only F a w' :=
  ⟨hg.os.trans h.os, hg.tape.trans h.tape, hg.output.trans h.output, Nat.le_trans h.size hg.size, fun k hk => by
    have hlt : k < a.heap.size := Nat.lt_of_not_le fun h => hk (hF k h)
    exact (hg.block k (Nat.lt_of_lt_of_le hlt h.size) (fun e => hk (hr k e.symm))).trans (h.block k hk)⟩
theorem Only.below {B : Nat} (h : Below B w w') : Only (B ≤ ·) w w' := ⟨h.os, h.tape, h.output, h.size, fun k hk => h.block k (by omega)⟩
theorem Only.toBelow {B : Nat} (h : Only F w w') (hF : ∀ k, F k → B ≤ k) : Below B w w' := ⟨h.os, h.tape, h.output, h.size, fun k hk => h.block k (fun hf => by have := hF k hf; omega)⟩
theorem Only.cell (h : Only F w w') {p : Addr} (hp : ¬ F p.block) : w'.cell? p = w.cell? p := World.cell?_of_block (w := w) (h.block p.block hp)
theorem Only.frozen (h : Only F w w') {p : Addr} (hp : ¬ F p.block) : w'.frozen? p = w.frozen? p := World.frozen?_of_block (w := w) (h.block p.block hp)
end

/-- Block g is the cells cs of element type t; none is frozen. -/
def Blk (w : World) (g : Nat) (t : TypeId) (cs : List Value) : Prop := w.heap[g]? = some (.cells cs.toArray t (0, 0))

section
variable {F : Nat → Prop} {w w' : World} {g : Nat} {t : TypeId} {cs : List Value}
theorem Blk.lt (h : Blk w g t cs) : g < w.heap.size := (Array.getElem?_eq_some_iff.1 h).1
theorem Blk.cell (h : Blk w g t cs) (i : Nat) : w.cell? ⟨g, i, none⟩ = cs[i]? := by rw [cell_of_row w g i _ t (0, 0) h]; simp
theorem Blk.frozen (h : Blk w g t cs) (i : Nat) : w.frozen? ⟨g, i, none⟩ = false := frozen_of_row w g i _ t h
theorem Blk.new (w : World) (t : TypeId) (cs : List Value) : Blk (w.alloc (.cells cs.toArray t)) w.heap.size t cs := heap_alloc_new w _
theorem Blk.drew (h : Blk w g t cs) : Blk w.drew g t cs := h
theorem Blk.drewN (h : Blk w g t cs) (n : Nat) : Blk (w.drewN n) g t cs := h
theorem Blk.alloc (h : Blk w g t cs) (o : Obj) : Blk (w.alloc o) g t cs := (Below.heap_alloc w o g h.lt).trans h
theorem Blk.only (h : Blk w g t cs) (ho : Only F w w') (hg : ¬ F g) : Blk w' g t cs := (ho.block g hg).trans h
theorem Blk.far (h : Blk w g t cs) {p : Addr} (hp : g ≠ p.block) (u : Value) : Blk (w.setCell p u) g t cs := (Below.heap_setCell w p u g hp).trans h
theorem Blk.set_ (h : Blk w g t cs) (i : Nat) (u : Value) : Blk (w.setCell ⟨g, i, none⟩ u) g t (cs.set i u) := by
  unfold Blk at h ⊢
  simp [World.setCell, Array.getElem?_modify, h]
theorem Blk.farN {b : Nat} (hp : g ≠ b) : ∀ (vs : List Value) (o : Nat) {w : World}, Blk w g t cs → Blk (w.setCells b o vs) g t cs
  | [], _, _, h => h
  | v :: r, o, _, h => Blk.farN hp r (o + 1) (h.far (p := ⟨b, o, none⟩) hp v)
theorem Blk.ne {t' : TypeId} {cs' : List Value} {g' : Nat} (h : Blk w g t cs) (h' : Blk w g' t' cs') (ht : t ≠ t') : g ≠ g' := by
  rintro rfl
  unfold Blk at h h'
  rw [h] at h'
  injection h' with h'
  injection h' with _ h2
  exact ht h2
theorem Blk.range (h : Blk w g t cs) (o n : Nat) : w.rangeAt g o ((cs.drop o).take n) := fun j v hv => by
  rw [h.cell]
  rw [List.getElem?_take, List.getElem?_drop] at hv
  split at hv
  · exact hv
  · cases hv
theorem Blk.there (h : Blk w g t cs) (o n : Nat) (hn : o + n ≤ cs.length) : w.there g o n := fun j hj => by
  refine ⟨?_, h.frozen _⟩
  rw [h.cell, List.getElem?_eq_getElem (by omega)]
  rfl
end

/-- vs laid over cs from place o on. -/
def over {α : Type} (cs : List α) (o : Nat) (vs : List α) : List α := cs.take o ++ (vs ++ cs.drop (o + vs.length))
theorem over_nil {α : Type} (cs : List α) (o : Nat) : over cs o [] = cs := by simp [over]
theorem over_cons {α : Type} (cs : List α) (o : Nat) (v : α) (r : List α) (h : o < cs.length) : over (cs.set o v) (o + 1) r = over cs o (v :: r) := by
  unfold over
  rw [List.take_set, List.drop_set, if_pos (by omega)]
  have e : (cs.take (o + 1)).set o v = cs.take o ++ [v] := by
    rw [List.take_succ_eq_append_getElem h, List.set_append_right _ _ (by simp; omega)]
    simp [Nat.min_eq_left (Nat.le_of_lt h)]
  rw [e]
  simp [Nat.add_comm, Nat.add_left_comm]
theorem over_map {α β : Type} (f : α → β) (cs : List α) (o : Nat) (vs : List α) : (over cs o vs).map f = over (cs.map f) o (vs.map f) := by
  simp [over, List.map_take, List.map_drop]
theorem over_length {α : Type} (cs : List α) (o : Nat) (vs : List α) (h : o + vs.length ≤ cs.length) : (over cs o vs).length = cs.length := by
  simp [over]; omega
theorem over_get {α : Type} (cs : List α) (o : Nat) (vs : List α) (h : o + vs.length ≤ cs.length) (i : Nat) :
    (over cs o vs)[i]? = if o ≤ i ∧ i < o + vs.length then vs[i - o]? else cs[i]? := by
  have h1 : (cs.take o).length = o := by simp; omega
  unfold over
  rw [List.getElem?_append, h1]
  by_cases c1 : i < o
  · rw [if_pos c1, if_neg (by omega), List.getElem?_take, if_pos c1]
  · rw [if_neg c1, List.getElem?_append]
    by_cases c2 : i - o < vs.length
    · rw [if_pos c2, if_pos (by omega)]
    · rw [if_neg c2, if_neg (by omega), List.getElem?_drop]
      congr 1
      omega
theorem over_append {α : Type} (cs ds : List α) (o : Nat) (vs : List α) (h : o + vs.length ≤ cs.length) : over (cs ++ ds) o vs = over cs o vs ++ ds := by
  apply List.ext_getElem?
  intro i
  rw [over_get _ _ _ (by simp; omega), List.getElem?_append, List.getElem?_append, over_length _ _ _ h, over_get _ _ _ h]
  split <;> split <;> first | rfl | omega
theorem Blk.setN {g : Nat} {t : TypeId} : ∀ (vs : List Value) (o : Nat) {w : World} {cs : List Value}, Blk w g t cs → o + vs.length ≤ cs.length → Blk (w.setCells g o vs) g t (over cs o vs)
  | [], o, w, cs, h, _ => by rw [over_nil]; exact h
  | v :: r, o, w, cs, h, hl => by
    simp only [List.length_cons] at hl
    rw [World.setCells, ← over_cons cs o v r (by omega)]
    exact Blk.setN r (o + 1) (h.set_ o v) (by simp; omega)

end Go.Proofs.Ytnjhpjpeeehagaa
