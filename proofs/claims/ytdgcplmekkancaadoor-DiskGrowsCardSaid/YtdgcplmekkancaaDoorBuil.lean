/-
  What Write lays: an element of the row; the disk behind each of the two statements of its loop.
-/
import Derived.Test.YtdgcplmekkancaaDoorCrsh
import Derived.Deep.AppendLies
import Derived.Great.BuildSlice
set_option linter.unusedVariables false
namespace Go.Proofs.YtdgcplmekkancaaDoor
open Go.RowKit

theorem foldl_over (off : Nat) : ∀ (l : List Value) (s : Nat) (cs : List Value), off + s + l.length ≤ cs.length →
    ((l.zipIdx s).foldl (fun (cs : Array Value) (x : Value × Nat) => cs.setIfInBounds (off + x.2) x.1) cs.toArray) = (over cs (off + s) l).toArray
  | [], s, cs, _ => by simp [over_nil]
  | v :: r, s, cs, h => by
    simp only [List.length_cons] at h
    rw [List.zipIdx_cons, List.foldl_cons]
    have e : cs.toArray.setIfInBounds (off + s) v = (cs.set (off + s) v).toArray := by simp
    show List.foldl _ (cs.toArray.setIfInBounds (off + s) v) _ = _
    rw [e, foldl_over off r (s + 1) _ (by simp; omega), show off + (s + 1) = off + s + 1 by omega, over_cons _ _ _ _ (by omega)]

theorem fill_one (place : Nat → Option (Nat × Nat)) (cs : List Value) (i off size : Nat) (v : Value) (rest : List (Nat × Value)) (hp : place i = some (off, size)) (hv : v.cells.size = size) (hl : off + size ≤ cs.length) :
    Instr.fill place cs.toArray ((i, v) :: rest) = Instr.fill place (over cs off v.cells.toList).toArray rest := by
  have h := foldl_over off v.cells.toList 0 cs (by simp; omega)
  simp only [Nat.add_zero] at h
  rw [Instr.fill, hp]
  simp only
  rw [if_neg (by simp [hv]; omega)]
  congr 1
  rw [← h, ← Array.foldl_toList, Array.toList_zipIdx]

theorem places58 : ∃ fs : Array Field, Tryd.prog.underlying 53 = some (.struct fs) ∧ fs.toList.mapM (fun f => (Tryd.prog.info? f.type).map fun i => (f.offset, i.size)) = some [(0, 1), (1, 64)] :=
  ⟨_, Tryd.underlying53, by kernel_rfl⟩

theorem build58 (a : Int) (n : Nat) (s : Bytes) (hs : s.length = 64) (ha : a = (n : Int)) (W : World) :
    (Instr.build 53 #[(0, .int .i64 a), (1, .agg (cb s).toArray)]).run Tryd.prog W = .ok (.agg (wrCells (n, s)).toArray) W := by
  subst ha
  refine run_build W 53 _ _ ?_
  obtain ⟨fs, hu, hp⟩ := places58
  obtain ⟨i0, hi0, hz0, hz1, hz2⟩ := info_parts info58
  unfold Program.built
  rw [hi0, hu]
  simp only [hz0, hp]
  have e0 : (Value.agg ((#[.int .i64 0] : Array Value) ++ Array.replicate 64 z8)).cells = (Value.int .i64 0 :: List.replicate 64 z8).toArray := by
    simp [Value.cells]
  rw [e0, fill_one _ _ 0 0 1 _ _ (by rfl) (by rfl) (by simp)]
  rw [show over (Value.int .i64 0 :: List.replicate 64 z8) 0 (Value.int .i64 (n : Int)).cells.toList = Value.int .i64 (n : Int) :: List.replicate 64 z8 by simp [over, Value.cells]]
  rw [fill_one _ _ 1 1 64 _ _ (by rfl) (by simp [Value.cells, cb_length, hs]) (by simp)]
  have hcl : (cb s).length = 64 := by rw [cb_length, hs]
  have e1 : over (Value.int .i64 (n : Int) :: List.replicate 64 z8) 1 (Value.agg (cb s).toArray).cells.toList = wrCells (n, s) := by
    simp only [over, Value.cells, List.take_succ_cons, List.take_zero, hcl, wrCells]
    simp
  rw [e1]
  rfl

theorem buildSlice54 (e : Wr) (he : e.2.length = 64) (W : World) :
    (Instr.buildSlice 48 1 #[(0, .agg (wrCells e).toArray)]).run Tryd.prog W = .ok (.slice (some ⟨W.heap.size, 0, none⟩) 1 1) (W.alloc (.cells (wrCells e).toArray 53)) := by
  obtain ⟨i0, hi0, hz0, hz1, hz2⟩ := info_parts info58
  refine run_buildSlice W 48 53 1 _ _ i0 _ Tryd.underlying48 hi0 hz0 (by rw [hz1]; decide) (by rw [hz1]; decide) ?_
  have hl := wrCells_length he
  have hmap : ∀ f : Nat → Value, ∃ cs : List Value, cs.length = 65 ∧ (Array.range (1 * i0.size)).map f = cs.toArray := fun f => ⟨((Array.range (1 * i0.size)).map f).toList, by simp [hz1], (Array.toArray_toList).symm⟩
  obtain ⟨cs, hcs⟩ := hmap ((Value.agg ((#[.int .i64 0] : Array Value) ++ Array.replicate 64 z8)).cells[· % (Value.agg ((#[.int .i64 0] : Array Value) ++ Array.replicate 64 z8)).cells.size]!)
  rw [hcs.2, hz1]
  rw [fill_one _ cs 0 0 65 _ _ (by rfl) (by simp [Value.cells, hl]) (by omega)]
  have e1 : over cs 0 (Value.agg (wrCells e).toArray).cells.toList = wrCells e := by
    simp only [over, Value.cells, List.take_zero, List.nil_append, Nat.zero_add, hl]
    rw [List.drop_of_length_le (by omega)]
    simp
  rw [e1]
  rfl

section
variable {w wk w3 : World} {F : Nat → Prop} {p : Nat} {d : Dsk} {Y : Bytes} {Ad As Ar : Option Addr} {cd cs cr : Nat}
/-- Bytes of a sector laid over what is seen. -/
theorem DiskIn.putSeen (h : DiskIn wk p d Y Ad As Ar cd cs cr) {a : Nat} {x : Bytes} (hl : Y.length = d.n * 64) (he : a < d.n) (he2 : x.length = 64) {g : Nat} (hg : As = some ⟨g, 0, none⟩) :
    DiskIn (wk.setCells g (a * 64) (cb x)) p d (over Y (a * 64) x) Ad As Ar cd cs cr := by
  obtain ⟨g', cur, hgg, hb, hbl, hnc, hcm⟩ := owns_form h.seen hg
  cases hgg
  have hfar : ∀ k, k ≠ g → (wk.setCells g (a * 64) (cb x)).heap[k]? = wk.heap[k]? := fun k hk => heap_setCells_far g k hk _ _ _
  have hcl : (cb x).length = 64 := by rw [cb_length, he2]
  have hYl : (cb Y).length = d.n * 64 := by rw [cb_length, hl]
  have hb2 : Blk (wk.setCells g (a * 64) (cb x)) g 47 (cb (over Y (a * 64) x) ++ cur) := by
    have := hb.setN (cb x) (a * 64) (by rw [List.length_append, hYl, hcl]; omega)
    rw [over_append _ _ _ _ (by rw [hYl, hcl]; omega), ← cb_over] at this
    exact this
  have hpl : (over Y (a * 64) x).length = d.n * 64 := (over_length _ _ _ (by omega)).trans hl
  refine ⟨(hfar p (by have := h.ne_s _ hg; exact this.symm)).trans h.blk, ?_, ?_, ?_, h.apart⟩
  · exact owns_far h.dur fun b hb => hfar _ (fun e => h.apart b _ hb hg e)
  · rw [hg]
    exact owns_mk hb2 (by rw [cb_length, hpl]) (by rw [List.length_append, cb_length, hpl, ← hbl, List.length_append, hYl]) hnc hcm
  · exact owns_far h.row fun b hb => hfar _ (fun e => h.ne_rs b _ hb hg e)

/-- A write more in the row: behind the append, and the store of the field. -/
theorem DiskIn.addRow (h : DiskIn wk p d Y Ad As Ar cd cs cr) {e : Wr} {g cap : Nat} (hlt : wk.heap.size ≤ w.heap.size) (hk : ∀ k, k < wk.heap.size → w.heap[k]? = wk.heap[k]?)
    (ho : w3.ownsRow 0 53 65 (.slice (some ⟨g, 0, none⟩) (d.row.length + 1) cap) (d.row.length + 1) (rowCells d.row ++ wrCells e)) (hg : w.grownBy w3 (Value.ownBlock (.slice Ar d.row.length cr))) (hat : Value.ownBlock (.slice Ar d.row.length cr) = some g ∨ g = w.heap.size) :
    DiskIn (w3.setCell ⟨p, 3, none⟩ (.slice (some ⟨g, 0, none⟩) (d.row.length + 1) cap)) p { d with row := d.row ++ [e] } Y Ad As (some ⟨g, 0, none⟩) cd cs cap ∧
      (∀ k, Foot p Ad As (some ⟨g, 0, none⟩) k → Foot p Ad As Ar k ∨ w.heap.size ≤ k) ∧ w3.cell? ⟨p, 3, none⟩ = some (.slice Ar d.row.length cr) ∧ w3.frozen? ⟨p, 3, none⟩ = false ∧ p < w3.heap.size := by
  have ob : ∀ k, Value.ownBlock (.slice Ar d.row.length cr) = some k → ∃ a, Ar = some a ∧ a.block = k := by
    intro k hk
    cases Ar with
    | none => simp [Value.ownBlock] at hk
    | some a => exact ⟨a, rfl, by simpa [Value.ownBlock] using hk⟩
  have u : ∀ k, k < wk.heap.size → (∀ a, Ar = some a → a.block ≠ k) → w3.heap[k]? = wk.heap[k]? := fun k hlk hne =>
    (hg.block k (by omega) (fun e => by obtain ⟨a, ha, hb⟩ := ob k e.symm; exact hne a ha hb)).trans (hk k hlk)
  have hplt := h.blk.lt
  have hp3 : w3.heap[p]? = wk.heap[p]? := u p hplt fun a ha => h.ne_r a ha
  have b3 : Blk w3 p 50 _ := hp3.trans h.blk
  have hgp : g ≠ p := by
    rcases hat with h1 | h1
    · obtain ⟨a, ha, hb⟩ := ob g h1
      rw [← hb]; exact h.ne_r a ha
    · omega
  have us : ∀ k, k ≠ p → (w3.setCell ⟨p, 3, none⟩ (.slice (some ⟨g, 0, none⟩) (d.row.length + 1) cap)).heap[k]? = w3.heap[k]? := fun k hk => Below.heap_setCell w3 ⟨p, 3, none⟩ _ k hk
  refine ⟨⟨?_, ?_, ?_, ?_, h.apart⟩, ?_, b3.cell 3, b3.frozen 3, b3.lt⟩
  · have := b3.set_ 3 (.slice (some ⟨g, 0, none⟩) (d.row.length + 1) cap)
    unfold fieldsOf at this ⊢
    simpa using this
  · exact owns_far h.dur fun a ha => (us _ (h.ne_d a ha)).trans (u _ (h.lt _ (.inr (.inl ⟨a, ha, rfl⟩))) (fun b hb => h.ne_rd b a hb ha))
  · exact owns_far h.seen fun a ha => (us _ (h.ne_s a ha)).trans (u _ (h.lt _ (.inr (.inr (.inl ⟨a, ha, rfl⟩)))) (fun b hb => h.ne_rs b a hb ha))
  · have := owns_far (w' := w3.setCell ⟨p, 3, none⟩ (.slice (some ⟨g, 0, none⟩) (d.row.length + 1) cap)) ho fun a ha => by cases ha; exact us g hgp
    rw [rowCells_append, rowCells_one]
    simpa using this
  · rintro k (rfl | h1 | h1 | ⟨a, ha, rfl⟩)
    · exact .inl (.inl rfl)
    · exact .inl (.inr (.inl h1))
    · exact .inl (.inr (.inr (.inl h1)))
    · cases ha
      rcases hat with h2 | h2
      · exact .inl (.inr (.inr (.inr (ob g h2))))
      · exact .inr (by show w.heap.size ≤ g; omega)
end
end Go.Proofs.YtdgcplmekkancaaDoor
