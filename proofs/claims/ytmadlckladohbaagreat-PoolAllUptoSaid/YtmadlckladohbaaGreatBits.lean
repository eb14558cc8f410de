/-
  Set of the document: the pages of runs as a row of yes and no.
-/
import Derived.Test.YtmadlckladohbaaGreatRref
import Derived.Test.YtmadlckladohbaaGreatPlan
import Derived.Test.YtmadlckladohbaaGreatCopy
import Derived.Laws.MakeOwn
set_option linter.unusedVariables false
namespace Go.Proofs.YtmadlckladohbaaGreat
open Go.RowKit

/-- The cells of a row of m yes and no. -/
def bf (f : Nat → Bool) (m : Nat) : List Value := (List.range m).map fun p => .bool (f p)
theorem bf_length (f : Nat → Bool) (m : Nat) : (bf f m).length = m := by simp [bf]
theorem bf_get (f : Nat → Bool) {m p : Nat} (h : p < m) : (bf f m)[p]? = some (.bool (f p)) := by
  simp [bf, List.getElem?_range h]
theorem bf_set {f f' : Nat → Bool} {m p : Nat} {b : Bool} (h : ∀ q, q < m → f' q = if q = p then b else f q) : (bf f m).set p (.bool b) = bf f' m := by
  apply List.ext_getElem?
  intro i
  rw [List.getElem?_set, bf_length]
  by_cases hi : i < m
  · rw [bf_get f' hi, h i hi, bf_get f hi]
    by_cases e : p = i
    · subst e; simp [hi]
    · rw [if_neg e, if_neg (Ne.symm e)]
  · have hn : (bf f' m)[i]? = none := List.getElem?_eq_none (by rw [bf_length]; omega)
    have hn' : (bf f m)[i]? = none := List.getElem?_eq_none (by rw [bf_length]; omega)
    rw [hn, hn']
    split
    · rw [if_neg (by omega)]
    · rfl
theorem bf_congr {f f' : Nat → Bool} {m : Nat} (h : ∀ q, q < m → f q = f' q) : bf f m = bf f' m := by
  apply List.ext_getElem?
  intro i
  by_cases hi : i < m
  · rw [bf_get f hi, bf_get f' hi, h i hi]
  · rw [List.getElem?_eq_none (by rw [bf_length]; omega), List.getElem?_eq_none (by rw [bf_length]; omega)]

def zB : Value := .bool false
theorem infoB : (Tryz.prog.info? 4).map (fun i => (i.zero, i.size, i.bytes)) = some (some zB, 1, 1) := by kernel_rfl
theorem madeB (n : Nat) : madeCells zB.cells n = (bf (fun _ => false) n).toArray := by
  unfold madeCells
  apply Array.ext
  · simp [bf]
  · intro i h1 h2
    simp [Value.cells, zB, bf, Nat.mod_one]
theorem run_makeB (n : Nat) (hn : n ≤ 65536) (W : World) : (Instr.makeSlice 93 (.int .i64 (n : Int)) (.int .i64 (n : Int))).run Tryz.prog W = .ok (.slice (some ⟨W.heap.size, 0, none⟩) n n) (W.alloc (.cells (bf (fun _ => false) n).toArray 4)) := by
  obtain ⟨i0, hi0, hz0, hz1, hz2⟩ := info_parts infoB
  have hr := run_make (P := Tryz.prog) W 93 4 i0 _ Tryz.underlying93 hi0 hz0 .i64 .i64 (n : Int) (n : Int) (by omega) (by omega) (by rw [hz2]; omega) (by omega)
  simp only [Int.toNat_natCast] at hr
  rw [madeB, hz1, Nat.mul_one] at hr
  exact hr

def setOf (l : List R) : Nat → Bool := fun p => inn (known l) p
/-- A row of yes and no of the call's own. -/
def MakesB (w : World) (f : Nat → Bool) (m : Nat) (e : Ending) (w' : World) : Prop := ∃ g, e = .returned (.slice (some ⟨g, 0, none⟩) m m) ∧ w.heap.size ≤ g ∧ Blk w' g 4 (bf f m) ∧ Only (w.heap.size ≤ ·) w w'

theorem known_of {l : List R} (h : right l = true) : known l = l := if_pos h
theorem known_not {l : List R} (h : right l = false) : known l = [] := if_neg (by rw [h]; decide)
theorem inn_snoc {l : List R} {k : Nat} {x : R} (h : l[k]? = some x) (p : Int) : inn (l.take (k + 1)) p = (inn (l.take k) p || decide (x.1 ≤ p ∧ p < x.1 + x.2)) := by
  rw [List.take_add_one, h]
  simp [inn]

end Go.Proofs.YtmadlckladohbaaGreat
