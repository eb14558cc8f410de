/-
  readingOf, read: the node that a body tells.
-/
import Derived.Test.YtbgnfocfnjlabaaDoorAdd
import Derived.Test.YtbgnfocfnjlabaaDoorPhd
import Derived.Test.YtbgnfocfnjlabaaDoorGb
set_option linter.unusedVariables false
namespace Go.Proofs.YtbgnfocfnjlabaaDoor
open Go.RowKit
attribute [local go_sem] run_store_func

/-- So many are read, as long as nothing is missing. -/
def rdLoop {α : Type} (f : Cur → α × Cur) : Nat → List α → Cur → List α × Cur
  | 0, a, c => (a, c)
  | n + 1, a, c => if c.sp = true then (a, c) else rdLoop f n (a ++ [(f c).1]) (f c).2
theorem rdLoop_sp {α : Type} (f : Cur → α × Cur) (n : Nat) (a : List α) {c : Cur} (h : c.sp = true) : rdLoop f n a c = (a, c) := by
  cases n with
  | zero => rfl
  | succ n => rw [rdLoop, if_pos h]
def rdN (lf : Bool) (g : Int) (cnt : Nat) (b : Bytes) : Nd := if lf = true then ⟨true, (rdLoop (rdI g) cnt [] (Cur.new b)).1, []⟩ else ⟨false, [], (rdLoop (rdK g) cnt [] (Cur.new b)).1⟩
def rdC (lf : Bool) (g : Int) (cnt : Nat) (b : Bytes) : Cur := if lf = true then (rdLoop (rdI g) cnt [] (Cur.new b)).2 else (rdLoop (rdK g) cnt [] (Cur.new b)).2
/-- A node came back, and a number. -/
def GaveR (w : World) (x : Nd) (z : Int) (e : Ending) (w' : World) : Prop := ∃ A n c B m d, e = .returned (.tuple #[.agg #[.bool x.leaf, .slice A n c, .slice B m d], .int .i64 z]) ∧ Nod w' x x.leaf (.slice A n c) (.slice B m d) ∧ Only (w.heap.size ≤ ·) w w'
def itK (B : Nat) (ob : Option Nat) (w : World) (x : It) (cs : List Value) : Prop := ∃ P pc Q qc, cs = [.slice P x.1.length pc, .slice Q x.2.1.length qc, .int .i64 x.2.2.1, .int .i64 x.2.2.2] ∧ KeyAt B w ob (.slice P x.1.length pc) x.1 ∧ KeyAt B w ob (.slice Q x.2.1.length qc) x.2.1
def kdK (B : Nat) (ob : Option Nat) (w : World) (x : Kd) (cs : List Value) : Prop := ∃ P pc, cs = [.slice P x.1.length pc, .int .i64 x.2] ∧ KeyAt B w ob (.slice P x.1.length pc) x.1

end Go.Proofs.YtbgnfocfnjlabaaDoor
