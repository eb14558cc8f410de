/-
  nodeHead.
-/
import Derived.Test.YtbgnfocfnjlabaaDoorPbd
import Derived.Test.YtbgnfocfnjlabaaDoorHeq
set_option linter.unusedVariables false
namespace Go.Proofs.YtbgnfocfnjlabaaDoor
open Go.RowKit

/-- What nodeHead answers. -/
def nhE (b : Bytes) : Int := if b.length ≠ 256 then 72 else if hdE b ≠ 0 then hdE b else if hdK b ≠ 76 ∧ hdK b ≠ 66 then 70 else if hdG b ≠ 1 ∧ isSealed b 4 = false then 71 else 0
def nhV (b : Bytes) : Value := if nhE b = 0 then hdOk b else hdBad (nhE b)
def hd4 (k g n x : Int) : Value := .agg #[.int .i64 k, .int .i64 g, .int .i64 n, .int .i64 x]
theorem hd_set {wz : World} {q : Nat} {a b c d k x n y : Value} (h : Blk wz q 57 [a, b, c, d]) : Blk ((((wz.setCell ⟨q, 0, none⟩ k).setCell ⟨q, 1, none⟩ x).setCell ⟨q, 2, none⟩ n).setCell ⟨q, 3, none⟩ y) q 57 [k, x, n, y] := (((h.set_ 0 _).set_ 1 _).set_ 2 _).set_ 3 _
theorem hd_only {w wz : World} {q : Nat} {k x n y : Value} (h : Only (w.heap.size ≤ ·) w wz) (hq : w.heap.size ≤ q) : Only (w.heap.size ≤ ·) w ((((wz.setCell ⟨q, 0, none⟩ k).setCell ⟨q, 1, none⟩ x).setCell ⟨q, 2, none⟩ n).setCell ⟨q, 3, none⟩ y) :=
  (((h.setCell (p := ⟨q, 0, none⟩) hq _).setCell (p := ⟨q, 1, none⟩) hq _).setCell (p := ⟨q, 2, none⟩) hq _).setCell (p := ⟨q, 3, none⟩) hq _
section
variable (w : World) (A : Option Addr) (n c : Nat)
end
end Go.Proofs.YtbgnfocfnjlabaaDoor
