/-
  alive, as plain data.
-/
import Derived.Test.YtbpldkhgiddmlaaGreatDoorPgf
set_option linter.unusedVariables false
namespace Go.Proofs.YtbpldkhgiddmlaaGreatDoor
open Go.RowKit

def zE (x : Int) : Bytes := encB [1, 0, 0, x, 2, 3, 0] []
def zSv : Bytes := List.replicate 256 7
def zW1 : List Wt := [(2, zSv)]
def zA : Dk.Dsk := Dk.Dsk.load [] 100
theorem z_ok : okM 1 0 0 2 2 3 0 0 = true ∧ okM 1 0 0 3 2 3 0 0 = true ∧ okM 1 0 0 1 2 3 0 0 = true := by decide +kernel
def zB : Dk.Dsk × Int := fmP zA true 3 2 zW1 (zE 1) (zE 2)
def zC : Dk.Dsk × Int := cmP zB.1 true 3 3 zW1 (zE 3)
theorem zB_err : zB.2 = 0 := by decide +kernel
theorem zC_err : zC.2 = 0 := by decide +kernel
theorem zC_nums : zC.1.n = 12 ∧ zC.1.limit = 100 ∧ zC.1.ops = 9 ∧ zC.1.down = false := by decide +kernel
theorem zC_page : rdP zC.1 2 1 = (zSv, 0) := by decide +kernel
theorem zC_odd : rdP zC.1 3 1 = ([], 11) := by decide +kernel
theorem zC_at : (nwP zC.1).at_ = 1 ∧ (nwP zC.1).N = [1, 0, 0, 3, 2, 3, 0] ∧ (nwP zC.1).X = [] := by decide +kernel
end Go.Proofs.YtbpldkhgiddmlaaGreatDoor
