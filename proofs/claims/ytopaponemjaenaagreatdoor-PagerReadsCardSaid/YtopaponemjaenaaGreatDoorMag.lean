/-
  A number's lowest bit.
-/
import Derived.Test.YtopaponemjaenaaGreatDoorPgar
set_option linter.unusedVariables false
namespace Go.Proofs.YtopaponemjaenaaGreatDoor
open Go.RowKit

theorem and_one (k : Nat) (h : k < 9223372036854775808) : bits .and .i64 (k : Int) 1 = ((k % 2 : Nat) : Int) := by
  show IntKind.i64.wrap ((BitVec.ofInt 64 (k : Int) &&& BitVec.ofInt 64 1).toNat : Int) = _
  rw [BitVec.toNat_and, ofInt64 k h, show (BitVec.ofInt 64 1).toNat = 1 from by decide, Nat.and_one_is_mod, IntKind.wrap_i64]
  omega
end Go.Proofs.YtopaponemjaenaaGreatDoor
