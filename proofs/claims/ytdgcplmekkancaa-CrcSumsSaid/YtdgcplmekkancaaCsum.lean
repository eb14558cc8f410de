/-
  CrcSums: the walk.
-/
import Derived.Test.YtdgcplmekkancaaAliv
set_option linter.unusedVariables false
namespace Go.Proofs.Ytdgcplmekkancaa
open Go.RowKit

set_option maxRecDepth 100000 in
set_option maxHeartbeats 1600000 in
theorem sums_walk (w : World) (A : Option Addr) (n c : Nat) (xs : Bytes) (ht : Txt w A n xs) (hc : n ≤ c) (hcm : c ≤ 9223372036854775807) :
    Calls Try.prog 3 #[.slice A n c] w fun e w' => e = .returned (.bool true) ∧ Only (w.heap.size ≤ ·) w w' := by
  have HT := Lib.hid ht
  by_cases h6 : 600 < n
  · have i6 : (600 : Int) < (n : Int) := by omega
    clear ht
    go_enter Try.func3, Try.ntmps3
    go_wp2_with (first | (go_at_call 8; refine (alive_c _).mono ?_; rintro e w1 ⟨rfl, ho1⟩))
    go_ret
    exact ⟨rfl, ho1⟩
  · have i6 : ¬ ((600 : Int) < (n : Int)) := by omega
    clear ht
    go_enter Try.func3, Try.ntmps3
    go_wp2_with (first | (go_at_call 8; refine (alive_c _).mono ?_; rintro e w1 ⟨rfl, ho1⟩; have HO1 := Lib.hid ho1; clear ho1) | (go_at_call 9; refine (Of_c _ A n c xs (HT.out.later HO1.out) (by omega)).mono ?_; rintro e w2 ⟨rfl, ho2⟩; have HO2 : Hid (Only (w.heap.size ≤ ·) w w2) := HO1.out.trans (ho2.mono fun k h => Nat.le_trans HO1.out.size h); clear ho2) | (go_at_call 10; refine (refOf_c _ A n c xs (HT.out.later HO2.out) (by omega)).mono ?_; rintro e w3 ⟨rfl, ho3⟩; have HO3 : Hid (Only (w.heap.size ≤ ·) w w3) := HO2.out.trans (ho3.mono fun k h => Nat.le_trans HO2.out.size h); clear ho3))
    go_ret
    exact ⟨rfl, HO3.out⟩
end Go.Proofs.Ytdgcplmekkancaa
