/-
  A reader: number, Get, Bytes, Err, Left.
-/
import Derived.Test.YtmkpcdcdhheokaaNews
import Derived.Test.YtmkpcdcdhheokaaFits
import Derived.Laws.BitsAllLaws
import Derived.Laws.BitsLemmas
import Derived.Outline
set_option linter.unusedVariables false
namespace Go.Proofs.Ytmkpcdcdhheokaa
open Go.RowKit

/-- A word without a sign, read as one with a sign. -/
def w64 (n : Nat) : Int := if n < 9223372036854775808 then (n : Int) else (n : Int) - 18446744073709551616
theorem num_take (xs : Bytes) (j : Nat) (x : UInt8) (h : xs[j]? = some x) : num (xs.take (j + 1)) = num (xs.take j) + x.toNat * 256 ^ j := by
  have hj : j < xs.length := (List.getElem?_eq_some_iff.1 h).1
  rw [List.take_add_one, h]
  show num (xs.take j ++ [x]) = _
  rw [num_snoc, List.length_take, Nat.min_eq_left (by omega)]
theorem num_take_lt (xs : Bytes) (j : Nat) (hj : j ≤ 7) : num (xs.take j) < 72057594037927936 := by
  have h1 := num_lt (xs.take j)
  have h2 : 256 ^ (xs.take j).length ≤ 256 ^ 7 := Nat.pow_le_pow_right (by decide) (by simp; omega)
  have h3 : (256 : Nat) ^ 7 = 72057594037927936 := by decide
  omega

theorem ofInt64 (a : Nat) (ha : a < 9223372036854775808) : (BitVec.ofInt 64 (a : Int)).toNat = a := by
  rw [BitVec.ofInt_natCast, BitVec.toNat_ofNat]; exact Nat.mod_eq_of_lt (by omega)
theorem ofInt64_wrap (m : Nat) (hm : m < 18446744073709551616) : (BitVec.ofInt 64 (wrap64 (m : Int))).toNat = m := by
  have h2 : ((2 ^ 64 : Nat) : Int) = 18446744073709551616 := rfl
  rw [BitVec.toNat_ofInt, h2]
  unfold wrap64
  omega
theorem w64_wrap (m : Nat) (hm : m < 18446744073709551616) : wrap64 (m : Int) = w64 m := by
  unfold w64 wrap64
  split <;> omega
theorem or_low (a y k : Nat) (ha : a < 2 ^ k) : a ||| y * 2 ^ k = a + y * 2 ^ k := by
  rw [Nat.or_comm, ← Nat.shiftLeft_eq, ← Nat.shiftLeft_add_eq_or_of_lt ha, Nat.add_comm]
theorem or64 (a m s : Nat) (b : Int) (ha : a < 9223372036854775808) (hb : (BitVec.ofInt 64 b).toNat = m) (h : a ||| m = s) (hs : s < 18446744073709551616) : bits .or .i64 (a : Int) b = w64 s := by
  show IntKind.i64.wrap ((BitVec.ofInt 64 (a : Int) ||| BitVec.ofInt 64 b).toNat : Int) = _
  rw [BitVec.toNat_or, ofInt64 a ha, hb, h, IntKind.wrap_i64]
  unfold w64
  split <;> omega
theorem or_val (a y j : Nat) (ha : a < 256 ^ j) (hy : y < 256) (hj : j ≤ 7) : bits .or .i64 (a : Int) (wrap64 ((y : Int) * 2 ^ (8 * j))) = w64 (a + y * 256 ^ j) := by
  have hp : (256 : Nat) ^ j = 2 ^ (8 * j) := by rw [Nat.pow_mul]
  have h7 : (256 : Nat) ^ j ≤ 72057594037927936 := by
    have h : (256 : Nat) ^ j ≤ 256 ^ 7 := Nat.pow_le_pow_right (by decide) hj
    have e : (256 : Nat) ^ 7 = 72057594037927936 := by decide
    omega
  have hz : (y : Int) * 2 ^ (8 * j) = ((y * 256 ^ j : Nat) : Int) := by rw [hp]; simp
  have hor : a ||| y * 256 ^ j = a + y * 256 ^ j := by
    rw [hp] at ha ⊢
    exact or_low a y _ ha
  have hm : y * 256 ^ j ≤ 255 * 72057594037927936 := Nat.mul_le_mul (by omega) h7
  rw [hz]
  generalize 256 ^ j = m at ha h7 hor hm ⊢
  generalize y * m = z at hor hm ⊢
  exact or64 a z _ _ (by omega) (ofInt64_wrap z (by omega)) hor (by omega)

set_option maxRecDepth 100000 in
set_option maxHeartbeats 1600000 in
theorem number_c (w : World) (A : Option Addr) (n c : Nat) (xs : Bytes) (ht : Txt w A n xs) (hn : n ≤ 8) :
    Calls Try.prog 35 #[.slice A n c] w fun e w' => e = .returned (.int .i64 (w64 (num xs))) ∧ w = w' := by
  have HT := Lib.hid ht
  clear ht
  go_enter Try.func35, Try.ntmps35
  go_wp2
  go_loop [8, 3] (fun i v => ∃ j : Nat, j ≤ n ∧ i = .int .i64 j ∧ v = .int .i64 (w64 (num (xs.take j)))) (fun i _ => n - (intOf i).toNat)
  case atStart => exact ⟨0, Nat.zero_le _, rfl, by simp [num, w64]⟩
  case round =>
    obtain ⟨j, hj, rfl, rfl⟩ := hrel
    by_cases hlt : j < n
    · have hlt' : (j : Int) < (n : Int) := by omega
      obtain ⟨ad, x, rfl, hx, hcell⟩ := HT.out.at_ hlt
      have i7 : (j : Int) ≤ 7 := by omega
      have HN := Lib.hid (num_take xs j x hx)
      have hl := num_take_lt xs j (by omega)
      have hl2 : num (xs.take j) < 256 ^ j := by
        have := num_lt (xs.take j)
        rwa [List.length_take, Nat.min_eq_left (by have := HT.out.1; omega)] at this
      have HW : Hid (w64 (num (xs.take j)) = (num (xs.take j) : Int)) := by show _ = _; rw [w64, if_pos (by omega)]
      have hx8 : (x.toNat : Int) < 256 := by have := UInt8.toNat_lt x; omega
      have HO : Hid (bits .or .i64 (num (xs.take j) : Int) (wrap64 ((x.toNat : Int) * 2 ^ (8 * j))) = w64 (num (xs.take (j + 1)))) := by
        show _ = _
        rw [HN.out]
        exact or_val _ _ _ hl2 (UInt8.toNat_lt x) (by omega)
      rw [HW.out]
      clear HW hl2
      generalize x.toNat = y at hcell HN hx8 HO
      generalize num (xs.take j) = a at HN hl HO ⊢
      clear hx
      go_wp2
      refine ⟨⟨j + 1, by omega, by go_num, by rw [HO.out]⟩, ?_⟩
      simp [intOf]
      omega
    · obtain rfl : j = n := by omega
      have hlt' : ¬ (j : Int) < (j : Int) := by omega
      have hlen := HT.out.1
      rw [List.take_of_length_le (by omega)]
      clear hlen
      go_wp2
      go_ret
      exact ⟨rfl, rfl⟩
end Go.Proofs.Ytmkpcdcdhheokaa
