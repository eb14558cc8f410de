/-
  Metas: the document's number.
-/
import Derived.Test.YtopaponemjaenaaGreatDoorGv
set_option linter.unusedVariables false
namespace Go.Proofs.YtopaponemjaenaaGreatDoor
open Go.RowKit

/-- Bytes, the lowest first; -1: too great. -/
def number9 (xs : Bytes) : Int := if num (xs.drop 1) ≤ 1099511627776 then (num xs : Nat) else -1
theorem num_step (xs : Bytes) (j : Nat) (x : UInt8) (h : xs[j]? = some x) : num (xs.drop j) = x.toNat + 256 * num (xs.drop (j + 1)) := by
  obtain ⟨hl, hx⟩ := List.getElem?_eq_some_iff.1 h
  rw [List.drop_eq_getElem_cons hl, hx]
  rfl
theorem num9_le (xs : Bytes) : ∀ (j : Nat), num (xs.drop (j + 1)) ≤ num (xs.drop j) := fun j => by
  by_cases h : j < xs.length
  · have := num_step xs j _ (List.getElem?_eq_getElem h)
    omega
  · rw [List.drop_eq_nil_of_le (by omega)]
    exact Nat.zero_le _
theorem num_drop_one (xs : Bytes) : ∀ (j : Nat), 1 ≤ j → num (xs.drop j) ≤ num (xs.drop 1)
  | 0, h => by omega
  | 1, _ => Nat.le_refl _
  | j + 2, _ => Nat.le_trans (num9_le xs (j + 1)) (num_drop_one xs (j + 1) (by omega))
set_option maxRecDepth 100000 in
set_option maxHeartbeats 3200000 in
theorem rmnumber_c (w : World) (A : Option Addr) (n c : Nat) (xs : Bytes) (hs : Src w (.slice A n c) xs) (hn : n = xs.length) (h8 : n ≤ 8) :
    Calls Tryz.prog 96 #[.slice A n c] w fun e w' => e = .returned (.int .i64 (number9 xs)) ∧ w = w' := by
  have HS := Lib.hid hs
  have HN := Lib.hid hn
  obtain ⟨z, hz⟩ : ∃ z, z = number9 xs := ⟨_, rfl⟩
  rw [← hz]
  have HZ := Lib.hid hz
  clear hs hn hz
  go_enter Tryz.func96, Tryz.ntmps96
  go_wp2_with (fail)
  go_loopw [3, 4] (fun nv kv wr => ∃ (i : Nat) (v : Nat), i ≤ n ∧ kv = .int .i64 ((i : Int) - 1) ∧ nv = .int .i64 (v : Nat) ∧ Hid (v = num (xs.drop i)) ∧ Hid (i < n → num (xs.drop (i + 1)) ≤ 1099511627776) ∧ wr = w) (fun _ kv _ => ((intOf kv) + 1).toNat)
  case atStart => exact ⟨n, 0, Nat.le_refl _, rfl, rfl, Lib.hid (by rw [List.drop_eq_nil_of_le (by rw [← HN.out]; exact Nat.le_refl _)]; rfl), Lib.hid (fun h => absurd h (Nat.lt_irrefl _)), rfl⟩
  case round =>
    obtain ⟨i, v, hi, rfl, rfl, HV, HB, rfl⟩ := hrel
    rcases Nat.eq_zero_or_pos i with rfl | hpos
    · have h0 : ¬ (0 : Int) ≤ ((0 : Nat) : Int) - 1 := by omega
      have HE : Hid (z = (v : Nat)) := Lib.hid (by
        rw [HZ.out, HV.out, List.drop_zero]
        unfold number9
        by_cases hp : 0 < n
        · rw [if_pos (HB.out hp)]
        · have : xs = [] := List.eq_nil_of_length_eq_zero (by rw [← HN.out]; omega)
          subst this
          rfl)
      go_wp2
      go_ret
      exact ⟨by rw [HE.out]; rfl, rfl⟩
    · obtain ⟨j, rfl⟩ : ∃ j, i = j + 1 := ⟨i - 1, by omega⟩
      have e1 : ((j + 1 : Nat) : Int) - 1 = (j : Int) := by omega
      rw [e1]
      have h0 : (0 : Int) ≤ (j : Int) := by omega
      by_cases hv : 1099511627776 < v
      · have hvi : (1099511627776 : Int) < (v : Int) := by omega
        have HE : Hid (z = -1) := Lib.hid (by
          rw [HZ.out]
          unfold number9
          rw [if_neg]
          have := num_drop_one xs (j + 1) (by omega)
          rw [← HV.out] at this
          omega)
        go_wp2
        go_ret
        exact ⟨by rw [HE.out]; rfl, rfl⟩
      · have hvi : ¬ (1099511627776 : Int) < (v : Int) := by omega
        obtain ⟨ad, y, rfl, hy, hc⟩ : ∃ ad y, A = some ad ∧ xs[j]? = some y ∧ wr.cell? (ad.add j) = some (.int .u8 (y.toNat : Nat)) := by
          obtain ⟨A', c', e, ht, _⟩ := HS.out
          simp only [Value.slice.injEq] at e
          obtain ⟨rfl, e2, rfl⟩ := e
          rw [← e2] at ht
          obtain ⟨ad, y, h1, h2, h3⟩ := ht.at_ (k := j) (by omega)
          exact ⟨ad, y, h1, h2, h3⟩
        have hjn : (j : Int) < (n : Int) := by omega
        have hy8 : (y.toNat : Int) < 256 := by have := UInt8.toNat_lt y; omega
        have HNX := Lib.hid (num_step xs j y hy)
        generalize y.toNat = yb at hc hy8 HNX
        clear hy
        have w1 : IntKind.i64.wrap ((v : Int) * 256) = (v : Int) * 256 := IntWalk.i64_in _ (by omega)
        have w2 : IntKind.i64.wrap ((v : Int) * 256 + (yb : Int)) = (v : Int) * 256 + (yb : Int) := IntWalk.i64_in _ (by omega)
        have HV2 : Hid (v * 256 + yb = num (xs.drop j)) := Lib.hid (by rw [HNX.out, ← HV.out]; omega)
        have HB2 : Hid (num (xs.drop (j + 1)) ≤ 1099511627776) := Lib.hid (by rw [← HV.out]; omega)
        go_wp2_with (fail)
        go_roundw
        case rel => exact ⟨j, v * 256 + yb, by omega, rfl, by rw [Int.natCast_add, Int.natCast_mul]; rfl, HV2, Lib.hid (fun _ => HB2.out), trivial⟩
        case measure => simp [intOf]
end Go.Proofs.YtopaponemjaenaaGreatDoor
