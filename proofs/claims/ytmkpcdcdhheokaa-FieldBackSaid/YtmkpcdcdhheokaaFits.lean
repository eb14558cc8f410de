/-
  isWidth, Fits; the document's Fits.
-/
import Derived.Test.YtmkpcdcdhheokaaAbst
import Derived.Deep.QuietTactic
import Derived.BigQuiet
import Derived.IntWalk
set_option linter.unusedVariables false
namespace Go.Proofs.Ytmkpcdcdhheokaa
open Go.RowKit

theorem isWidth_c (w : World) (n : Int) :
    Calls Try.prog 33 #[.int .i64 n] w fun e w' => e = .returned (.bool (wide n)) ∧ w = w' := by
  by_cases h : 1 ≤ n
  · have E : Hid (wide n = decide (n ≤ 8)) := by show _ = _; rw [wide, decide_eq_true h]; rfl
    go_enter Try.func33, Try.ntmps33
    go_wp2
    go_ret
    rw [E.out]
    exact ⟨rfl, rfl⟩
  · have E : Hid (wide n = false) := by show _ = _; rw [wide, decide_eq_false h]; rfl
    go_enter Try.func33, Try.ntmps33
    go_wp2
    go_ret
    rw [E.out]
    exact ⟨rfl, rfl⟩

theorem width_cases {k : Int} (h : wide k = true) : k = 1 ∨ k = 2 ∨ k = 3 ∨ k = 4 ∨ k = 5 ∨ k = 6 ∨ k = 7 ∨ k = 8 := by
  simp only [wide, Bool.and_eq_true, decide_eq_true_eq] at h
  omega

set_option maxHeartbeats 1600000 in
theorem Fits_c (w : World) (n k : Int) (h1 : -9223372036854775808 ≤ n) (h2 : n ≤ 9223372036854775807) :
    Calls Try.prog 25 #[.int .i64 n, .int .i64 k] w fun e w' => e = .returned (.bool (fits n k)) ∧ w = w' := by
  by_cases hk : wide k = true
  · have HW : Hid (∀ W : World, Calls Try.prog 33 #[.int .i64 k] W fun e w' => e = .returned (.bool true) ∧ W = w') := fun W => (isWidth_c W k).mono fun e w' ⟨h, h'⟩ => ⟨by rw [h, hk], h'⟩
    by_cases hn : 0 ≤ n
    · have E : Hid (fits n k = decide (n / 256 ^ k.toNat = 0)) := by show _ = _; rw [fits, hk, decide_eq_true hn]; rfl
      rcases width_cases hk with rfl | rfl | rfl | rfl | rfl | rfl | rfl | rfl
      all_goals
        clear hk
        go_enter Try.func25, Try.ntmps25
        go_wp2_with (go_at_call 33; refine (HW.out _).mono ?_; rintro e w' ⟨rfl, rfl⟩)
        go_ret
        rw [E.out]
        exact ⟨rfl, rfl⟩
    · have E : Hid (fits n k = false) := by show _ = _; rw [fits, hk, decide_eq_false hn]; rfl
      clear hk
      go_enter Try.func25, Try.ntmps25
      go_wp2_with (go_at_call 33; refine (HW.out _).mono ?_; rintro e w' ⟨rfl, rfl⟩)
      go_ret
      rw [E.out]
      exact ⟨rfl, rfl⟩
  · have HW : Hid (∀ W : World, Calls Try.prog 33 #[.int .i64 k] W fun e w' => e = .returned (.bool false) ∧ W = w') := fun W => (isWidth_c W k).mono fun e w' ⟨h, h'⟩ => ⟨by rw [h]; simpa using hk, h'⟩
    have E : Hid (fits n k = false) := by show _ = _; simp only [Bool.not_eq_true] at hk; rw [fits, hk]; rfl
    clear hk
    go_enter Try.func25, Try.ntmps25
    go_wp2_with (go_at_call 33; refine (HW.out _).mono ?_; rintro e w' ⟨rfl, rfl⟩)
    go_ret
    rw [E.out]
    exact ⟨rfl, rfl⟩

set_option maxHeartbeats 1600000 in
theorem rFits_c (w : World) (n k : Int) (h1 : -9223372036854775808 ≤ n) (h2 : n ≤ 9223372036854775807) :
    Calls Try.prog 20 #[.int .i64 n, .int .i64 k] w fun e w' => e = .returned (.bool (fits n k)) ∧ w = w' := by
  by_cases hk : 1 ≤ k ∧ k ≤ 8 ∧ 0 ≤ n
  · obtain ⟨k1, k2, k3⟩ := hk
    have E : Hid (fits n k = decide (n / 256 ^ k.toNat = 0)) := by show _ = _; rw [fits, wide, decide_eq_true k1, decide_eq_true k2, decide_eq_true k3]; rfl
    obtain ⟨K, rfl⟩ : ∃ K : Nat, k = K := ⟨k.toNat, by omega⟩
    go_enter Try.func20, Try.ntmps20
    go_wp2
    go_loop [5, 0] (fun i m => ∃ j : Nat, j ≤ K ∧ i = .int .i64 j ∧ m = .int .i64 (n / 256 ^ j)) (fun i _ => K - (intOf i).toNat)
    case atStart => exact ⟨0, Nat.zero_le _, rfl, by simp⟩
    case round =>
      obtain ⟨j, hj, rfl, rfl⟩ := hrel
      have HD : Hid (n / 256 ^ (j + 1) = n / 256 ^ j / 256) := by show _ = _; rw [Int.pow_succ, Int.ediv_ediv_of_nonneg]; exact Int.le_of_lt (Int.pow_pos (by decide))
      have m0 : 0 ≤ n / 256 ^ j := Int.ediv_nonneg k3 (Int.le_of_lt (Int.pow_pos (by decide)))
      have m1 : n / 256 ^ j ≤ n := Int.ediv_le_self _ k3
      by_cases hlt : j < K
      · have hlt' : (j : Int) < (K : Int) := by omega
        generalize n / 256 ^ j = m at m0 m1 HD ⊢
        go_wp2
        refine ⟨⟨j + 1, by omega, by go_num, by rw [HD.out]⟩, ?_⟩
        simp [intOf]
        omega
      · obtain rfl : j = K := by omega
        have hlt' : ¬ (j : Int) < (j : Int) := by omega
        rw [Int.toNat_natCast] at E
        generalize n / 256 ^ j = m at m0 m1 HD E ⊢
        go_wp2
        go_ret
        rw [E.out]
        exact ⟨rfl, rfl⟩
  · have E : Hid (fits n k = false) := by
      show _ = _
      cases hb : fits n k
      · rfl
      · simp only [fits, wide, Bool.and_eq_true, decide_eq_true_eq] at hb
        exact absurd ⟨hb.1.1, hb.1.2, hb.2.1⟩ hk
    by_cases a1 : 1 ≤ k
    · by_cases a2 : k ≤ 8
      · have a3 : ¬ 0 ≤ n := fun h => hk ⟨a1, a2, h⟩
        clear hk
        go_enter Try.func20, Try.ntmps20
        go_wp2
        go_ret
        rw [E.out]
        exact ⟨rfl, rfl⟩
      · clear hk
        go_enter Try.func20, Try.ntmps20
        go_wp2
        go_ret
        rw [E.out]
        exact ⟨rfl, rfl⟩
    · clear hk
      go_enter Try.func20, Try.ntmps20
      go_wp2
      go_ret
      rw [E.out]
      exact ⟨rfl, rfl⟩
end Go.Proofs.Ytmkpcdcdhheokaa
