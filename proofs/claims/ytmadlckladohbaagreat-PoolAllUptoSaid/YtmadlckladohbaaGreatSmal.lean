/-
  The small calls on a run: end, mayBe, May, whole, the closures, cmp.Compare; last.
-/
import Derived.Test.YtmadlckladohbaaGreatRs
import Derived.Deep.QuietTactic
import Derived.BigQuiet
import Derived.Deep.RegionHeld3
set_option linter.unusedVariables false
namespace Go.Proofs.YtmadlckladohbaaGreat
open Go.RowKit

def may (x : R) : Bool := decide (0 ≤ x.1 ∧ 1 ≤ x.2 ∧ x.2 ≤ 32768 - x.1)
theorem may_iff (x : R) : may x = true ↔ 0 ≤ x.1 ∧ 1 ≤ x.2 ∧ x.1 + x.2 ≤ 32768 := by
  unfold may
  rw [decide_eq_true_eq]
  omega
def I64 (x : R) : Prop := -9223372036854775808 ≤ x.1 ∧ x.1 ≤ 9223372036854775807 ∧ -9223372036854775808 ≤ x.2 ∧ x.2 ≤ 9223372036854775807

set_option maxHeartbeats 800000 in
theorem end_c (w : World) (a l : Int) (h1 : -9223372036854775808 ≤ a + l) (h2 : a + l ≤ 9223372036854775807) :
    Calls Tryz.prog 52 #[.agg #[.int .i64 a, .int .i64 l]] w fun e w' => e = .returned (.int .i64 (a + l)) ∧ Only (w.heap.size ≤ ·) w w' := by
  go_enter Tryz.func52, Tryz.ntmps52
  go_wp2
  go_ret
  exact ⟨rfl, (Only.refl _ w).alloc (fun _ h => h) _⟩

set_option maxHeartbeats 800000 in
theorem mayBe_c (w : World) (a l : Int) (ha : a ≤ 9223372036854775807) :
    Calls Tryz.prog 68 #[.agg #[.int .i64 a, .int .i64 l]] w fun e w' => e = .returned (.bool (may (a, l))) ∧ Only (w.heap.size ≤ ·) w w' := by
  obtain ⟨b, hb⟩ : ∃ b, b = may (a, l) := ⟨_, rfl⟩
  have HB : Hid (b = true ↔ 0 ≤ a ∧ 1 ≤ l ∧ a + l ≤ 32768) := by rw [hb]; exact may_iff _
  rw [← hb]
  clear hb
  by_cases h1 : 0 ≤ a
  · by_cases h2 : 1 ≤ l
    · by_cases h3 : l ≤ 32768 - a
      · obtain rfl : b = true := HB.out.2 (by omega)
        go_enter Tryz.func68, Tryz.ntmps68
        go_wp2
        go_ret
        exact ⟨rfl, (Only.refl _ w).alloc (fun _ h => h) _⟩
      · obtain rfl : b = false := by rw [← Bool.not_eq_true]; intro h; have := HB.out.1 h; omega
        go_enter Tryz.func68, Tryz.ntmps68
        go_wp2
        go_ret
        exact ⟨rfl, (Only.refl _ w).alloc (fun _ h => h) _⟩
    · obtain rfl : b = false := by rw [← Bool.not_eq_true]; intro h; have := HB.out.1 h; omega
      go_enter Tryz.func68, Tryz.ntmps68
      go_wp2
      go_ret
      exact ⟨rfl, (Only.refl _ w).alloc (fun _ h => h) _⟩
  · obtain rfl : b = false := by rw [← Bool.not_eq_true]; intro h; have := HB.out.1 h; omega
    go_enter Tryz.func68, Tryz.ntmps68
    go_wp2
    go_ret
    exact ⟨rfl, (Only.refl _ w).alloc (fun _ h => h) _⟩

set_option maxHeartbeats 1600000 in
theorem May_c (w : World) (a l : Int) :
    Calls Tryz.prog 19 #[.agg #[.int .i64 a, .int .i64 l]] w fun e w' => e = .returned (.bool (may (a, l))) ∧ Only (w.heap.size ≤ ·) w w' := by
  obtain ⟨b, hb⟩ : ∃ b, b = may (a, l) := ⟨_, rfl⟩
  have HB : Hid (b = true ↔ 0 ≤ a ∧ 1 ≤ l ∧ a + l ≤ 32768) := by rw [hb]; exact may_iff _
  rw [← hb]
  clear hb
  by_cases h1 : 0 ≤ a
  · by_cases h2 : a ≤ 32768
    · by_cases h3 : 1 ≤ l
      · by_cases h4 : l ≤ 32768
        · by_cases h5 : a + l ≤ 32768
          · obtain rfl : b = true := HB.out.2 (by omega)
            go_enter Tryz.func19, Tryz.ntmps19
            go_wp2
            go_ret
            exact ⟨rfl, (Only.refl _ w).alloc (fun _ h => h) _⟩
          · obtain rfl : b = false := by rw [← Bool.not_eq_true]; intro h; have := HB.out.1 h; omega
            go_enter Tryz.func19, Tryz.ntmps19
            go_wp2
            go_ret
            exact ⟨rfl, (Only.refl _ w).alloc (fun _ h => h) _⟩
        · obtain rfl : b = false := by rw [← Bool.not_eq_true]; intro h; have := HB.out.1 h; omega
          go_enter Tryz.func19, Tryz.ntmps19
          go_wp2
          go_ret
          exact ⟨rfl, (Only.refl _ w).alloc (fun _ h => h) _⟩
      · obtain rfl : b = false := by rw [← Bool.not_eq_true]; intro h; have := HB.out.1 h; omega
        go_enter Tryz.func19, Tryz.ntmps19
        go_wp2
        go_ret
        exact ⟨rfl, (Only.refl _ w).alloc (fun _ h => h) _⟩
    · obtain rfl : b = false := by rw [← Bool.not_eq_true]; intro h; have := HB.out.1 h; omega
      go_enter Tryz.func19, Tryz.ntmps19
      go_wp2
      go_ret
      exact ⟨rfl, (Only.refl _ w).alloc (fun _ h => h) _⟩
  · obtain rfl : b = false := by rw [← Bool.not_eq_true]; intro h; have := HB.out.1 h; omega
    go_enter Tryz.func19, Tryz.ntmps19
    go_wp2
    go_ret
    exact ⟨rfl, (Only.refl _ w).alloc (fun _ h => h) _⟩

/-- The last run of a row, or noughts. -/
def lastOf (l : List R) : R := l.getLast?.getD (0, 0)
theorem lastOf_get {l : List R} {x : R} {k : Nat} (hk : k + 1 = l.length) (h : l[k]? = some x) : lastOf l = x := by
  unfold lastOf
  rw [List.getLast?_eq_getElem?, ← hk]
  simp [h]


set_option maxHeartbeats 1600000 in
theorem last_c (w : World) (A : Option Addr) (n c : Nat) (l : List R) (h : Rs w A l) (hl : l.length = n) (hn : n ≤ 9223372036854775807) :
    Calls Tryz.prog 51 #[.slice A n c] w fun e w' => e = .returned (.tuple #[.agg #[.int .i64 (lastOf l).1, .int .i64 (lastOf l).2], .bool (decide (0 < n))]) ∧ Only (w.heap.size ≤ ·) w w' := by
  rcases Nat.eq_zero_or_pos n with h0 | h0
  · subst h0
    obtain rfl : l = [] := List.eq_nil_of_length_eq_zero hl
    go_enter Tryz.func51, Tryz.ntmps51
    go_wp2
    exact bodyPost_ret (v := .tuple #[.agg #[.int .i64 0, .int .i64 0], .bool false]) (by simp [results, Tryz.results51, go_sem]) rfl ⟨rfl, ((((Only.refl _ w).alloc (fun _ h => h) _)).alloc (fun _ h => h) _)⟩
  · obtain ⟨k, rfl⟩ : ∃ k, n = k + 1 := ⟨n - 1, by omega⟩
    obtain ⟨b, off, x, rfl, hb, hx, hc1, hc2⟩ := h.at_ (k := k) (by omega)
    have E := Lib.hid (lastOf_get hl.symm hx)
    obtain ⟨x1, x2⟩ := x
    have q1 : (w.alloc (.cells #[.int .i64 0, .int .i64 0] 54)).cell? ⟨b, off + k * 2, none⟩ = some (.int .i64 x1) := (World.cell?_alloc_lt w _ _ hb).trans hc1
    have q2 : (w.alloc (.cells #[.int .i64 0, .int .i64 0] 54)).cell? ⟨b, off + k * 2 + 1, none⟩ = some (.int .i64 x2) := (World.cell?_alloc_lt w _ _ hb).trans hc2
    clear h hx hl
    go_enter Tryz.func51, Tryz.ntmps51
    go_wp2
    refine bodyPost_ret (v := .tuple #[.agg #[.int .i64 x1, .int .i64 x2], .bool true]) (by simp [results, Tryz.results51, go_sem]) rfl ⟨by rw [E.out], (Only.refl _ w).alloc (fun _ h => h) _⟩
end Go.Proofs.YtmadlckladohbaaGreat
