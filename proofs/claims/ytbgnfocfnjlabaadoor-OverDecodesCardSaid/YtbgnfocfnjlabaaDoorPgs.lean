/-
  Kinds of pages, what a generation's pages bear: the small functions of page, and known of the document.
-/
import Derived.Test.YtbgnfocfnjlabaaDoorGa
set_option linter.unusedVariables false
namespace Go.Proofs.YtbgnfocfnjlabaaDoor
open Go.RowKit

def kindOk (k : Int) : Bool := decide (k = 76 ∨ k = 66 ∨ k = 79 ∨ k = 70)
/-- How many bytes stand between Count and Next. -/
def gap (g : Int) : Int := if g = 1 then 0 else 4
section
variable (w : World) (k g : Int)
theorem isKind_c : Calls Tryd.prog 46 #[.int .i64 k] w fun e w' => e = .returned (.bool (kindOk k)) ∧ w = w' := by
  unfold kindOk
  by_cases h1 : k = 76
  · subst h1
    go_enter Tryd.func46, Tryd.ntmps46
    go_wp2
    go_ret
    exact ⟨rfl, rfl⟩
  have b1 : (k == 76) = false := by rw [beq_eq_false_iff_ne]; exact h1
  by_cases h2 : k = 66
  · subst h2
    go_enter Tryd.func46, Tryd.ntmps46
    go_wp2
    go_ret
    exact ⟨rfl, rfl⟩
  have b2 : (k == 66) = false := by rw [beq_eq_false_iff_ne]; exact h2
  by_cases h3 : k = 79
  · subst h3
    go_enter Tryd.func46, Tryd.ntmps46
    go_wp2
    go_ret
    exact ⟨rfl, rfl⟩
  have b3 : (k == 79) = false := by rw [beq_eq_false_iff_ne]; exact h3
  by_cases h4 : k = 70
  · subst h4
    go_enter Tryd.func46, Tryd.ntmps46
    go_wp2
    go_ret
    exact ⟨rfl, rfl⟩
  have b4 : (k == 70) = false := by rw [beq_eq_false_iff_ne]; exact h4
  rw [decide_eq_false (by omega)]
  clear h1 h2 h3 h4
  go_enter Tryd.func46, Tryd.ntmps46
  go_wp2
  go_ret
  exact ⟨rfl, rfl⟩
theorem summed_c : Calls Tryd.prog 78 #[.int .i64 g] w fun e w' => e = .returned (.bool (decide (g ≠ 1))) ∧ w = w' := by
  by_cases h1 : g = 1
  · subst h1
    go_enter Tryd.func78, Tryd.ntmps78
    go_wp2
    go_ret
    exact ⟨rfl, rfl⟩
  have b1 : (g == 1) = false := by rw [beq_eq_false_iff_ne]; exact h1
  rw [decide_eq_true h1]
  clear h1
  go_enter Tryd.func78, Tryd.ntmps78
  go_wp2
  go_ret
  exact ⟨by simp; exact beq_eq_false_iff_ne.1 b1, rfl⟩
theorem beforeNext_c : Calls Tryd.prog 50 #[.int .i64 g] w fun e w' => e = .returned (.int .i64 (gap g)) ∧ w = w' := by
  have HS := Lib.hid (summed_c w g)
  unfold gap
  by_cases h1 : g = 1
  · subst h1
    go_enter Tryd.func50, Tryd.ntmps50
    go_wp2_with (go_at_call 78; (with_reducible refine HS.out.mono ?_); rintro e w' ⟨rfl, rfl⟩)
    go_ret
    exact ⟨rfl, rfl⟩
  rw [decide_eq_true h1] at HS
  rw [if_neg h1]
  clear h1
  go_enter Tryd.func50, Tryd.ntmps50
  go_wp2_with (go_at_call 78; (with_reducible refine HS.out.mono ?_); rintro e w' ⟨rfl, rfl⟩)
  go_ret
  exact ⟨rfl, rfl⟩
theorem rknown_c : Calls Tryd.prog 55 #[.int .i64 k, .int .i64 g] w fun e w' => e = .returned (.bool (kindOk k && gen g)) ∧ w = w' := by
  obtain ⟨b, hb⟩ : ∃ b, b = (kindOk k && gen g) := ⟨_, rfl⟩
  rw [← hb]
  have HB := Lib.hid hb
  clear hb
  go_enter Tryd.func55, Tryd.ntmps55
  go_wp2
  all_goals
    go_ret
    refine ⟨?_, rfl⟩
    rw [HB.out]
    unfold kindOk gen
    clear HB
  all_goals by_cases h1 : k = 76 <;> by_cases h2 : k = 66 <;> by_cases h3 : k = 79 <;> by_cases h4 : k = 70 <;> by_cases h5 : 1 ≤ g <;> by_cases h6 : g ≤ 3 <;> first | (simp_all; done) | omega
end
end Go.Proofs.YtbgnfocfnjlabaaDoor
