/-
  Kinds of pages, what a generation's pages bear: the small functions of page, and known of the document.
-/
import Derived.Test.YtoghojgajpfkkaaDoorGa
set_option linter.unusedVariables false
namespace Go.Proofs.YtoghojgajpfkkaaDoor
open Go.RowKit

def kindOk (k : Int) : Bool := decide (k = 76 ∨ k = 66 ∨ k = 79 ∨ k = 70)
/-- How many bytes stand between Count and Next. -/
def gap (g : Int) : Int := if g = 1 then 0 else 4
section
variable (w : World) (k g : Int)
theorem isKind_c : Calls Tryd.prog 84 #[.int .i64 k] w fun e w' => e = .returned (.bool (kindOk k)) ∧ w = w' := by
  unfold kindOk
  by_cases h1 : k = 76
  · subst h1
    go_enter Tryd.func84, Tryd.ntmps84
    go_wp2
    go_ret
    exact ⟨rfl, rfl⟩
  have b1 : (k == 76) = false := by rw [beq_eq_false_iff_ne]; exact h1
  by_cases h2 : k = 66
  · subst h2
    go_enter Tryd.func84, Tryd.ntmps84
    go_wp2
    go_ret
    exact ⟨rfl, rfl⟩
  have b2 : (k == 66) = false := by rw [beq_eq_false_iff_ne]; exact h2
  by_cases h3 : k = 79
  · subst h3
    go_enter Tryd.func84, Tryd.ntmps84
    go_wp2
    go_ret
    exact ⟨rfl, rfl⟩
  have b3 : (k == 79) = false := by rw [beq_eq_false_iff_ne]; exact h3
  by_cases h4 : k = 70
  · subst h4
    go_enter Tryd.func84, Tryd.ntmps84
    go_wp2
    go_ret
    exact ⟨rfl, rfl⟩
  have b4 : (k == 70) = false := by rw [beq_eq_false_iff_ne]; exact h4
  rw [decide_eq_false (by omega)]
  clear h1 h2 h3 h4
  go_enter Tryd.func84, Tryd.ntmps84
  go_wp2
  go_ret
  exact ⟨rfl, rfl⟩
theorem summed_c : Calls Tryd.prog 120 #[.int .i64 g] w fun e w' => e = .returned (.bool (decide (g ≠ 1))) ∧ w = w' := by
  by_cases h1 : g = 1
  · subst h1
    go_enter Tryd.func120, Tryd.ntmps120
    go_wp2
    go_ret
    exact ⟨rfl, rfl⟩
  have b1 : (g == 1) = false := by rw [beq_eq_false_iff_ne]; exact h1
  rw [decide_eq_true h1]
  clear h1
  go_enter Tryd.func120, Tryd.ntmps120
  go_wp2
  go_ret
  exact ⟨by simp; exact beq_eq_false_iff_ne.1 b1, rfl⟩
theorem beforeNext_c : Calls Tryd.prog 87 #[.int .i64 g] w fun e w' => e = .returned (.int .i64 (gap g)) ∧ w = w' := by
  have HS := Lib.hid (summed_c w g)
  unfold gap
  by_cases h1 : g = 1
  · subst h1
    go_enter Tryd.func87, Tryd.ntmps87
    go_wp2_with (go_at_call 120; (with_reducible refine HS.out.mono ?_); rintro e w' ⟨rfl, rfl⟩)
    go_ret
    exact ⟨rfl, rfl⟩
  rw [decide_eq_true h1] at HS
  rw [if_neg h1]
  clear h1
  go_enter Tryd.func87, Tryd.ntmps87
  go_wp2_with (go_at_call 120; (with_reducible refine HS.out.mono ?_); rintro e w' ⟨rfl, rfl⟩)
  go_ret
  exact ⟨rfl, rfl⟩
theorem rknown_c : Calls Tryd.prog 92 #[.int .i64 k, .int .i64 g] w fun e w' => e = .returned (.bool (kindOk k && gen g)) ∧ w = w' := by
  obtain ⟨b, hb⟩ : ∃ b, b = (kindOk k && gen g) := ⟨_, rfl⟩
  rw [← hb]
  have HB := Lib.hid hb
  clear hb
  go_enter Tryd.func92, Tryd.ntmps92
  go_wp2
  all_goals
    go_ret
    refine ⟨?_, rfl⟩
    rw [HB.out]
    unfold kindOk gen
    clear HB
  all_goals by_cases h1 : k = 76 <;> by_cases h2 : k = 66 <;> by_cases h3 : k = 79 <;> by_cases h4 : k = 70 <;> by_cases h5 : 1 ≤ g <;> by_cases h6 : g ≤ 3 <;> first | (simp_all; done) | omega
end
end Go.Proofs.YtoghojgajpfkkaaDoor
