/-
  The small functions of over: Single, pieces, isId, Many.
-/
import Derived.Test.YtbgnfocfnjlabaaDoorGa
set_option linter.unusedVariables false
namespace Go.Proofs.YtbgnfocfnjlabaaDoor
open Go.RowKit

/-- Whether each page of a value may stand anywhere. -/
def sgl (g : Int) : Bool := decide (g = 1 ∨ g = 2)
def isId (k : Int) : Bool := decide (2 ≤ k ∧ k < 16384)
/-- How many pages a value of n bytes has. -/
def manyP (g n : Int) : Int := if n ≤ 32 ∨ tr g 400 800 1600 < n then 0 else if g = 3 then (n + 271) / 256 else (n + tr g 248 240 240 - 1) / tr g 248 240 240
section
variable (w : World) (g n m k : Int)
theorem OSingle_c : Calls Tryd.prog 9 #[.int .i64 g] w fun e w' => e = .returned (.bool (sgl g)) ∧ w = w' := by
  unfold sgl
  by_cases h1 : g = 1
  · subst h1
    go_enter Tryd.func9, Tryd.ntmps9
    go_wp2
    go_ret
    exact ⟨rfl, rfl⟩
  have b1 : (g == 1) = false := by rw [beq_eq_false_iff_ne]; exact h1
  by_cases h2 : g = 2
  · subst h2
    go_enter Tryd.func9, Tryd.ntmps9
    go_wp2
    go_ret
    exact ⟨rfl, rfl⟩
  have b2 : (g == 2) = false := by rw [beq_eq_false_iff_ne]; exact h2
  rw [decide_eq_false (by omega)]
  clear h1 h2
  go_enter Tryd.func9, Tryd.ntmps9
  go_wp2
  go_ret
  exact ⟨rfl, rfl⟩
theorem OisId_c : Calls Tryd.prog 61 #[.int .i64 k] w fun e w' => e = .returned (.bool (isId k)) ∧ w = w' := by
  unfold isId
  by_cases h1 : 2 ≤ k
  · have d1 : decide (2 ≤ k) = true := decide_eq_true h1
    by_cases h2 : k < 16384
    all_goals
      go_enter Tryd.func61, Tryd.ntmps61
      go_wp2
      go_ret
      exact ⟨by simp [h1, h2], rfl⟩
  · have d1 : decide (2 ≤ k) = false := decide_eq_false h1
    go_enter Tryd.func61, Tryd.ntmps61
    go_wp2
    go_ret
    exact ⟨by simp [], rfl⟩
theorem Opieces_c (hn : 0 ≤ n) (hn2 : n ≤ 1000000) (hm : 1 ≤ m) (hm2 : m ≤ 1000000) : Calls Tryd.prog 20 #[.int .i64 n, .int .i64 m] w fun e w' => e = .returned (.int .i64 ((n + m - 1) / m)) ∧ w = w' := by
  have h0 : ¬ m = 0 := by omega
  go_enter Tryd.func20, Tryd.ntmps20
  go_wp2
  go_ret
  exact ⟨rfl, rfl⟩
end
theorem manyP_no {g n : Int} (h : n ≤ 32 ∨ tr g 400 800 1600 < n) : manyP g n = 0 := if_pos h
theorem manyP_gen {g n : Int} (h : ¬ (n ≤ 32 ∨ tr g 400 800 1600 < n)) : g = 1 ∨ g = 2 ∨ g = 3 := by
  by_cases hg : gen g = true
  · exact (gen_iff g).1 hg
  · rw [tr_no (by simpa using hg)] at h
    omega
theorem manyP_of {g n : Int} (h : ¬ (n ≤ 32 ∨ tr g 400 800 1600 < n)) : manyP g n = if g = 3 then (16 + n + 256 - 1) / 256 else (n + tr g 248 240 240 - 1) / tr g 248 240 240 := by
  unfold manyP
  rw [if_neg h]
  congr 2
  omega
set_option maxHeartbeats 1600000 in
theorem OMany_c (w : World) (g n : Int) (hG : Gens w) : Calls Tryd.prog 7 #[.int .i64 g, .int .i64 n] w (Told w (.int .i64 (manyP g n))) := by
  have HG := Lib.hid hG
  clear hG
  by_cases h1 : n ≤ 32
  · have HE := Lib.hid (manyP_no (g := g) (.inl h1))
    have d1 : decide (n ≤ 32) = true := decide_eq_true h1
    go_enter Tryd.func7, Tryd.ntmps7
    go_wp2
    go_ret
    exact ⟨by rw [HE.out]; rfl, Only.refl _ _⟩
  have d1 : decide (n ≤ 32) = false := decide_eq_false h1
  have HM : Hid (∀ W, Gens W → Calls Tryd.prog 19 #[.int .i64 g] W (Told W (.int .i64 (tr g 400 800 1600)))) := fun W hW => MaxValue_c W g hW
  by_cases h2 : tr g 400 800 1600 < n
  · have HE := Lib.hid (manyP_no (g := g) (.inr h2))
    obtain ⟨m, hm⟩ : ∃ m, m = tr g 400 800 1600 := ⟨_, rfl⟩
    rw [← hm] at HM h2
    clear hm
    go_enter Tryd.func7, Tryd.ntmps7
    go_wp2_with (go_at_call 19; refine (HM.out _ HG.out).mono ?_; rintro e w1 ⟨rfl, ho⟩; have HO := Lib.hid ho; clear ho)
    go_ret
    exact ⟨by rw [HE.out]; rfl, HO.out⟩
  have hgs := manyP_gen (g := g) (n := n) (by omega)
  have HS : Hid (∀ W, Calls Tryd.prog 9 #[.int .i64 g] W fun e w' => e = .returned (.bool (sgl g)) ∧ W = w') := fun W => OSingle_c W g
  have HC : Hid (∀ W, Gens W → Calls Tryd.prog 21 #[.int .i64 g] W (Told W (.int .i64 (tr g 248 240 240)))) := fun W hW => Cap_c W g hW
  have HH : Hid (∀ W, Gens W → Calls Tryd.prog 22 #[.int .i64 g] W (Told W (.int .i64 (tr g 8 16 16)))) := fun W hW => Head_c W g hW
  have HP : Hid (∀ (W : World) (a b : Int), 0 ≤ a → a ≤ 1000000 → 1 ≤ b → b ≤ 1000000 → Calls Tryd.prog 20 #[.int .i64 a, .int .i64 b] W fun e w' => e = .returned (.int .i64 ((a + b - 1) / b)) ∧ W = w') := fun W a b h1 h2 h3 h4 => Opieces_c W a b h1 h2 h3 h4
  have he := manyP_of (g := g) (n := n) (by omega)
  rcases hgs with rfl | rfl | rfl
  all_goals
    simp only [tr, reduceIte, Int.reduceEq] at h2 HM HC HH he
    have HE := Lib.hid he
    clear he
    go_enter Tryd.func7, Tryd.ntmps7
    go_wp2_with (first | (go_at_call 19; refine (HM.out _ HG.out).mono ?_; rintro e w1 ⟨rfl, ho⟩; have HO := Lib.hid ho; clear ho) | (go_at_call 9; refine (HS.out _).mono ?_; rintro e w2 ⟨rfl, rfl⟩; simp only [sgl, Int.reduceEq, or_false, or_true, decide_true, decide_false]) | (go_at_call 21; refine (HC.out _ (HG.out.later HO.out)).mono ?_; rintro e w3 ⟨rfl, ho3⟩; have HO3 := Lib.hid (on_new HO.out ho3); clear ho3) | (go_at_call 22; refine (HH.out _ (HG.out.later HO.out)).mono ?_; rintro e w3 ⟨rfl, ho3⟩; have HO3 := Lib.hid (on_new HO.out ho3); clear ho3) | (go_at_call 20; refine (HP.out _ _ _ (by omega) (by omega) (by omega) (by omega)).mono ?_; rintro e w4 ⟨rfl, rfl⟩))
    go_ret
    exact ⟨by rw [HE.out]; rfl, HO3.out⟩
theorem manyP_le (g : Int) (n : Nat) : manyP g n ≤ 100000 := by
  unfold manyP
  split
  · omega
  · rename_i h
    rcases manyP_gen h with rfl | rfl | rfl <;> simp only [tr, reduceIte, Int.reduceEq] at h ⊢ <;> omega
/-- A chain's pages are as many as its pieces. -/
theorem manyP_chain {g : Int} {m n : Nat} (hg : g = 1 ∨ g = 2) (hm : (m : Int) = tr g 248 240 240) (h : manyP g n ≠ 0) : 32 < n ∧ n ≤ 800 ∧ manyP g n = ((n + m - 1) / m : Nat) ∧ 1 ≤ (n + m - 1) / m := by
  have h1 : ¬ ((n : Int) ≤ 32 ∨ tr g 400 800 1600 < n) := fun h' => h (manyP_no h')
  have h2 := manyP_of h1
  rcases hg with rfl | rfl
  · have hm' : m = 248 := by simp only [tr, reduceIte, Int.reduceEq] at hm; omega
    simp only [tr, reduceIte, Int.reduceEq] at h1 h2
    subst hm'
    exact ⟨by omega, by omega, by rw [h2]; omega, by omega⟩
  · have hm' : m = 240 := by simp only [tr, reduceIte, Int.reduceEq] at hm; omega
    simp only [tr, reduceIte, Int.reduceEq] at h1 h2
    subst hm'
    exact ⟨by omega, by omega, by rw [h2]; omega, by omega⟩
end Go.Proofs.YtbgnfocfnjlabaaDoor
