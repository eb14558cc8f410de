/-
  ItemTraits: the walk.
-/
import Derived.Test.YtkhimppgpdaiaaaDoorAliv
set_option linter.unusedVariables false
namespace Go.Proofs.YtkhimppgpdaiaaaDoor
open Go.RowKit

set_option maxRecDepth 100000 in
set_option maxHeartbeats 6400000 in
theorem traits_walk (w : World) (g : Int) (hg : Gens w) : Calls Tryd.prog 3 #[.int .i64 g] w (Told w (.bool true)) := by
  have HG := Lib.hid hg
  have HO : Hid (Only (w.heap.size ≤ ·) w w) := Only.refl _ w
  obtain ⟨b, hb⟩ : ∃ b, gen g = b := ⟨_, rfl⟩
  have HB := Lib.hid hb
  have HN : Hid (∀ W : World, Calls Tryd.prog 10 #[.int .i64 g] W fun e w' => e = .returned (.bool b) ∧ W = w') := fun W => by rw [← hb]; exact Gen_c W g
  obtain ⟨k1, hk1⟩ : ∃ k, k = tr g 16 20 24 := ⟨_, rfl⟩
  have Hk1 : Hid (∀ W, Gens W → Calls Tryd.prog 11 #[.int .i64 g] W (Told W (.int .i64 k1))) := fun W hW => by rw [hk1]; exact MaxKey_c W g hW
  have Rk1 : Hid (∀ W : World, Calls Tryd.prog 12 #[.int .i64 g] W fun e w' => e = .returned (.int .i64 k1) ∧ W = w') := fun W => by rw [hk1]; exact rMaxKey_c W g
  obtain ⟨k2, hk2⟩ : ∃ k, k = tr g 400 800 1600 := ⟨_, rfl⟩
  have Hk2 : Hid (∀ W, Gens W → Calls Tryd.prog 13 #[.int .i64 g] W (Told W (.int .i64 k2))) := fun W hW => by rw [hk2]; exact MaxValue_c W g hW
  have Rk2 : Hid (∀ W : World, Calls Tryd.prog 14 #[.int .i64 g] W fun e w' => e = .returned (.int .i64 k2) ∧ W = w') := fun W => by rw [hk2]; exact rMaxValue_c W g
  obtain ⟨k3, hk3⟩ : ∃ k, k = tr g 4 8 8 := ⟨_, rfl⟩
  have Hk3 : Hid (∀ W, Gens W → Calls Tryd.prog 15 #[.int .i64 g] W (Told W (.int .i64 k3))) := fun W hW => by rw [hk3]; exact IdWidth_c W g hW
  have Rk3 : Hid (∀ W : World, Calls Tryd.prog 16 #[.int .i64 g] W fun e w' => e = .returned (.int .i64 k3) ∧ W = w') := fun W => by rw [hk3]; exact rIdWidth_c W g
  obtain ⟨k4, hk4⟩ : ∃ k, k = tr g 8 16 16 := ⟨_, rfl⟩
  have Hk4 : Hid (∀ W, Gens W → Calls Tryd.prog 17 #[.int .i64 g] W (Told W (.int .i64 k4))) := fun W hW => by rw [hk4]; exact Head_c W g hW
  have Rk4 : Hid (∀ W : World, Calls Tryd.prog 18 #[.int .i64 g] W fun e w' => e = .returned (.int .i64 k4) ∧ W = w') := fun W => by rw [hk4]; exact rHead_c W g
  obtain ⟨k5, hk5⟩ : ∃ k, k = tr g 248 240 240 := ⟨_, rfl⟩
  have Hk5 : Hid (∀ W, Gens W → Calls Tryd.prog 19 #[.int .i64 g] W (Told W (.int .i64 k5))) := fun W hW => by rw [hk5]; exact Cap_c W g hW
  have Rk5 : Hid (∀ W : World, Calls Tryd.prog 20 #[.int .i64 g] W fun e w' => e = .returned (.int .i64 k5) ∧ W = w') := fun W => by rw [hk5]; exact rCap_c W g
  clear hg hb hk1 hk2 hk3 hk4 hk5
  by_cases h : g = 1 ∨ g = 2 ∨ g = 3
  · obtain rfl : true = b := by rw [← HB.out]; exact ((gen_iff g).2 h).symm
    clear HB
    rcases h with rfl | rfl | rfl
    all_goals
      go_enter Tryd.func3, Tryd.ntmps3
      go_wp2_with (first
        | (go_at_call 9; (with_reducible refine (alive_c _ HG.out).mono ?_); rintro e w1 ⟨rfl, ho⟩; (replace HG := Lib.hid (HG.out.later ho)); (replace HO := Lib.hid (on_new HO.out ho)); clear ho)
        | (go_at_call 10; (with_reducible refine (HN.out _).mono ?_); rintro e w' ⟨rfl, rfl⟩)
        | (go_at_call 11; (with_reducible refine (Hk1.out _ HG.out).mono ?_); rintro e wk1 ⟨rfl, ho⟩; (replace HG := Lib.hid (HG.out.later ho)); (replace HO := Lib.hid (on_new HO.out ho)); clear ho)
        | (go_at_call 12; (with_reducible refine (Rk1.out _).mono ?_); rintro e w' ⟨rfl, rfl⟩)
        | (go_at_call 13; (with_reducible refine (Hk2.out _ HG.out).mono ?_); rintro e wk2 ⟨rfl, ho⟩; (replace HG := Lib.hid (HG.out.later ho)); (replace HO := Lib.hid (on_new HO.out ho)); clear ho)
        | (go_at_call 14; (with_reducible refine (Rk2.out _).mono ?_); rintro e w' ⟨rfl, rfl⟩)
        | (go_at_call 15; (with_reducible refine (Hk3.out _ HG.out).mono ?_); rintro e wk3 ⟨rfl, ho⟩; (replace HG := Lib.hid (HG.out.later ho)); (replace HO := Lib.hid (on_new HO.out ho)); clear ho)
        | (go_at_call 16; (with_reducible refine (Rk3.out _).mono ?_); rintro e w' ⟨rfl, rfl⟩)
        | (go_at_call 17; (with_reducible refine (Hk4.out _ HG.out).mono ?_); rintro e wk4 ⟨rfl, ho⟩; (replace HG := Lib.hid (HG.out.later ho)); (replace HO := Lib.hid (on_new HO.out ho)); clear ho)
        | (go_at_call 18; (with_reducible refine (Rk4.out _).mono ?_); rintro e w' ⟨rfl, rfl⟩)
        | (go_at_call 19; (with_reducible refine (Hk5.out _ HG.out).mono ?_); rintro e wk5 ⟨rfl, ho⟩; (replace HG := Lib.hid (HG.out.later ho)); (replace HO := Lib.hid (on_new HO.out ho)); clear ho)
        | (go_at_call 20; (with_reducible refine (Rk5.out _).mono ?_); rintro e w' ⟨rfl, rfl⟩))
      go_ret
      exact ⟨rfl, HO.out⟩
  · obtain rfl : false = b := by
      rw [← HB.out]
      exact (Bool.eq_false_iff.2 fun hh => h ((gen_iff g).1 hh)).symm
    have z1 : (g == 1) = false := by simpa using fun e => h (.inl e)
    have z2 : (g == 2) = false := by simpa using fun e => h (.inr (.inl e))
    have z3 : (g == 3) = false := by simpa using fun e => h (.inr (.inr e))
    clear HB h
    go_enter Tryd.func3, Tryd.ntmps3
    go_wp2_with (first
      | (go_at_call 9; (with_reducible refine (alive_c _ HG.out).mono ?_); rintro e w1 ⟨rfl, ho⟩; (replace HG := Lib.hid (HG.out.later ho)); (replace HO := Lib.hid (on_new HO.out ho)); clear ho)
      | (go_at_call 10; (with_reducible refine (HN.out _).mono ?_); rintro e w' ⟨rfl, rfl⟩)
      | (go_at_call 11; (with_reducible refine (Hk1.out _ HG.out).mono ?_); rintro e wk1 ⟨rfl, ho⟩; (replace HG := Lib.hid (HG.out.later ho)); (replace HO := Lib.hid (on_new HO.out ho)); clear ho)
      | (go_at_call 12; (with_reducible refine (Rk1.out _).mono ?_); rintro e w' ⟨rfl, rfl⟩)
      | (go_at_call 13; (with_reducible refine (Hk2.out _ HG.out).mono ?_); rintro e wk2 ⟨rfl, ho⟩; (replace HG := Lib.hid (HG.out.later ho)); (replace HO := Lib.hid (on_new HO.out ho)); clear ho)
      | (go_at_call 14; (with_reducible refine (Rk2.out _).mono ?_); rintro e w' ⟨rfl, rfl⟩)
      | (go_at_call 15; (with_reducible refine (Hk3.out _ HG.out).mono ?_); rintro e wk3 ⟨rfl, ho⟩; (replace HG := Lib.hid (HG.out.later ho)); (replace HO := Lib.hid (on_new HO.out ho)); clear ho)
      | (go_at_call 16; (with_reducible refine (Rk3.out _).mono ?_); rintro e w' ⟨rfl, rfl⟩)
      | (go_at_call 17; (with_reducible refine (Hk4.out _ HG.out).mono ?_); rintro e wk4 ⟨rfl, ho⟩; (replace HG := Lib.hid (HG.out.later ho)); (replace HO := Lib.hid (on_new HO.out ho)); clear ho)
      | (go_at_call 18; (with_reducible refine (Rk4.out _).mono ?_); rintro e w' ⟨rfl, rfl⟩)
      | (go_at_call 19; (with_reducible refine (Hk5.out _ HG.out).mono ?_); rintro e wk5 ⟨rfl, ho⟩; (replace HG := Lib.hid (HG.out.later ho)); (replace HO := Lib.hid (on_new HO.out ho)); clear ho)
      | (go_at_call 20; (with_reducible refine (Rk5.out _).mono ?_); rintro e w' ⟨rfl, rfl⟩))
    go_ret
    exact ⟨rfl, HO.out⟩
end Go.Proofs.YtkhimppgpdaiaaaDoor
