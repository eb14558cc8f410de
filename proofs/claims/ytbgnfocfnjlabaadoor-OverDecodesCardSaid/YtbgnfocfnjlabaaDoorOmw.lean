/-
  OverMany: the document's Many (a loop that counts), and the walk.
-/
import Derived.Test.YtbgnfocfnjlabaaDoorOal
set_option linter.unusedVariables false
namespace Go.Proofs.YtbgnfocfnjlabaaDoor
open Go.RowKit

set_option maxRecDepth 100000 in
set_option maxHeartbeats 3200000 in
theorem rMany_c (w : World) (g n : Int) : Calls Tryd.prog 11 #[.int .i64 g, .int .i64 n] w fun e w' => e = .returned (.int .i64 (manyP g n)) ∧ w = w' := by
  have HM : Hid (∀ W, Calls Tryd.prog 26 #[.int .i64 g] W fun e w' => e = .returned (.int .i64 (tr g 400 800 1600)) ∧ W = w') := Lib.hid fun W => rMaxValue_c W g
  have HC : Hid (∀ W, Calls Tryd.prog 10 #[.int .i64 g] W fun e w' => e = .returned (.int .i64 (tr g 248 240 240)) ∧ W = w') := Lib.hid fun W => rCap_c W g
  by_cases hm : n ≤ 32 ∨ tr g 400 800 1600 < n
  · have HE := Lib.hid (manyP_no hm)
    obtain ⟨m, hm'⟩ : ∃ m, m = tr g 400 800 1600 := ⟨_, rfl⟩
    rw [← hm'] at HM hm
    clear hm' HC
    by_cases a1 : g < 1
    · go_enter Tryd.func11, Tryd.ntmps11
      go_wp2_with (go_at_call 26; refine (HM.out _).mono ?_; rintro e w1 ⟨rfl, rfl⟩)
      go_ret
      exact ⟨by rw [HE.out]; rfl, rfl⟩
    by_cases a2 : 3 < g
    · go_enter Tryd.func11, Tryd.ntmps11
      go_wp2_with (go_at_call 26; refine (HM.out _).mono ?_; rintro e w1 ⟨rfl, rfl⟩)
      go_ret
      exact ⟨by rw [HE.out]; rfl, rfl⟩
    by_cases a3 : n < 33
    · go_enter Tryd.func11, Tryd.ntmps11
      go_wp2_with (go_at_call 26; refine (HM.out _).mono ?_; rintro e w1 ⟨rfl, rfl⟩)
      go_ret
      exact ⟨by rw [HE.out]; rfl, rfl⟩
    have a4 : m < n := by omega
    clear hm
    go_enter Tryd.func11, Tryd.ntmps11
    go_wp2_with (go_at_call 26; refine (HM.out _).mono ?_; rintro e w1 ⟨rfl, rfl⟩)
    go_ret
    exact ⟨by rw [HE.out]; rfl, rfl⟩
  have hgs := manyP_gen hm
  have he := manyP_of hm
  obtain ⟨k, rfl⟩ : ∃ k : Nat, n = (k : Int) := ⟨n.toNat, by omega⟩
  rcases hgs with rfl | rfl | rfl
  · simp only [tr, reduceIte, Int.reduceEq] at hm HM HC he
    have b1 : ¬ (k : Int) < 33 := by omega
    have b2 : ¬ (400 : Int) < (k : Int) := by omega
    have HE := Lib.hid he
    clear he
    go_enter Tryd.func11, Tryd.ntmps11
    go_wp2_with (go_at_call 26; refine (HM.out _).mono ?_; rintro e w1 ⟨rfl, rfl⟩)
    go_loopw [5, 6] (fun nv lv wr => wr = w ∧ ∃ t : Nat, nv = .int .i64 t ∧ lv = .int .i64 ((k : Int) + 0 - t * 248) ∧ Hid (t = 0 ∨ ((t : Int) - 1) * 248 < (k : Int) + 0)) (fun _ lv _ => (intOf lv).toNat)
    case atStart => exact ⟨rfl, 0, rfl, by simp, Lib.hid (.inl rfl)⟩
    case round =>
      obtain ⟨rfl, t, rfl, rfl, HR⟩ := hrel
      by_cases hlt : 0 < (k : Int) + 0 - t * 248
      · have ht := HR.out
        have hl : t ≤ 1000 := by omega
        have HX : Hid ((t + 1 : Nat) = 0 ∨ (((t + 1 : Nat) : Int) - 1) * 248 < (k : Int) + 0) := Lib.hid (.inr (by omega))
        clear ht HR
        go_wp2_with (go_at_call 10; refine (HC.out _).mono ?_; rintro e w1 ⟨rfl, rfl⟩)
        go_roundw
        case rel => exact ⟨trivial, t + 1, by go_num, by congr 1; push_cast; omega, HX⟩
        case measure => (simp [intOf] <;> omega)
      · have HF : Hid (manyP 1 (k : Int) = (t : Int)) := Lib.hid (by rw [HE.out]; have := HR.out; omega)
        clear HR
        go_wp2
        go_ret
        exact ⟨by rw [HF.out]; rfl, rfl⟩
  · simp only [tr, reduceIte, Int.reduceEq] at hm HM HC he
    have b1 : ¬ (k : Int) < 33 := by omega
    have b2 : ¬ (800 : Int) < (k : Int) := by omega
    have HE := Lib.hid he
    clear he
    go_enter Tryd.func11, Tryd.ntmps11
    go_wp2_with (go_at_call 26; refine (HM.out _).mono ?_; rintro e w1 ⟨rfl, rfl⟩)
    go_loopw [5, 6] (fun nv lv wr => wr = w ∧ ∃ t : Nat, nv = .int .i64 t ∧ lv = .int .i64 ((k : Int) + 0 - t * 240) ∧ Hid (t = 0 ∨ ((t : Int) - 1) * 240 < (k : Int) + 0)) (fun _ lv _ => (intOf lv).toNat)
    case atStart => exact ⟨rfl, 0, rfl, by simp, Lib.hid (.inl rfl)⟩
    case round =>
      obtain ⟨rfl, t, rfl, rfl, HR⟩ := hrel
      by_cases hlt : 0 < (k : Int) + 0 - t * 240
      · have ht := HR.out
        have hl : t ≤ 1000 := by omega
        have HX : Hid ((t + 1 : Nat) = 0 ∨ (((t + 1 : Nat) : Int) - 1) * 240 < (k : Int) + 0) := Lib.hid (.inr (by omega))
        clear ht HR
        go_wp2_with (go_at_call 10; refine (HC.out _).mono ?_; rintro e w1 ⟨rfl, rfl⟩)
        go_roundw
        case rel => exact ⟨trivial, t + 1, by go_num, by congr 1; push_cast; omega, HX⟩
        case measure => (simp [intOf] <;> omega)
      · have HF : Hid (manyP 2 (k : Int) = (t : Int)) := Lib.hid (by rw [HE.out]; have := HR.out; omega)
        clear HR
        go_wp2
        go_ret
        exact ⟨by rw [HF.out]; rfl, rfl⟩
  · simp only [tr, reduceIte, Int.reduceEq] at hm HM HC he
    have b1 : ¬ (k : Int) < 33 := by omega
    have b2 : ¬ (1600 : Int) < (k : Int) := by omega
    have HE := Lib.hid he
    clear he
    go_enter Tryd.func11, Tryd.ntmps11
    go_wp2_with (go_at_call 26; refine (HM.out _).mono ?_; rintro e w1 ⟨rfl, rfl⟩)
    go_loopw [5, 6] (fun nv lv wr => wr = w ∧ ∃ t : Nat, nv = .int .i64 t ∧ lv = .int .i64 ((k : Int) + 16 - t * 256) ∧ Hid (t = 0 ∨ ((t : Int) - 1) * 256 < (k : Int) + 16)) (fun _ lv _ => (intOf lv).toNat)
    case atStart => exact ⟨rfl, 0, rfl, by simp, Lib.hid (.inl rfl)⟩
    case round =>
      obtain ⟨rfl, t, rfl, rfl, HR⟩ := hrel
      by_cases hlt : 0 < (k : Int) + 16 - t * 256
      · have ht := HR.out
        have hl : t ≤ 1000 := by omega
        have HX : Hid ((t + 1 : Nat) = 0 ∨ (((t + 1 : Nat) : Int) - 1) * 256 < (k : Int) + 16) := Lib.hid (.inr (by omega))
        clear ht HR
        go_wp2_with (go_at_call 10; refine (HC.out _).mono ?_; rintro e w1 ⟨rfl, rfl⟩)
        go_roundw
        case rel => exact ⟨trivial, t + 1, by go_num, by congr 1; push_cast; omega, HX⟩
        case measure => (simp [intOf] <;> omega)
      · have HF : Hid (manyP 3 (k : Int) = (t : Int)) := Lib.hid (by rw [HE.out]; have := HR.out; omega)
        clear HR
        go_wp2
        go_ret
        exact ⟨by rw [HF.out]; rfl, rfl⟩

section
variable (w : World) (hG : Gens w)
include hG
set_option maxRecDepth 100000 in
set_option maxHeartbeats 6400000 in
theorem omany_c (g n : Int) : Calls Tryd.prog 3 #[.int .i64 g, .int .i64 n] w (Told w (.bool true)) := by
  have HG := Lib.hid hG
  have HAL : Hid (∀ W, Only (w.heap.size ≤ ·) w W → Calls Tryd.prog 8 #[] W (Told W (.bool true))) := Lib.hid fun W hW => oalive_c W (hG.later hW)
  have HSG : Hid (∀ W, Calls Tryd.prog 9 #[.int .i64 g] W fun e w' => e = .returned (.bool (sgl g)) ∧ W = w') := Lib.hid fun W => OSingle_c W g
  have HCP : Hid (∀ W, Calls Tryd.prog 10 #[.int .i64 g] W fun e w' => e = .returned (.int .i64 (tr g 248 240 240)) ∧ W = w') := Lib.hid fun W => rCap_c W g
  obtain ⟨q, hq⟩ : ∃ q, q = manyP g n := ⟨_, rfl⟩
  have HMY : Hid (Calls Tryd.prog 7 #[.int .i64 g, .int .i64 n] w (Told w (.int .i64 q))) := Lib.hid (by rw [hq]; exact OMany_c w g n hG)
  have HRM : Hid (∀ W, Calls Tryd.prog 11 #[.int .i64 g, .int .i64 n] W fun e w' => e = .returned (.int .i64 q) ∧ W = w') := Lib.hid fun W => by rw [hq]; exact rMany_c W g n
  clear hG
  by_cases hg : g = 1 ∨ g = 2 ∨ g = 3
  · by_cases hm : n ≤ 32 ∨ tr g 400 800 1600 < n
    · rw [manyP_no hm] at hq
      clear hm
      subst hq
      rcases hg with rfl | rfl | rfl
      all_goals
        simp only [sgl, tr, reduceIte, Int.reduceEq, or_false, or_true, decide_true, decide_false] at HSG HCP
        go_enter Tryd.func3, Tryd.ntmps3
        go_wp2_with (first | (go_at_call 7; (with_reducible refine (HMY.out).mono ?_); rintro ee w2 ⟨rfl, ho⟩; have HO := Lib.hid ho; clear ho) | (go_at_call 8; (with_reducible refine (HAL.out _ HO.out).mono ?_); rintro ee w3 ⟨rfl, ho⟩; (replace HO := Lib.hid (on_new HO.out ho)); clear ho) | (go_at_call 9; (with_reducible refine (HSG.out _).mono ?_); rintro ee w4 ⟨rfl, rfl⟩) | (go_at_call 10; (with_reducible refine (HCP.out _).mono ?_); rintro ee w4 ⟨rfl, rfl⟩) | (go_at_call 11; (with_reducible refine (HRM.out _).mono ?_); rintro ee w4 ⟨rfl, rfl⟩))
        go_ret
        exact ⟨rfl, HO.out⟩
    · have he := manyP_of hm
      rw [he] at hq
      clear he
      rcases hg with rfl | rfl | rfl
      all_goals
        simp only [sgl, tr, reduceIte, Int.reduceEq, or_false, or_true, decide_true, decide_false] at HSG HCP hq hm
        have q0 : ¬ q = 0 := by omega
        have q7 : q ≤ 7 := by omega
        have q1 : 0 ≤ q := by omega
        have l1 : 33 ≤ n := by omega
        have l2 : n ≤ 1600 := by omega
        first | (have f1 : n ≤ q * 248 ∧ (q - 1) * 248 < n := by omega) | (have f1 : n ≤ q * 240 ∧ (q - 1) * 240 < n := by omega) | (have f1 : n + 16 ≤ q * 256 ∧ (q - 1) * 256 < n + 16 := by omega)
        obtain ⟨f1, f2⟩ := f1
        clear hq hm
        go_enter Tryd.func3, Tryd.ntmps3
        go_wp2_with (first | (go_at_call 7; (with_reducible refine (HMY.out).mono ?_); rintro ee w2 ⟨rfl, ho⟩; have HO := Lib.hid ho; clear ho) | (go_at_call 8; (with_reducible refine (HAL.out _ HO.out).mono ?_); rintro ee w3 ⟨rfl, ho⟩; (replace HO := Lib.hid (on_new HO.out ho)); clear ho) | (go_at_call 9; (with_reducible refine (HSG.out _).mono ?_); rintro ee w4 ⟨rfl, rfl⟩) | (go_at_call 10; (with_reducible refine (HCP.out _).mono ?_); rintro ee w4 ⟨rfl, rfl⟩) | (go_at_call 11; (with_reducible refine (HRM.out _).mono ?_); rintro ee w4 ⟨rfl, rfl⟩))
        go_ret
        exact ⟨rfl, HO.out⟩
  have hq0 : q = 0 := by
    rw [hq]
    refine manyP_no ?_
    rw [tr_no (by cases h : gen g with | false => rfl | true => exact absurd ((gen_iff g).1 h) hg)]
    omega
  have hs : sgl g = false := decide_eq_false (by omega)
  rw [hs] at HSG
  clear hs hq
  subst hq0
  by_cases a1 : g < 1
  · clear hg
    go_enter Tryd.func3, Tryd.ntmps3
    go_wp2_with (first | (go_at_call 7; (with_reducible refine (HMY.out).mono ?_); rintro ee w2 ⟨rfl, ho⟩; have HO := Lib.hid ho; clear ho) | (go_at_call 8; (with_reducible refine (HAL.out _ HO.out).mono ?_); rintro ee w3 ⟨rfl, ho⟩; (replace HO := Lib.hid (on_new HO.out ho)); clear ho) | (go_at_call 9; (with_reducible refine (HSG.out _).mono ?_); rintro ee w4 ⟨rfl, rfl⟩) | (go_at_call 10; (with_reducible refine (HCP.out _).mono ?_); rintro ee w4 ⟨rfl, rfl⟩) | (go_at_call 11; (with_reducible refine (HRM.out _).mono ?_); rintro ee w4 ⟨rfl, rfl⟩))
    go_ret
    exact ⟨rfl, HO.out⟩
  have a2 : 3 < g := by omega
  clear hg
  go_enter Tryd.func3, Tryd.ntmps3
  go_wp2_with (first | (go_at_call 7; (with_reducible refine (HMY.out).mono ?_); rintro ee w2 ⟨rfl, ho⟩; have HO := Lib.hid ho; clear ho) | (go_at_call 8; (with_reducible refine (HAL.out _ HO.out).mono ?_); rintro ee w3 ⟨rfl, ho⟩; (replace HO := Lib.hid (on_new HO.out ho)); clear ho) | (go_at_call 9; (with_reducible refine (HSG.out _).mono ?_); rintro ee w4 ⟨rfl, rfl⟩) | (go_at_call 10; (with_reducible refine (HCP.out _).mono ?_); rintro ee w4 ⟨rfl, rfl⟩) | (go_at_call 11; (with_reducible refine (HRM.out _).mono ?_); rintro ee w4 ⟨rfl, rfl⟩))
  go_ret
  exact ⟨rfl, HO.out⟩
end
end Go.Proofs.YtbgnfocfnjlabaaDoor
