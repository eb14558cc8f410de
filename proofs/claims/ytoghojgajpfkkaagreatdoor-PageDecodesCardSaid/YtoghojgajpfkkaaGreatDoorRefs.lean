/-
  few of the laws; Right, Why, Room of the document.
-/
import Derived.Test.YtoghojgajpfkkaaGreatDoorGa
set_option linter.unusedVariables false
namespace Go.Proofs.YtoghojgajpfkkaaGreatDoor
open Go.RowKit

section
variable (w : World) (A B : Option Addr) (n c m d : Nat) (s r g : Int)
set_option maxHeartbeats 3200000 in
theorem rRoom_c (hn : n ≤ 1000000) (hm : m ≤ 1000000) : Calls Tryz.prog 116 #[.int .i64 g, .agg #[.slice A n c, .slice B m d, .int .i64 s, .int .i64 r]] w (Told w (.int .i64 (room g n m r))) := by
  have HI : Hid (Blk (w.alloc (.cells #[.slice A n c, .slice B m d, .int .i64 s, .int .i64 r] 63)) w.heap.size 63 [.slice A n c, .slice B m d, .int .i64 s, .int .i64 r]) := Blk.new w 63 [.slice A n c, .slice B m d, .int .i64 s, .int .i64 r]
  have HO : Hid (Only (w.heap.size ≤ ·) w (w.alloc (.cells #[.slice A n c, .slice B m d, .int .i64 s, .int .i64 r] 63))) := (Only.refl _ w).alloc (fun _ h => h) _
  obtain ⟨b, hb⟩ : ∃ b, far m r = b := ⟨_, rfl⟩
  obtain ⟨i, hi⟩ : ∃ i, i = tr g 4 8 8 := ⟨_, rfl⟩
  have HB := Lib.hid hb
  have HW : Hid (∀ W, Calls Tryz.prog 53 #[.int .i64 g] W fun e w' => e = .returned (.int .i64 i) ∧ W = w') := fun W => by rw [hi]; exact rIdWidth_c W g
  have hi8 := id_range g
  rw [← hi] at hi8
  have HK : Hid (room g n m r = if gen g = true then 4 + n + (if b = true then i else (m : Int)) else 0) := by show _ = _; unfold room; rw [hb, hi]
  rw [HK.out]
  clear hb hi HK
  unfold gen
  by_cases g1 : g < 1
  · rw [decide_eq_false (by omega)]
    go_enter Tryz.func116, Tryz.ntmps116
    go_wp2
    go_ret
    exact ⟨rfl, HO.out⟩
  by_cases g3 : 3 < g
  · rw [decide_eq_false (by omega)]
    go_enter Tryz.func116, Tryz.ntmps116
    go_wp2
    go_ret
    exact ⟨rfl, HO.out⟩
  rw [decide_eq_true (by omega : 1 ≤ g ∧ g ≤ 3), if_pos rfl]
  cases b
  · have e1 : (m : Int) + n + 4 = 4 + n + m := by omega
    rw [show (4 + (n : Int) + if false = true then i else (m : Int)) = 4 + n + m from rfl]
    go_enter Tryz.func116, Tryz.ntmps116
    go_wp2_with (first
      | (go_at_call 56; (with_reducible refine (rFar_c _ _ _ _ _ _ _ _ _ _ HB.out).mono ?_); rintro e w1 ⟨rfl, ho⟩; (replace HI := Lib.hid (HI.out.later ho)); (obtain ⟨hi0, hi1, hi2, hi3⟩ := HI.out.four); (replace HO := Lib.hid (on_new HO.out ho)); clear ho)
      | (go_at_call 53; (with_reducible refine (HW.out _).mono ?_); rintro e w' ⟨rfl, rfl⟩))
    go_ret
    exact ⟨congrArg (fun x => Ending.returned (.int .i64 x)) (by omega), HO.out⟩
  · have e1 : i + n + 4 = 4 + n + i := by omega
    rw [show (4 + (n : Int) + if true = true then i else (m : Int)) = 4 + n + i from rfl]
    go_enter Tryz.func116, Tryz.ntmps116
    go_wp2_with (first
      | (go_at_call 56; (with_reducible refine (rFar_c _ _ _ _ _ _ _ _ _ _ HB.out).mono ?_); rintro e w1 ⟨rfl, ho⟩; (replace HI := Lib.hid (HI.out.later ho)); (obtain ⟨hi0, hi1, hi2, hi3⟩ := HI.out.four); (replace HO := Lib.hid (on_new HO.out ho)); clear ho)
      | (go_at_call 53; (with_reducible refine (HW.out _).mono ?_); rintro e w' ⟨rfl, rfl⟩))
    go_ret
    exact ⟨congrArg (fun x => Ending.returned (.int .i64 x)) (by omega), HO.out⟩

set_option maxRecDepth 100000 in
set_option maxHeartbeats 6400000 in
theorem rRight_c (x : Bool) (hx : okay g n m s r = x) : Calls Tryz.prog 85 #[.int .i64 g, .agg #[.slice A n c, .slice B m d, .int .i64 s, .int .i64 r]] w (Told w (.bool x)) := by
  have HI : Hid (Blk (w.alloc (.cells #[.slice A n c, .slice B m d, .int .i64 s, .int .i64 r] 63)) w.heap.size 63 [.slice A n c, .slice B m d, .int .i64 s, .int .i64 r]) := Blk.new w 63 [.slice A n c, .slice B m d, .int .i64 s, .int .i64 r]
  have HO : Hid (Only (w.heap.size ≤ ·) w (w.alloc (.cells #[.slice A n c, .slice B m d, .int .i64 s, .int .i64 r] 63))) := (Only.refl _ w).alloc (fun _ h => h) _
  obtain ⟨v, hv⟩ : ∃ v, v = tr g 400 800 1600 := ⟨_, rfl⟩
  obtain ⟨k, hk⟩ : ∃ k, k = tr g 16 20 24 := ⟨_, rfl⟩
  have HV : Hid (∀ W, Calls Tryz.prog 104 #[.int .i64 g] W fun e w' => e = .returned (.int .i64 v) ∧ w' = W) := fun W => by rw [hv]; exact (rMaxValue_c W g).mono fun e w' h => ⟨h.1, h.2.symm⟩
  have HK : Hid (∀ W, Calls Tryz.prog 86 #[.int .i64 g] W fun e w' => e = .returned (.int .i64 k) ∧ w' = W) := fun W => by rw [hk]; exact (rMaxKey_c W g).mono fun e w' h => ⟨h.1, h.2.symm⟩
  have HX : Hid (x = true ↔ (1 ≤ g ∧ g ≤ 3) ∧ (1 ≤ n ∧ (n : Int) ≤ k) ∧ long m s r ≤ v ∧ ((r = 0 ∧ s = 0) ∨ (r ≠ 0 ∧ 2 ≤ r ∧ r < 16384 ∧ 32 < s ∧ m = 0))) := by
    show _ ↔ _
    rw [← hx, hv, hk]
    unfold okay gen keyOk putOk
    simp only [Bool.and_eq_true, decide_eq_true_eq]
  clear hx hv hk
  have no : ¬ ((1 ≤ g ∧ g ≤ 3) ∧ (1 ≤ n ∧ (n : Int) ≤ k) ∧ long m s r ≤ v ∧ ((r = 0 ∧ s = 0) ∨ (r ≠ 0 ∧ 2 ≤ r ∧ r < 16384 ∧ 32 < s ∧ m = 0))) → x = false := fun h => by rw [← Bool.not_eq_true]; exact fun hh => h (HX.out.1 hh)
  have yes := HX.out.2
  by_cases g1 : g < 1
  · obtain rfl : x = false := no (by omega)
    clear no yes HX
    have z1 : decide (g < 1) = true := decide_eq_true (by omega)
    go_enter Tryz.func85, Tryz.ntmps85
    go_wp2_with (fail)
    go_quiet ((first | (go_at_call 86; exact Calls.quiet_of_same (HK.out _)) | (go_at_call 104; exact Calls.quiet_of_same (HV.out _))))
    have HI2 := Lib.hid (HI.out.drewN nq)
    have HO2 := Lib.hid (HO.out.drewN nq)
    generalize (w.alloc _).drewN nq = wq at HI2 HO2 ⊢
    obtain ⟨i0, i1, i2, i3⟩ := HI2.out.four
    go_wp2_with (fail)
    go_ret
    first | exact ⟨rfl, HO2.out⟩ | exact ⟨rfl, HO2.out.drewN _⟩
  by_cases g3 : 3 < g
  · obtain rfl : x = false := no (by omega)
    clear no yes HX
    have z1 : decide (g < 1) = false := decide_eq_false (by omega)
    have z2 : decide (3 < g) = true := decide_eq_true (by omega)
    go_enter Tryz.func85, Tryz.ntmps85
    go_wp2_with (fail)
    go_quiet ((first | (go_at_call 86; exact Calls.quiet_of_same (HK.out _)) | (go_at_call 104; exact Calls.quiet_of_same (HV.out _))))
    have HI2 := Lib.hid (HI.out.drewN nq)
    have HO2 := Lib.hid (HO.out.drewN nq)
    generalize (w.alloc _).drewN nq = wq at HI2 HO2 ⊢
    obtain ⟨i0, i1, i2, i3⟩ := HI2.out.four
    go_wp2_with (fail)
    go_ret
    first | exact ⟨rfl, HO2.out⟩ | exact ⟨rfl, HO2.out.drewN _⟩
  by_cases n1 : (n : Int) < 1
  · obtain rfl : x = false := no (by omega)
    clear no yes HX
    have z1 : decide (g < 1) = false := decide_eq_false (by omega)
    have z2 : decide (3 < g) = false := decide_eq_false (by omega)
    have z3 : decide ((n : Int) < 1) = true := decide_eq_true (by omega)
    go_enter Tryz.func85, Tryz.ntmps85
    go_wp2_with (fail)
    go_quiet ((first | (go_at_call 86; exact Calls.quiet_of_same (HK.out _)) | (go_at_call 104; exact Calls.quiet_of_same (HV.out _))))
    have HI2 := Lib.hid (HI.out.drewN nq)
    have HO2 := Lib.hid (HO.out.drewN nq)
    generalize (w.alloc _).drewN nq = wq at HI2 HO2 ⊢
    obtain ⟨i0, i1, i2, i3⟩ := HI2.out.four
    go_wp2_with (fail)
    go_ret
    first | exact ⟨rfl, HO2.out⟩ | exact ⟨rfl, HO2.out.drewN _⟩
  by_cases n2 : k < (n : Int)
  · obtain rfl : x = false := no (by omega)
    clear no yes HX
    have z1 : decide (g < 1) = false := decide_eq_false (by omega)
    have z2 : decide (3 < g) = false := decide_eq_false (by omega)
    have z3 : decide ((n : Int) < 1) = false := decide_eq_false (by omega)
    have z4 : decide (k < (n : Int)) = true := decide_eq_true (by omega)
    go_enter Tryz.func85, Tryz.ntmps85
    go_wp2_with (fail)
    go_quiet ((first | (go_at_call 86; exact Calls.quiet_of_same (HK.out _)) | (go_at_call 104; exact Calls.quiet_of_same (HV.out _))))
    have HI2 := Lib.hid (HI.out.drewN nq)
    have HO2 := Lib.hid (HO.out.drewN nq)
    generalize (w.alloc _).drewN nq = wq at HI2 HO2 ⊢
    obtain ⟨i0, i1, i2, i3⟩ := HI2.out.four
    go_wp2_with (fail)
    go_ret
    first | exact ⟨rfl, HO2.out⟩ | exact ⟨rfl, HO2.out.drewN _⟩
  by_cases hr : r = 0
  · have hl : long m s r = m := by unfold long; rw [if_pos hr]
    rw [hl] at no yes
    by_cases hs : s = 0
    · by_cases hv : (m : Int) ≤ v
      · obtain rfl : x = true := yes (by omega)
        clear no yes HX
        have z1 : decide (g < 1) = false := decide_eq_false (by omega)
        have z2 : decide (3 < g) = false := decide_eq_false (by omega)
        have z3 : decide ((n : Int) < 1) = false := decide_eq_false (by omega)
        have z4 : decide (k < (n : Int)) = false := decide_eq_false (by omega)
        have z5 : decide ((m : Int) ≤ v) = true := decide_eq_true (by omega)
        subst hr hs
        go_enter Tryz.func85, Tryz.ntmps85
        go_wp2_with (fail)
        go_quiet ((first | (go_at_call 86; exact Calls.quiet_of_same (HK.out _)) | (go_at_call 104; exact Calls.quiet_of_same (HV.out _))))
        have HI2 := Lib.hid (HI.out.drewN nq)
        have HO2 := Lib.hid (HO.out.drewN nq)
        generalize (w.alloc _).drewN nq = wq at HI2 HO2 ⊢
        obtain ⟨i0, i1, i2, i3⟩ := HI2.out.four
        go_wp2_with (fail)
        go_quiet ((first | (go_at_call 86; exact Calls.quiet_of_same (HK.out _)) | (go_at_call 104; exact Calls.quiet_of_same (HV.out _))))
        go_wp2
        go_ret
        first | exact ⟨rfl, HO2.out⟩ | exact ⟨rfl, HO2.out.drewN _⟩
      · obtain rfl : x = false := no (by omega)
        clear no yes HX
        have z1 : decide (g < 1) = false := decide_eq_false (by omega)
        have z2 : decide (3 < g) = false := decide_eq_false (by omega)
        have z3 : decide ((n : Int) < 1) = false := decide_eq_false (by omega)
        have z4 : decide (k < (n : Int)) = false := decide_eq_false (by omega)
        have z5 : decide ((m : Int) ≤ v) = false := decide_eq_false (by omega)
        subst hr hs
        go_enter Tryz.func85, Tryz.ntmps85
        go_wp2_with (fail)
        go_quiet ((first | (go_at_call 86; exact Calls.quiet_of_same (HK.out _)) | (go_at_call 104; exact Calls.quiet_of_same (HV.out _))))
        have HI2 := Lib.hid (HI.out.drewN nq)
        have HO2 := Lib.hid (HO.out.drewN nq)
        generalize (w.alloc _).drewN nq = wq at HI2 HO2 ⊢
        obtain ⟨i0, i1, i2, i3⟩ := HI2.out.four
        go_wp2_with (fail)
        go_quiet ((first | (go_at_call 86; exact Calls.quiet_of_same (HK.out _)) | (go_at_call 104; exact Calls.quiet_of_same (HV.out _))))
        go_wp2
        go_ret
        first | exact ⟨rfl, HO2.out⟩ | exact ⟨rfl, HO2.out.drewN _⟩
    · obtain rfl : x = false := no (by omega)
      clear no yes HX
      have z1 : decide (g < 1) = false := decide_eq_false (by omega)
      have z2 : decide (3 < g) = false := decide_eq_false (by omega)
      have z3 : decide ((n : Int) < 1) = false := decide_eq_false (by omega)
      have z4 : decide (k < (n : Int)) = false := decide_eq_false (by omega)
      subst hr
      have z6 : (s == 0) = false := by simpa using hs
      go_enter Tryz.func85, Tryz.ntmps85
      go_wp2_with (fail)
      go_quiet ((first | (go_at_call 86; exact Calls.quiet_of_same (HK.out _)) | (go_at_call 104; exact Calls.quiet_of_same (HV.out _))))
      have HI2 := Lib.hid (HI.out.drewN nq)
      have HO2 := Lib.hid (HO.out.drewN nq)
      generalize (w.alloc _).drewN nq = wq at HI2 HO2 ⊢
      obtain ⟨i0, i1, i2, i3⟩ := HI2.out.four
      go_wp2_with (fail)
      go_quiet ((first | (go_at_call 86; exact Calls.quiet_of_same (HK.out _)) | (go_at_call 104; exact Calls.quiet_of_same (HV.out _))))
      go_wp2
      go_ret
      first | exact ⟨rfl, HO2.out⟩ | exact ⟨rfl, HO2.out.drewN _⟩
  have hl : long m s r = s := by unfold long; rw [if_neg hr]
  rw [hl] at no yes
  have z7 : (r == 0) = false := by simpa using hr
  by_cases r1 : 1 < r
  · by_cases r2 : r < 16384
    · by_cases hm : m = 0
      · by_cases s1 : 32 < s
        · by_cases s2 : s ≤ v
          · obtain rfl : x = true := yes (by omega)
            clear no yes HX
            have z1 : decide (g < 1) = false := decide_eq_false (by omega)
            have z2 : decide (3 < g) = false := decide_eq_false (by omega)
            have z3 : decide ((n : Int) < 1) = false := decide_eq_false (by omega)
            have z4 : decide (k < (n : Int)) = false := decide_eq_false (by omega)
            have z8 : decide (1 < r) = true := decide_eq_true (by omega)
            have z9 : decide (r < 16384) = true := decide_eq_true (by omega)
            have zb : decide (32 < s) = true := decide_eq_true (by omega)
            have zc : decide (s ≤ v) = true := decide_eq_true (by omega)
            subst hm
            go_enter Tryz.func85, Tryz.ntmps85
            go_wp2_with (fail)
            go_quiet ((first | (go_at_call 86; exact Calls.quiet_of_same (HK.out _)) | (go_at_call 104; exact Calls.quiet_of_same (HV.out _))))
            have HI2 := Lib.hid (HI.out.drewN nq)
            have HO2 := Lib.hid (HO.out.drewN nq)
            generalize (w.alloc _).drewN nq = wq at HI2 HO2 ⊢
            obtain ⟨i0, i1, i2, i3⟩ := HI2.out.four
            go_wp2_with (fail)
            go_quiet ((first | (go_at_call 86; exact Calls.quiet_of_same (HK.out _)) | (go_at_call 104; exact Calls.quiet_of_same (HV.out _))))
            go_wp2
            go_ret
            first | exact ⟨rfl, HO2.out⟩ | exact ⟨rfl, HO2.out.drewN _⟩
          · obtain rfl : x = false := no (by omega)
            clear no yes HX
            have z1 : decide (g < 1) = false := decide_eq_false (by omega)
            have z2 : decide (3 < g) = false := decide_eq_false (by omega)
            have z3 : decide ((n : Int) < 1) = false := decide_eq_false (by omega)
            have z4 : decide (k < (n : Int)) = false := decide_eq_false (by omega)
            have z8 : decide (1 < r) = true := decide_eq_true (by omega)
            have z9 : decide (r < 16384) = true := decide_eq_true (by omega)
            have zb : decide (32 < s) = true := decide_eq_true (by omega)
            have zc : decide (s ≤ v) = false := decide_eq_false (by omega)
            subst hm
            go_enter Tryz.func85, Tryz.ntmps85
            go_wp2_with (fail)
            go_quiet ((first | (go_at_call 86; exact Calls.quiet_of_same (HK.out _)) | (go_at_call 104; exact Calls.quiet_of_same (HV.out _))))
            have HI2 := Lib.hid (HI.out.drewN nq)
            have HO2 := Lib.hid (HO.out.drewN nq)
            generalize (w.alloc _).drewN nq = wq at HI2 HO2 ⊢
            obtain ⟨i0, i1, i2, i3⟩ := HI2.out.four
            go_wp2_with (fail)
            go_quiet ((first | (go_at_call 86; exact Calls.quiet_of_same (HK.out _)) | (go_at_call 104; exact Calls.quiet_of_same (HV.out _))))
            go_wp2
            go_ret
            first | exact ⟨rfl, HO2.out⟩ | exact ⟨rfl, HO2.out.drewN _⟩
        · obtain rfl : x = false := no (by omega)
          clear no yes HX
          have z1 : decide (g < 1) = false := decide_eq_false (by omega)
          have z2 : decide (3 < g) = false := decide_eq_false (by omega)
          have z3 : decide ((n : Int) < 1) = false := decide_eq_false (by omega)
          have z4 : decide (k < (n : Int)) = false := decide_eq_false (by omega)
          have z8 : decide (1 < r) = true := decide_eq_true (by omega)
          have z9 : decide (r < 16384) = true := decide_eq_true (by omega)
          have zb : decide (32 < s) = false := decide_eq_false (by omega)
          subst hm
          go_enter Tryz.func85, Tryz.ntmps85
          go_wp2_with (fail)
          go_quiet ((first | (go_at_call 86; exact Calls.quiet_of_same (HK.out _)) | (go_at_call 104; exact Calls.quiet_of_same (HV.out _))))
          have HI2 := Lib.hid (HI.out.drewN nq)
          have HO2 := Lib.hid (HO.out.drewN nq)
          generalize (w.alloc _).drewN nq = wq at HI2 HO2 ⊢
          obtain ⟨i0, i1, i2, i3⟩ := HI2.out.four
          go_wp2_with (fail)
          go_quiet ((first | (go_at_call 86; exact Calls.quiet_of_same (HK.out _)) | (go_at_call 104; exact Calls.quiet_of_same (HV.out _))))
          go_wp2
          go_ret
          first | exact ⟨rfl, HO2.out⟩ | exact ⟨rfl, HO2.out.drewN _⟩
      · obtain rfl : x = false := no (by omega)
        clear no yes HX
        have z1 : decide (g < 1) = false := decide_eq_false (by omega)
        have z2 : decide (3 < g) = false := decide_eq_false (by omega)
        have z3 : decide ((n : Int) < 1) = false := decide_eq_false (by omega)
        have z4 : decide (k < (n : Int)) = false := decide_eq_false (by omega)
        have z8 : decide (1 < r) = true := decide_eq_true (by omega)
        have z9 : decide (r < 16384) = true := decide_eq_true (by omega)
        have za : ((m : Int) == 0) = false := by simpa using hm
        go_enter Tryz.func85, Tryz.ntmps85
        go_wp2_with (fail)
        go_quiet ((first | (go_at_call 86; exact Calls.quiet_of_same (HK.out _)) | (go_at_call 104; exact Calls.quiet_of_same (HV.out _))))
        have HI2 := Lib.hid (HI.out.drewN nq)
        have HO2 := Lib.hid (HO.out.drewN nq)
        generalize (w.alloc _).drewN nq = wq at HI2 HO2 ⊢
        obtain ⟨i0, i1, i2, i3⟩ := HI2.out.four
        go_wp2_with (fail)
        go_quiet ((first | (go_at_call 86; exact Calls.quiet_of_same (HK.out _)) | (go_at_call 104; exact Calls.quiet_of_same (HV.out _))))
        go_wp2
        go_ret
        first | exact ⟨rfl, HO2.out⟩ | exact ⟨rfl, HO2.out.drewN _⟩
    · obtain rfl : x = false := no (by omega)
      clear no yes HX
      have z1 : decide (g < 1) = false := decide_eq_false (by omega)
      have z2 : decide (3 < g) = false := decide_eq_false (by omega)
      have z3 : decide ((n : Int) < 1) = false := decide_eq_false (by omega)
      have z4 : decide (k < (n : Int)) = false := decide_eq_false (by omega)
      have z8 : decide (1 < r) = true := decide_eq_true (by omega)
      have z9 : decide (r < 16384) = false := decide_eq_false (by omega)
      go_enter Tryz.func85, Tryz.ntmps85
      go_wp2_with (fail)
      go_quiet ((first | (go_at_call 86; exact Calls.quiet_of_same (HK.out _)) | (go_at_call 104; exact Calls.quiet_of_same (HV.out _))))
      have HI2 := Lib.hid (HI.out.drewN nq)
      have HO2 := Lib.hid (HO.out.drewN nq)
      generalize (w.alloc _).drewN nq = wq at HI2 HO2 ⊢
      obtain ⟨i0, i1, i2, i3⟩ := HI2.out.four
      go_wp2_with (fail)
      go_quiet ((first | (go_at_call 86; exact Calls.quiet_of_same (HK.out _)) | (go_at_call 104; exact Calls.quiet_of_same (HV.out _))))
      go_wp2
      go_ret
      first | exact ⟨rfl, HO2.out⟩ | exact ⟨rfl, HO2.out.drewN _⟩
  · obtain rfl : x = false := no (by omega)
    clear no yes HX
    have z1 : decide (g < 1) = false := decide_eq_false (by omega)
    have z2 : decide (3 < g) = false := decide_eq_false (by omega)
    have z3 : decide ((n : Int) < 1) = false := decide_eq_false (by omega)
    have z4 : decide (k < (n : Int)) = false := decide_eq_false (by omega)
    have z8 : decide (1 < r) = false := decide_eq_false (by omega)
    go_enter Tryz.func85, Tryz.ntmps85
    go_wp2_with (fail)
    go_quiet ((first | (go_at_call 86; exact Calls.quiet_of_same (HK.out _)) | (go_at_call 104; exact Calls.quiet_of_same (HV.out _))))
    have HI2 := Lib.hid (HI.out.drewN nq)
    have HO2 := Lib.hid (HO.out.drewN nq)
    generalize (w.alloc _).drewN nq = wq at HI2 HO2 ⊢
    obtain ⟨i0, i1, i2, i3⟩ := HI2.out.four
    go_wp2_with (fail)
    go_quiet ((first | (go_at_call 86; exact Calls.quiet_of_same (HK.out _)) | (go_at_call 104; exact Calls.quiet_of_same (HV.out _))))
    go_wp2
    go_ret
    first | exact ⟨rfl, HO2.out⟩ | exact ⟨rfl, HO2.out.drewN _⟩
end
end Go.Proofs.YtoghojgajpfkkaaGreatDoor
