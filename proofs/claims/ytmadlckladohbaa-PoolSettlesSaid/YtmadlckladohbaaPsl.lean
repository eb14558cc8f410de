/-
  PoolSettles: the walk.
-/
import Derived.Test.YtmadlckladohbaaPal
set_option linter.unusedVariables false
namespace Go.Proofs.Ytmadlckladohbaa
open Go.RowKit Go.Shelf

/-- What a flag stands for. -/
def TI (b : Bool) (P : Prop) : Prop := b = true ↔ P
def sS0 : PS := NewS [] [] 0 10 20
def sS1 (t : Int) : PS := GaveS sS0 t (3, 2)
def sS2 (t u : Int) : PS := GaveS (sS1 t) u (5, 1)
def sM (x y : Int) : Int := min (max x 0 - 2) y
def sS3 (t u x y : Int) : PS := SettledS (sS2 t u) (sM x y)
theorem s_new : NewOk [] [] 0 10 20 := by
  refine ⟨by decide, by decide, by decide, by decide, ⟨⟨rfl, fun p hp => by simp [inn] at hp⟩, ⟨rfl, fun p hp => by simp [inn] at hp⟩, fun p _ hp => by simp [inn] at hp⟩, by decide, by decide⟩
theorem s0 : sS0.Ok := NewS_ok s_new
theorem sF0 (p : Int) : ¬ sS0.F p := fun h => by
  have : inn [] p = true := h
  simp [inn] at this
theorem sH0 (v p : Int) : ¬ sS0.H v p := fun h => by
  have : inn [] p = true := h.2
  simp [inn] at this
theorem sG1 {t : Int} (ht : 0 ≤ t) : ¬ GiveArg sS0 t (3, 2) := by
  show ¬ (t < 0 ∨ (3 : Int) < 2 ∨ (2 : Int) < 1 ∨ (10 : Int) - 3 < 2)
  omega
theorem sU1 : Unused sS0 (3, 2) := fun p _ => ⟨sF0 p, fun t => sH0 t p⟩
theorem s1 {t : Int} (ht : 0 ≤ t) : (sS1 t).Ok := gave_ok s0 (sG1 ht) sU1
theorem sG2 {t u : Int} (hu : 0 ≤ u) : ¬ GiveArg (sS1 t) u (5, 1) := by
  show ¬ (u < 0 ∨ (5 : Int) < 2 ∨ (1 : Int) < 1 ∨ (10 : Int) - 5 < 1)
  omega
theorem sH1 (t v p : Int) : (sS1 t).H v p ↔ v = t ∧ 3 ≤ p ∧ p < 5 := by
  constructor
  · rintro (h | ⟨h1, h2, h3⟩)
    · exact absurd h (sH0 v p)
    · exact ⟨h1, h2, by simpa using h3⟩
  · rintro ⟨h1, h2, h3⟩
    exact .inr ⟨h1, h2, by show p < 3 + 2; omega⟩
theorem sU2 {t : Int} : Unused (sS1 t) (5, 1) := fun p hp => ⟨sF0 p, fun v hv => by
  have := (sH1 t v p).1 hv
  unfold within at hp
  simp only at hp
  omega⟩
theorem s2 {t u : Int} (ht : 0 ≤ t) (hu : 0 ≤ u) : (sS2 t u).Ok := gave_ok (s1 ht) (sG2 hu) sU2
theorem sH2 (t u v p : Int) : (sS2 t u).H v p ↔ (v = t ∧ 3 ≤ p ∧ p < 5) ∨ (v = u ∧ p = 5) := by
  constructor
  · rintro (h | ⟨h1, h2, h3⟩)
    · exact .inl ((sH1 t v p).1 h)
    · exact .inr ⟨h1, by simp only at h2 h3; omega⟩
  · rintro (h | ⟨h1, h2⟩)
    · exact .inl ((sH1 t v p).2 h)
    · exact .inr ⟨h1, by unfold within; simp only; omega⟩
theorem s3 {t u : Int} (ht : 0 ≤ t) (hu : 0 ≤ u) (x y : Int) : (sS3 t u x y).Ok := settled_ok (s2 ht hu) _
theorem sF3 {t u x y p : Int} : (sS3 t u x y).F p ↔ (t ≤ sM x y ∧ 3 ≤ p ∧ p < 5) ∨ (u ≤ sM x y ∧ p = 5) := by
  constructor
  · rintro (h | ⟨v, h1, h2⟩)
    · exact absurd h (sF0 p)
    · rcases (sH2 t u v p).1 h2 with ⟨rfl, h⟩ | ⟨rfl, h⟩
      · exact .inl ⟨h1, h⟩
      · exact .inr ⟨h1, h⟩
  · rintro (⟨h1, h2⟩ | ⟨h1, h2⟩)
    · exact .inr ⟨t, h1, (sH2 t u t p).2 (.inl ⟨rfl, h2⟩)⟩
    · exact .inr ⟨u, h1, (sH2 t u u p).2 (.inr ⟨rfl, h2⟩)⟩
theorem f3_of {t u x y : Int} {b : Bool} (h : TI b (t ≤ sM x y)) : b = true ↔ (sS3 t u x y).F 3 := by rw [show b = true ↔ _ from h, sF3]; omega
theorem f5_of {t u x y : Int} {b : Bool} (h : TI b (u ≤ sM x y)) : b = true ↔ (sS3 t u x y).F 5 := by rw [show b = true ↔ _ from h, sF3]; omega
theorem sH3 {t u x y p : Int} : (∃ v, (sS3 t u x y).H v p) ↔ (¬ t ≤ sM x y ∧ 3 ≤ p ∧ p < 5) ∨ (¬ u ≤ sM x y ∧ p = 5) := by
  constructor
  · rintro ⟨v, h1, h2⟩
    rcases (sH2 t u v p).1 h2 with ⟨rfl, h⟩ | ⟨rfl, h⟩
    · exact .inl ⟨h1, h⟩
    · exact .inr ⟨h1, h⟩
  · rintro (⟨h1, h2⟩ | ⟨h1, h2⟩)
    · exact ⟨t, h1, (sH2 t u t p).2 (.inl ⟨rfl, h2⟩)⟩
    · exact ⟨u, h1, (sH2 t u u p).2 (.inr ⟨rfl, h2⟩)⟩
theorem h4_of {t u x y : Int} {b : Bool} (h : TI b (sM x y < t)) : b = true ↔ ∃ v, (sS3 t u x y).H v 4 := by rw [show b = true ↔ _ from h, sH3]; omega
theorem h5_of {t u x y : Int} {b : Bool} (h : TI b (sM x y < u)) : b = true ↔ ∃ v, (sS3 t u x y).H v 5 := by rw [show b = true ↔ _ from h, sH3]; omega

set_option maxRecDepth 100000 in
set_option maxHeartbeats 6400000 in
theorem settles_early (w : World) (t u x y : Int) (ht : -9223372036854775808 ≤ t ∧ t ≤ 9223372036854775807) (hu : -9223372036854775808 ≤ u ∧ u ≤ 9223372036854775807) (hx : -9223372036854775808 ≤ x ∧ x ≤ 9223372036854775807) (hy : -9223372036854775808 ≤ y ∧ y ≤ 9223372036854775807) (h : t < 0 ∨ u < 0 ∨ t = u ∨ 1073741824 < t ∨ 1073741824 < u ∨ x < -10 ∨ 1099511627776 < x ∨ y < -10) :
    Calls Try.prog 3 #[.int .i64 t, .int .i64 u, .agg #[.int .i64 x, .int .i64 y]] w (Told w (.bool true)) := by
  have HB : Hid (Blk (w.alloc (.cells #[.int .i64 x, .int .i64 y] 22)) w.heap.size 22 [.int .i64 x, .int .i64 y]) := Lib.hid (Blk.new w _ _)
  have HO : Hid (Only (w.heap.size ≤ ·) w (w.alloc (.cells #[.int .i64 x, .int .i64 y] 22))) := Lib.hid ((Only.refl _ w).alloc (fun _ h => h) _)
  by_cases d0 : t < 0
  · have b0 : decide (t < 0) = true := decide_eq_true d0
    clear h
    go_enter Try.func3, Try.ntmps3
    go_wp2_with (go_at_call 7; (with_reducible refine (alive_c _).mono ?_); rintro e w1 ⟨rfl, ho⟩; replace HO := Lib.hid (on_new HO.out ho); clear ho)
    go_ret
    exact ⟨rfl, HO.out⟩
  · have b0 : decide (t < 0) = false := decide_eq_false d0
    by_cases d1 : u < 0
    · have b1 : decide (u < 0) = true := decide_eq_true d1
      clear h
      go_enter Try.func3, Try.ntmps3
      go_wp2_with (go_at_call 7; (with_reducible refine (alive_c _).mono ?_); rintro e w1 ⟨rfl, ho⟩; replace HO := Lib.hid (on_new HO.out ho); clear ho)
      go_ret
      exact ⟨rfl, HO.out⟩
    · have b1 : decide (u < 0) = false := decide_eq_false d1
      by_cases d2 : t = u
      · subst d2
        clear h
        go_enter Try.func3, Try.ntmps3
        go_wp2_with (go_at_call 7; (with_reducible refine (alive_c _).mono ?_); rintro e w1 ⟨rfl, ho⟩; replace HO := Lib.hid (on_new HO.out ho); clear ho)
        go_ret
        exact ⟨rfl, HO.out⟩
      · have b2 : decide (t = u) = false := decide_eq_false d2
        by_cases d3 : 1073741824 < t
        · have b3 : decide (1073741824 < t) = true := decide_eq_true d3
          clear h
          go_enter Try.func3, Try.ntmps3
          go_wp2_with (go_at_call 7; (with_reducible refine (alive_c _).mono ?_); rintro e w1 ⟨rfl, ho⟩; replace HO := Lib.hid (on_new HO.out ho); clear ho)
          go_ret
          exact ⟨rfl, HO.out⟩
        · have b3 : decide (1073741824 < t) = false := decide_eq_false d3
          by_cases d4 : 1073741824 < u
          · have b4 : decide (1073741824 < u) = true := decide_eq_true d4
            clear h
            go_enter Try.func3, Try.ntmps3
            go_wp2_with (go_at_call 7; (with_reducible refine (alive_c _).mono ?_); rintro e w1 ⟨rfl, ho⟩; replace HO := Lib.hid (on_new HO.out ho); clear ho)
            go_ret
            exact ⟨rfl, HO.out⟩
          · have b4 : decide (1073741824 < u) = false := decide_eq_false d4
            by_cases d5 : x < -10
            · have b5 : decide (x < -10) = true := decide_eq_true d5
              clear h
              go_enter Try.func3, Try.ntmps3
              go_wp2_with (go_at_call 7; (with_reducible refine (alive_c _).mono ?_); rintro e w1 ⟨rfl, ho⟩; replace HO := Lib.hid (on_new HO.out ho); clear ho)
              go_ret
              exact ⟨rfl, HO.out⟩
            · have b5 : decide (x < -10) = false := decide_eq_false d5
              by_cases d6 : 1099511627776 < x
              · have b6 : decide (1099511627776 < x) = true := decide_eq_true d6
                clear h
                go_enter Try.func3, Try.ntmps3
                go_wp2_with (go_at_call 7; (with_reducible refine (alive_c _).mono ?_); rintro e w1 ⟨rfl, ho⟩; replace HO := Lib.hid (on_new HO.out ho); clear ho)
                go_ret
                exact ⟨rfl, HO.out⟩
              · have b6 : decide (1099511627776 < x) = false := decide_eq_false d6
                have d7 : y < -10 := by omega
                have b7 : decide (y < -10) = true := decide_eq_true d7
                clear h
                go_enter Try.func3, Try.ntmps3
                go_wp2_with (go_at_call 7; (with_reducible refine (alive_c _).mono ?_); rintro e w1 ⟨rfl, ho⟩; replace HO := Lib.hid (on_new HO.out ho); clear ho)
                go_ret
                exact ⟨rfl, HO.out⟩
set_option maxRecDepth 100000 in
set_option maxHeartbeats 6400000 in
theorem settles_main (w : World) (t u x y : Int) (ht : -9223372036854775808 ≤ t ∧ t ≤ 9223372036854775807) (hu : -9223372036854775808 ≤ u ∧ u ≤ 9223372036854775807) (hx : -9223372036854775808 ≤ x ∧ x ≤ 9223372036854775807) (hy : -9223372036854775808 ≤ y ∧ y ≤ 9223372036854775807) (h : ¬ (t < 0 ∨ u < 0 ∨ t = u ∨ 1073741824 < t ∨ 1073741824 < u ∨ x < -10 ∨ 1099511627776 < x ∨ y < -10)) :
    Calls Try.prog 3 #[.int .i64 t, .int .i64 u, .agg #[.int .i64 x, .int .i64 y]] w (Told w (.bool true)) := by
  have HB : Hid (Blk (w.alloc (.cells #[.int .i64 x, .int .i64 y] 22)) w.heap.size 22 [.int .i64 x, .int .i64 y]) := Lib.hid (Blk.new w _ _)
  have HO : Hid (Only (w.heap.size ≤ ·) w (w.alloc (.cells #[.int .i64 x, .int .i64 y] 22))) := Lib.hid ((Only.refl _ w).alloc (fun _ h => h) _)
  obtain ⟨h0, h1, h2, h3, h4, h5, h6, h7⟩ : ¬ t < 0 ∧ ¬ u < 0 ∧ ¬ t = u ∧ ¬ 1073741824 < t ∧ ¬ 1073741824 < u ∧ ¬ x < -10 ∧ ¬ 1099511627776 < x ∧ ¬ y < -10 := by omega
  have k0 : 0 ≤ t := by omega
  have k1 : 0 ≤ u := by omega
  have HK := Lib.hid (And.intro k0 k1)
  have HXY : Hid ((-9223372036854775808 ≤ x ∧ x ≤ 9223372036854775807) ∧ (-9223372036854775808 ≤ y ∧ y ≤ 9223372036854775807) ∧ t ≤ 9223372036854775807 ∧ u ≤ 9223372036854775807) := Lib.hid ⟨hx, hy, ht.2, hu.2⟩
  have HNEW : Hid (∀ W, Calls Try.prog 8 #[.agg #[.slice none 0 0, .slice none 0 0], .int .i64 0, .int .i64 10, .int .i64 20] W (NewSays W sS0)) := Lib.hid fun W => New_ok W none none 0 0 0 0 [] [] 0 10 20 (Row.nil_ _) (Row.nil_ _) (by decide) s_new
  obtain ⟨q0, q1⟩ := box_two HB.out
  clear h hx hy ht hu
  go_enter Try.func3, Try.ntmps3
  go_upto_region 8 with (first
    | (go_at_call 8; (with_reducible refine (HNEW.out _).mono ?_); rintro e w1 ⟨pb, mb, rfl, hp, hm, ha, ho⟩; have HP := Lib.hid ha; have HG : Hid (w.heap.size ≤ pb ∧ w.heap.size ≤ mb) := Lib.hid ⟨Nat.le_trans HO.out.size hp, Nat.le_trans HO.out.size hm⟩; replace HB := Lib.hid (HB.out.later ho); have HBG : Hid (w.heap.size < pb ∧ w.heap.size < mb) := Lib.hid ⟨Nat.lt_of_lt_of_le (by simp) hp, Nat.lt_of_lt_of_le (by simp) hm⟩; replace HO := Lib.hid (on_new HO.out ho); clear hp hm ha ho)
    | (go_at_call 9; (with_reducible refine (Give_ok _ pb mb 1 sS0 t (3, 2) HP.out s0 (sG1 HK.out.1) sU1 HXY.out.2.2.1 (by decide)).mono ?_); rintro e w2 ⟨rfl, ha, htc⟩; replace HP : Hid (At w2 pb mb 2 (sS1 t)) := Lib.hid ha; replace HB := Lib.hid (HB.out.only htc (by have := HBG.out; have := HB.out.lt; omega)); replace HO := Lib.hid (down_new HO.out htc HG.out.1 HG.out.2); clear ha htc)
    | (go_at_call 9; (with_reducible refine (Give_ok _ pb mb 2 (sS1 t) u (5, 1) HP.out (s1 HK.out.1) (sG2 HK.out.2) sU2 HXY.out.2.2.2 (by decide)).mono ?_); rintro e w3 ⟨rfl, ha, htc⟩; replace HP : Hid (At w3 pb mb 3 (sS2 t u)) := Lib.hid ha; replace HB := Lib.hid (HB.out.only htc (by have := HBG.out; have := HB.out.lt; omega)); replace HO := Lib.hid (down_new HO.out htc HG.out.1 HG.out.2); obtain ⟨r0, r1⟩ := box_two HB.out; clear ha htc)
    | (go_at_call 10; (with_reducible refine (Settle_c _ pb mb 3 (sS2 t u) x y HP.out (s2 HK.out.1 HK.out.2) HXY.out.1 HXY.out.2.1).mono ?_); rintro e w4 ⟨rfl, ha, htc⟩; replace HP : Hid (At w4 pb mb 3 (sS3 t u x y)) := Lib.hid ha; replace HB := Lib.hid (HB.out.only htc (by have := HBG.out; have := HB.out.lt; omega)); replace HO := Lib.hid (down_new HO.out htc HG.out.1 HG.out.2); obtain ⟨r2, r3⟩ := box_two HB.out; clear ha htc))
  have hw : IntKind.i64.wrap (x - 2) = x - 2 := IntWalk.i64_in _ (by omega)
  rcases (show (¬ t ≤ x - 2) ∨ (t ≤ x - 2 ∧ ¬ t ≤ y) ∨ (t ≤ x - 2 ∧ t ≤ y) by omega) with ha | ha | ha <;> rcases (show (¬ u ≤ x - 2) ∨ (u ≤ x - 2 ∧ ¬ u ≤ y) ∨ (u ≤ x - 2 ∧ u ≤ y) by omega) with hb | hb | hb
  · have a1' : ¬ t ≤ x - 2 := by omega
    have b1' : ¬ u ≤ x - 2 := by omega
    have a1 : decide (t ≤ x - 2) = false := decide_eq_false a1'
    have b1 : decide (u ≤ x - 2) = false := decide_eq_false b1'
    have HA : Hid (TI false (t ≤ sM x y)) := Lib.hid (by unfold TI sM; simp <;> omega)
    have HBB : Hid (TI false (u ≤ sM x y)) := Lib.hid (by unfold TI sM; simp <;> omega)
    have HNA : Hid (TI true (sM x y < t)) := Lib.hid (by unfold TI sM; simp <;> omega)
    have HNB : Hid (TI true (sM x y < u)) := Lib.hid (by unfold TI sM; simp <;> omega)
    clear h0 h1 h3 h4 h5 h6 h7
    go_quiet (fail)
    replace HP := Lib.hid (HP.out.later ((Only.refl _ w4).drewN nq))
    replace HO := Lib.hid (HO.out.drewN nq)
    generalize hw5 : World.drewN w4 nq = w5 at HP HO ⊢
    clear hw5 r2 r3
    go_wp2_with (first
          | (go_at_call 7; (with_reducible refine (alive_c _).mono ?_); rintro e w6 ⟨rfl, ho⟩; replace HP := Lib.hid (HP.out.later ho); replace HO := Lib.hid (on_new HO.out ho); clear ho)
          | (go_at_call 12; (with_reducible refine (Free_b HP.out).mono ?_); rintro e w7 ⟨⟨A7, n7, c7, u7, rfl, hv, hu⟩, ho⟩; have HR7 := Lib.hid hv.row; have HU7 := Lib.hid hu; replace HP := Lib.hid (HP.out.later ho); replace HO := Lib.hid (on_new HO.out ho); clear hv hu ho)
          | (go_at_call 11; (with_reducible refine (Has_b (b := false) HR7.out HU7.out (by decide) (f3_of HA.out)).mono ?_); rintro e w8 ⟨rfl, ho⟩; replace HP := Lib.hid (HP.out.later ho); replace HO := Lib.hid (on_new HO.out ho); clear ho)
          | (go_at_call 13; (with_reducible refine (Held_b HP.out (s3 HK.out.1 HK.out.2 x y)).mono ?_); rintro e w9 ⟨⟨A9, n9, c9, u9, rfl, hv, hu⟩, ho⟩; have HR9 := Lib.hid hv.row; have HU9 := Lib.hid hu; replace HP := Lib.hid (HP.out.later ho); replace HO := Lib.hid (on_new HO.out ho); clear hv hu ho)
          | (go_at_call 11; (with_reducible refine (Has_b (b := true) HR9.out HU9.out (by decide) (h4_of HNA.out)).mono ?_); rintro e w10 ⟨rfl, ho⟩; replace HP := Lib.hid (HP.out.later ho); replace HO := Lib.hid (on_new HO.out ho); clear ho)
          | (go_at_call 11; (with_reducible refine (Has_b (b := false) HR7.out HU7.out (by decide) (f5_of HBB.out)).mono ?_); rintro e w12 ⟨rfl, ho⟩; replace HP := Lib.hid (HP.out.later ho); replace HO := Lib.hid (on_new HO.out ho); clear ho)
          | (go_at_call 11; (with_reducible refine (Has_b (b := true) HR9.out HU9.out (by decide) (h5_of HNB.out)).mono ?_); rintro e w14 ⟨rfl, ho⟩; replace HP := Lib.hid (HP.out.later ho); replace HO := Lib.hid (on_new HO.out ho); clear ho))
    go_ret
    exact ⟨rfl, HO.out⟩
  · have a1' : ¬ t ≤ x - 2 := by omega
    have b1' : u ≤ x - 2 := by omega
    have b2' : ¬ u ≤ y := by omega
    have a1 : decide (t ≤ x - 2) = false := decide_eq_false a1'
    have b1 : decide (u ≤ x - 2) = true := decide_eq_true b1'
    have b2 : decide (u ≤ y) = false := decide_eq_false b2'
    have HA : Hid (TI false (t ≤ sM x y)) := Lib.hid (by unfold TI sM; simp <;> omega)
    have HBB : Hid (TI false (u ≤ sM x y)) := Lib.hid (by unfold TI sM; simp <;> omega)
    have HNA : Hid (TI true (sM x y < t)) := Lib.hid (by unfold TI sM; simp <;> omega)
    have HNB : Hid (TI true (sM x y < u)) := Lib.hid (by unfold TI sM; simp <;> omega)
    clear h0 h1 h3 h4 h5 h6 h7
    go_quiet (fail)
    replace HP := Lib.hid (HP.out.later ((Only.refl _ w4).drewN nq))
    replace HO := Lib.hid (HO.out.drewN nq)
    generalize hw5 : World.drewN w4 nq = w5 at HP HO ⊢
    clear hw5 r2 r3
    go_wp2_with (first
          | (go_at_call 7; (with_reducible refine (alive_c _).mono ?_); rintro e w6 ⟨rfl, ho⟩; replace HP := Lib.hid (HP.out.later ho); replace HO := Lib.hid (on_new HO.out ho); clear ho)
          | (go_at_call 12; (with_reducible refine (Free_b HP.out).mono ?_); rintro e w7 ⟨⟨A7, n7, c7, u7, rfl, hv, hu⟩, ho⟩; have HR7 := Lib.hid hv.row; have HU7 := Lib.hid hu; replace HP := Lib.hid (HP.out.later ho); replace HO := Lib.hid (on_new HO.out ho); clear hv hu ho)
          | (go_at_call 11; (with_reducible refine (Has_b (b := false) HR7.out HU7.out (by decide) (f3_of HA.out)).mono ?_); rintro e w8 ⟨rfl, ho⟩; replace HP := Lib.hid (HP.out.later ho); replace HO := Lib.hid (on_new HO.out ho); clear ho)
          | (go_at_call 13; (with_reducible refine (Held_b HP.out (s3 HK.out.1 HK.out.2 x y)).mono ?_); rintro e w9 ⟨⟨A9, n9, c9, u9, rfl, hv, hu⟩, ho⟩; have HR9 := Lib.hid hv.row; have HU9 := Lib.hid hu; replace HP := Lib.hid (HP.out.later ho); replace HO := Lib.hid (on_new HO.out ho); clear hv hu ho)
          | (go_at_call 11; (with_reducible refine (Has_b (b := true) HR9.out HU9.out (by decide) (h4_of HNA.out)).mono ?_); rintro e w10 ⟨rfl, ho⟩; replace HP := Lib.hid (HP.out.later ho); replace HO := Lib.hid (on_new HO.out ho); clear ho)
          | (go_at_call 11; (with_reducible refine (Has_b (b := false) HR7.out HU7.out (by decide) (f5_of HBB.out)).mono ?_); rintro e w12 ⟨rfl, ho⟩; replace HP := Lib.hid (HP.out.later ho); replace HO := Lib.hid (on_new HO.out ho); clear ho)
          | (go_at_call 11; (with_reducible refine (Has_b (b := true) HR9.out HU9.out (by decide) (h5_of HNB.out)).mono ?_); rintro e w14 ⟨rfl, ho⟩; replace HP := Lib.hid (HP.out.later ho); replace HO := Lib.hid (on_new HO.out ho); clear ho))
    go_ret
    exact ⟨rfl, HO.out⟩
  · have a1' : ¬ t ≤ x - 2 := by omega
    have b1' : u ≤ x - 2 := by omega
    have b2' : u ≤ y := by omega
    have a1 : decide (t ≤ x - 2) = false := decide_eq_false a1'
    have b1 : decide (u ≤ x - 2) = true := decide_eq_true b1'
    have b2 : decide (u ≤ y) = true := decide_eq_true b2'
    have HA : Hid (TI false (t ≤ sM x y)) := Lib.hid (by unfold TI sM; simp <;> omega)
    have HBB : Hid (TI true (u ≤ sM x y)) := Lib.hid (by unfold TI sM; simp <;> omega)
    have HNA : Hid (TI true (sM x y < t)) := Lib.hid (by unfold TI sM; simp <;> omega)
    have HNB : Hid (TI false (sM x y < u)) := Lib.hid (by unfold TI sM; simp <;> omega)
    clear h0 h1 h3 h4 h5 h6 h7
    go_quiet (fail)
    replace HP := Lib.hid (HP.out.later ((Only.refl _ w4).drewN nq))
    replace HO := Lib.hid (HO.out.drewN nq)
    generalize hw5 : World.drewN w4 nq = w5 at HP HO ⊢
    clear hw5 r2 r3
    go_wp2_with (first
          | (go_at_call 7; (with_reducible refine (alive_c _).mono ?_); rintro e w6 ⟨rfl, ho⟩; replace HP := Lib.hid (HP.out.later ho); replace HO := Lib.hid (on_new HO.out ho); clear ho)
          | (go_at_call 12; (with_reducible refine (Free_b HP.out).mono ?_); rintro e w7 ⟨⟨A7, n7, c7, u7, rfl, hv, hu⟩, ho⟩; have HR7 := Lib.hid hv.row; have HU7 := Lib.hid hu; replace HP := Lib.hid (HP.out.later ho); replace HO := Lib.hid (on_new HO.out ho); clear hv hu ho)
          | (go_at_call 11; (with_reducible refine (Has_b (b := false) HR7.out HU7.out (by decide) (f3_of HA.out)).mono ?_); rintro e w8 ⟨rfl, ho⟩; replace HP := Lib.hid (HP.out.later ho); replace HO := Lib.hid (on_new HO.out ho); clear ho)
          | (go_at_call 13; (with_reducible refine (Held_b HP.out (s3 HK.out.1 HK.out.2 x y)).mono ?_); rintro e w9 ⟨⟨A9, n9, c9, u9, rfl, hv, hu⟩, ho⟩; have HR9 := Lib.hid hv.row; have HU9 := Lib.hid hu; replace HP := Lib.hid (HP.out.later ho); replace HO := Lib.hid (on_new HO.out ho); clear hv hu ho)
          | (go_at_call 11; (with_reducible refine (Has_b (b := true) HR9.out HU9.out (by decide) (h4_of HNA.out)).mono ?_); rintro e w10 ⟨rfl, ho⟩; replace HP := Lib.hid (HP.out.later ho); replace HO := Lib.hid (on_new HO.out ho); clear ho)
          | (go_at_call 11; (with_reducible refine (Has_b (b := true) HR7.out HU7.out (by decide) (f5_of HBB.out)).mono ?_); rintro e w12 ⟨rfl, ho⟩; replace HP := Lib.hid (HP.out.later ho); replace HO := Lib.hid (on_new HO.out ho); clear ho)
          | (go_at_call 11; (with_reducible refine (Has_b (b := false) HR9.out HU9.out (by decide) (h5_of HNB.out)).mono ?_); rintro e w14 ⟨rfl, ho⟩; replace HP := Lib.hid (HP.out.later ho); replace HO := Lib.hid (on_new HO.out ho); clear ho))
    go_ret
    exact ⟨rfl, HO.out⟩
  · have a1' : t ≤ x - 2 := by omega
    have a2' : ¬ t ≤ y := by omega
    have b1' : ¬ u ≤ x - 2 := by omega
    have a1 : decide (t ≤ x - 2) = true := decide_eq_true a1'
    have a2 : decide (t ≤ y) = false := decide_eq_false a2'
    have b1 : decide (u ≤ x - 2) = false := decide_eq_false b1'
    have HA : Hid (TI false (t ≤ sM x y)) := Lib.hid (by unfold TI sM; simp <;> omega)
    have HBB : Hid (TI false (u ≤ sM x y)) := Lib.hid (by unfold TI sM; simp <;> omega)
    have HNA : Hid (TI true (sM x y < t)) := Lib.hid (by unfold TI sM; simp <;> omega)
    have HNB : Hid (TI true (sM x y < u)) := Lib.hid (by unfold TI sM; simp <;> omega)
    clear h0 h1 h3 h4 h5 h6 h7
    go_quiet (fail)
    replace HP := Lib.hid (HP.out.later ((Only.refl _ w4).drewN nq))
    replace HO := Lib.hid (HO.out.drewN nq)
    generalize hw5 : World.drewN w4 nq = w5 at HP HO ⊢
    clear hw5 r2 r3
    go_wp2_with (first
          | (go_at_call 7; (with_reducible refine (alive_c _).mono ?_); rintro e w6 ⟨rfl, ho⟩; replace HP := Lib.hid (HP.out.later ho); replace HO := Lib.hid (on_new HO.out ho); clear ho)
          | (go_at_call 12; (with_reducible refine (Free_b HP.out).mono ?_); rintro e w7 ⟨⟨A7, n7, c7, u7, rfl, hv, hu⟩, ho⟩; have HR7 := Lib.hid hv.row; have HU7 := Lib.hid hu; replace HP := Lib.hid (HP.out.later ho); replace HO := Lib.hid (on_new HO.out ho); clear hv hu ho)
          | (go_at_call 11; (with_reducible refine (Has_b (b := false) HR7.out HU7.out (by decide) (f3_of HA.out)).mono ?_); rintro e w8 ⟨rfl, ho⟩; replace HP := Lib.hid (HP.out.later ho); replace HO := Lib.hid (on_new HO.out ho); clear ho)
          | (go_at_call 13; (with_reducible refine (Held_b HP.out (s3 HK.out.1 HK.out.2 x y)).mono ?_); rintro e w9 ⟨⟨A9, n9, c9, u9, rfl, hv, hu⟩, ho⟩; have HR9 := Lib.hid hv.row; have HU9 := Lib.hid hu; replace HP := Lib.hid (HP.out.later ho); replace HO := Lib.hid (on_new HO.out ho); clear hv hu ho)
          | (go_at_call 11; (with_reducible refine (Has_b (b := true) HR9.out HU9.out (by decide) (h4_of HNA.out)).mono ?_); rintro e w10 ⟨rfl, ho⟩; replace HP := Lib.hid (HP.out.later ho); replace HO := Lib.hid (on_new HO.out ho); clear ho)
          | (go_at_call 11; (with_reducible refine (Has_b (b := false) HR7.out HU7.out (by decide) (f5_of HBB.out)).mono ?_); rintro e w12 ⟨rfl, ho⟩; replace HP := Lib.hid (HP.out.later ho); replace HO := Lib.hid (on_new HO.out ho); clear ho)
          | (go_at_call 11; (with_reducible refine (Has_b (b := true) HR9.out HU9.out (by decide) (h5_of HNB.out)).mono ?_); rintro e w14 ⟨rfl, ho⟩; replace HP := Lib.hid (HP.out.later ho); replace HO := Lib.hid (on_new HO.out ho); clear ho))
    go_ret
    exact ⟨rfl, HO.out⟩
  · have a1' : t ≤ x - 2 := by omega
    have a2' : ¬ t ≤ y := by omega
    have b1' : u ≤ x - 2 := by omega
    have b2' : ¬ u ≤ y := by omega
    have a1 : decide (t ≤ x - 2) = true := decide_eq_true a1'
    have a2 : decide (t ≤ y) = false := decide_eq_false a2'
    have b1 : decide (u ≤ x - 2) = true := decide_eq_true b1'
    have b2 : decide (u ≤ y) = false := decide_eq_false b2'
    have HA : Hid (TI false (t ≤ sM x y)) := Lib.hid (by unfold TI sM; simp <;> omega)
    have HBB : Hid (TI false (u ≤ sM x y)) := Lib.hid (by unfold TI sM; simp <;> omega)
    have HNA : Hid (TI true (sM x y < t)) := Lib.hid (by unfold TI sM; simp <;> omega)
    have HNB : Hid (TI true (sM x y < u)) := Lib.hid (by unfold TI sM; simp <;> omega)
    clear h0 h1 h3 h4 h5 h6 h7
    go_quiet (fail)
    replace HP := Lib.hid (HP.out.later ((Only.refl _ w4).drewN nq))
    replace HO := Lib.hid (HO.out.drewN nq)
    generalize hw5 : World.drewN w4 nq = w5 at HP HO ⊢
    clear hw5 r2 r3
    go_wp2_with (first
          | (go_at_call 7; (with_reducible refine (alive_c _).mono ?_); rintro e w6 ⟨rfl, ho⟩; replace HP := Lib.hid (HP.out.later ho); replace HO := Lib.hid (on_new HO.out ho); clear ho)
          | (go_at_call 12; (with_reducible refine (Free_b HP.out).mono ?_); rintro e w7 ⟨⟨A7, n7, c7, u7, rfl, hv, hu⟩, ho⟩; have HR7 := Lib.hid hv.row; have HU7 := Lib.hid hu; replace HP := Lib.hid (HP.out.later ho); replace HO := Lib.hid (on_new HO.out ho); clear hv hu ho)
          | (go_at_call 11; (with_reducible refine (Has_b (b := false) HR7.out HU7.out (by decide) (f3_of HA.out)).mono ?_); rintro e w8 ⟨rfl, ho⟩; replace HP := Lib.hid (HP.out.later ho); replace HO := Lib.hid (on_new HO.out ho); clear ho)
          | (go_at_call 13; (with_reducible refine (Held_b HP.out (s3 HK.out.1 HK.out.2 x y)).mono ?_); rintro e w9 ⟨⟨A9, n9, c9, u9, rfl, hv, hu⟩, ho⟩; have HR9 := Lib.hid hv.row; have HU9 := Lib.hid hu; replace HP := Lib.hid (HP.out.later ho); replace HO := Lib.hid (on_new HO.out ho); clear hv hu ho)
          | (go_at_call 11; (with_reducible refine (Has_b (b := true) HR9.out HU9.out (by decide) (h4_of HNA.out)).mono ?_); rintro e w10 ⟨rfl, ho⟩; replace HP := Lib.hid (HP.out.later ho); replace HO := Lib.hid (on_new HO.out ho); clear ho)
          | (go_at_call 11; (with_reducible refine (Has_b (b := false) HR7.out HU7.out (by decide) (f5_of HBB.out)).mono ?_); rintro e w12 ⟨rfl, ho⟩; replace HP := Lib.hid (HP.out.later ho); replace HO := Lib.hid (on_new HO.out ho); clear ho)
          | (go_at_call 11; (with_reducible refine (Has_b (b := true) HR9.out HU9.out (by decide) (h5_of HNB.out)).mono ?_); rintro e w14 ⟨rfl, ho⟩; replace HP := Lib.hid (HP.out.later ho); replace HO := Lib.hid (on_new HO.out ho); clear ho))
    go_ret
    exact ⟨rfl, HO.out⟩
  · have a1' : t ≤ x - 2 := by omega
    have a2' : ¬ t ≤ y := by omega
    have b1' : u ≤ x - 2 := by omega
    have b2' : u ≤ y := by omega
    have a1 : decide (t ≤ x - 2) = true := decide_eq_true a1'
    have a2 : decide (t ≤ y) = false := decide_eq_false a2'
    have b1 : decide (u ≤ x - 2) = true := decide_eq_true b1'
    have b2 : decide (u ≤ y) = true := decide_eq_true b2'
    have HA : Hid (TI false (t ≤ sM x y)) := Lib.hid (by unfold TI sM; simp <;> omega)
    have HBB : Hid (TI true (u ≤ sM x y)) := Lib.hid (by unfold TI sM; simp <;> omega)
    have HNA : Hid (TI true (sM x y < t)) := Lib.hid (by unfold TI sM; simp <;> omega)
    have HNB : Hid (TI false (sM x y < u)) := Lib.hid (by unfold TI sM; simp <;> omega)
    clear h0 h1 h3 h4 h5 h6 h7
    go_quiet (fail)
    replace HP := Lib.hid (HP.out.later ((Only.refl _ w4).drewN nq))
    replace HO := Lib.hid (HO.out.drewN nq)
    generalize hw5 : World.drewN w4 nq = w5 at HP HO ⊢
    clear hw5 r2 r3
    go_wp2_with (first
          | (go_at_call 7; (with_reducible refine (alive_c _).mono ?_); rintro e w6 ⟨rfl, ho⟩; replace HP := Lib.hid (HP.out.later ho); replace HO := Lib.hid (on_new HO.out ho); clear ho)
          | (go_at_call 12; (with_reducible refine (Free_b HP.out).mono ?_); rintro e w7 ⟨⟨A7, n7, c7, u7, rfl, hv, hu⟩, ho⟩; have HR7 := Lib.hid hv.row; have HU7 := Lib.hid hu; replace HP := Lib.hid (HP.out.later ho); replace HO := Lib.hid (on_new HO.out ho); clear hv hu ho)
          | (go_at_call 11; (with_reducible refine (Has_b (b := false) HR7.out HU7.out (by decide) (f3_of HA.out)).mono ?_); rintro e w8 ⟨rfl, ho⟩; replace HP := Lib.hid (HP.out.later ho); replace HO := Lib.hid (on_new HO.out ho); clear ho)
          | (go_at_call 13; (with_reducible refine (Held_b HP.out (s3 HK.out.1 HK.out.2 x y)).mono ?_); rintro e w9 ⟨⟨A9, n9, c9, u9, rfl, hv, hu⟩, ho⟩; have HR9 := Lib.hid hv.row; have HU9 := Lib.hid hu; replace HP := Lib.hid (HP.out.later ho); replace HO := Lib.hid (on_new HO.out ho); clear hv hu ho)
          | (go_at_call 11; (with_reducible refine (Has_b (b := true) HR9.out HU9.out (by decide) (h4_of HNA.out)).mono ?_); rintro e w10 ⟨rfl, ho⟩; replace HP := Lib.hid (HP.out.later ho); replace HO := Lib.hid (on_new HO.out ho); clear ho)
          | (go_at_call 11; (with_reducible refine (Has_b (b := true) HR7.out HU7.out (by decide) (f5_of HBB.out)).mono ?_); rintro e w12 ⟨rfl, ho⟩; replace HP := Lib.hid (HP.out.later ho); replace HO := Lib.hid (on_new HO.out ho); clear ho)
          | (go_at_call 11; (with_reducible refine (Has_b (b := false) HR9.out HU9.out (by decide) (h5_of HNB.out)).mono ?_); rintro e w14 ⟨rfl, ho⟩; replace HP := Lib.hid (HP.out.later ho); replace HO := Lib.hid (on_new HO.out ho); clear ho))
    go_ret
    exact ⟨rfl, HO.out⟩
  · have a1' : t ≤ x - 2 := by omega
    have a2' : t ≤ y := by omega
    have b1' : ¬ u ≤ x - 2 := by omega
    have a1 : decide (t ≤ x - 2) = true := decide_eq_true a1'
    have a2 : decide (t ≤ y) = true := decide_eq_true a2'
    have b1 : decide (u ≤ x - 2) = false := decide_eq_false b1'
    have HA : Hid (TI true (t ≤ sM x y)) := Lib.hid (by unfold TI sM; simp <;> omega)
    have HBB : Hid (TI false (u ≤ sM x y)) := Lib.hid (by unfold TI sM; simp <;> omega)
    have HNA : Hid (TI false (sM x y < t)) := Lib.hid (by unfold TI sM; simp <;> omega)
    have HNB : Hid (TI true (sM x y < u)) := Lib.hid (by unfold TI sM; simp <;> omega)
    clear h0 h1 h3 h4 h5 h6 h7
    go_quiet (fail)
    replace HP := Lib.hid (HP.out.later ((Only.refl _ w4).drewN nq))
    replace HO := Lib.hid (HO.out.drewN nq)
    generalize hw5 : World.drewN w4 nq = w5 at HP HO ⊢
    clear hw5 r2 r3
    go_wp2_with (first
          | (go_at_call 7; (with_reducible refine (alive_c _).mono ?_); rintro e w6 ⟨rfl, ho⟩; replace HP := Lib.hid (HP.out.later ho); replace HO := Lib.hid (on_new HO.out ho); clear ho)
          | (go_at_call 12; (with_reducible refine (Free_b HP.out).mono ?_); rintro e w7 ⟨⟨A7, n7, c7, u7, rfl, hv, hu⟩, ho⟩; have HR7 := Lib.hid hv.row; have HU7 := Lib.hid hu; replace HP := Lib.hid (HP.out.later ho); replace HO := Lib.hid (on_new HO.out ho); clear hv hu ho)
          | (go_at_call 11; (with_reducible refine (Has_b (b := true) HR7.out HU7.out (by decide) (f3_of HA.out)).mono ?_); rintro e w8 ⟨rfl, ho⟩; replace HP := Lib.hid (HP.out.later ho); replace HO := Lib.hid (on_new HO.out ho); clear ho)
          | (go_at_call 13; (with_reducible refine (Held_b HP.out (s3 HK.out.1 HK.out.2 x y)).mono ?_); rintro e w9 ⟨⟨A9, n9, c9, u9, rfl, hv, hu⟩, ho⟩; have HR9 := Lib.hid hv.row; have HU9 := Lib.hid hu; replace HP := Lib.hid (HP.out.later ho); replace HO := Lib.hid (on_new HO.out ho); clear hv hu ho)
          | (go_at_call 11; (with_reducible refine (Has_b (b := false) HR9.out HU9.out (by decide) (h4_of HNA.out)).mono ?_); rintro e w10 ⟨rfl, ho⟩; replace HP := Lib.hid (HP.out.later ho); replace HO := Lib.hid (on_new HO.out ho); clear ho)
          | (go_at_call 11; (with_reducible refine (Has_b (b := false) HR7.out HU7.out (by decide) (f5_of HBB.out)).mono ?_); rintro e w12 ⟨rfl, ho⟩; replace HP := Lib.hid (HP.out.later ho); replace HO := Lib.hid (on_new HO.out ho); clear ho)
          | (go_at_call 11; (with_reducible refine (Has_b (b := true) HR9.out HU9.out (by decide) (h5_of HNB.out)).mono ?_); rintro e w14 ⟨rfl, ho⟩; replace HP := Lib.hid (HP.out.later ho); replace HO := Lib.hid (on_new HO.out ho); clear ho))
    go_ret
    exact ⟨rfl, HO.out⟩
  · have a1' : t ≤ x - 2 := by omega
    have a2' : t ≤ y := by omega
    have b1' : u ≤ x - 2 := by omega
    have b2' : ¬ u ≤ y := by omega
    have a1 : decide (t ≤ x - 2) = true := decide_eq_true a1'
    have a2 : decide (t ≤ y) = true := decide_eq_true a2'
    have b1 : decide (u ≤ x - 2) = true := decide_eq_true b1'
    have b2 : decide (u ≤ y) = false := decide_eq_false b2'
    have HA : Hid (TI true (t ≤ sM x y)) := Lib.hid (by unfold TI sM; simp <;> omega)
    have HBB : Hid (TI false (u ≤ sM x y)) := Lib.hid (by unfold TI sM; simp <;> omega)
    have HNA : Hid (TI false (sM x y < t)) := Lib.hid (by unfold TI sM; simp <;> omega)
    have HNB : Hid (TI true (sM x y < u)) := Lib.hid (by unfold TI sM; simp <;> omega)
    clear h0 h1 h3 h4 h5 h6 h7
    go_quiet (fail)
    replace HP := Lib.hid (HP.out.later ((Only.refl _ w4).drewN nq))
    replace HO := Lib.hid (HO.out.drewN nq)
    generalize hw5 : World.drewN w4 nq = w5 at HP HO ⊢
    clear hw5 r2 r3
    go_wp2_with (first
          | (go_at_call 7; (with_reducible refine (alive_c _).mono ?_); rintro e w6 ⟨rfl, ho⟩; replace HP := Lib.hid (HP.out.later ho); replace HO := Lib.hid (on_new HO.out ho); clear ho)
          | (go_at_call 12; (with_reducible refine (Free_b HP.out).mono ?_); rintro e w7 ⟨⟨A7, n7, c7, u7, rfl, hv, hu⟩, ho⟩; have HR7 := Lib.hid hv.row; have HU7 := Lib.hid hu; replace HP := Lib.hid (HP.out.later ho); replace HO := Lib.hid (on_new HO.out ho); clear hv hu ho)
          | (go_at_call 11; (with_reducible refine (Has_b (b := true) HR7.out HU7.out (by decide) (f3_of HA.out)).mono ?_); rintro e w8 ⟨rfl, ho⟩; replace HP := Lib.hid (HP.out.later ho); replace HO := Lib.hid (on_new HO.out ho); clear ho)
          | (go_at_call 13; (with_reducible refine (Held_b HP.out (s3 HK.out.1 HK.out.2 x y)).mono ?_); rintro e w9 ⟨⟨A9, n9, c9, u9, rfl, hv, hu⟩, ho⟩; have HR9 := Lib.hid hv.row; have HU9 := Lib.hid hu; replace HP := Lib.hid (HP.out.later ho); replace HO := Lib.hid (on_new HO.out ho); clear hv hu ho)
          | (go_at_call 11; (with_reducible refine (Has_b (b := false) HR9.out HU9.out (by decide) (h4_of HNA.out)).mono ?_); rintro e w10 ⟨rfl, ho⟩; replace HP := Lib.hid (HP.out.later ho); replace HO := Lib.hid (on_new HO.out ho); clear ho)
          | (go_at_call 11; (with_reducible refine (Has_b (b := false) HR7.out HU7.out (by decide) (f5_of HBB.out)).mono ?_); rintro e w12 ⟨rfl, ho⟩; replace HP := Lib.hid (HP.out.later ho); replace HO := Lib.hid (on_new HO.out ho); clear ho)
          | (go_at_call 11; (with_reducible refine (Has_b (b := true) HR9.out HU9.out (by decide) (h5_of HNB.out)).mono ?_); rintro e w14 ⟨rfl, ho⟩; replace HP := Lib.hid (HP.out.later ho); replace HO := Lib.hid (on_new HO.out ho); clear ho))
    go_ret
    exact ⟨rfl, HO.out⟩
  · have a1' : t ≤ x - 2 := by omega
    have a2' : t ≤ y := by omega
    have b1' : u ≤ x - 2 := by omega
    have b2' : u ≤ y := by omega
    have a1 : decide (t ≤ x - 2) = true := decide_eq_true a1'
    have a2 : decide (t ≤ y) = true := decide_eq_true a2'
    have b1 : decide (u ≤ x - 2) = true := decide_eq_true b1'
    have b2 : decide (u ≤ y) = true := decide_eq_true b2'
    have HA : Hid (TI true (t ≤ sM x y)) := Lib.hid (by unfold TI sM; simp <;> omega)
    have HBB : Hid (TI true (u ≤ sM x y)) := Lib.hid (by unfold TI sM; simp <;> omega)
    have HNA : Hid (TI false (sM x y < t)) := Lib.hid (by unfold TI sM; simp <;> omega)
    have HNB : Hid (TI false (sM x y < u)) := Lib.hid (by unfold TI sM; simp <;> omega)
    clear h0 h1 h3 h4 h5 h6 h7
    go_quiet (fail)
    replace HP := Lib.hid (HP.out.later ((Only.refl _ w4).drewN nq))
    replace HO := Lib.hid (HO.out.drewN nq)
    generalize hw5 : World.drewN w4 nq = w5 at HP HO ⊢
    clear hw5 r2 r3
    go_wp2_with (first
          | (go_at_call 7; (with_reducible refine (alive_c _).mono ?_); rintro e w6 ⟨rfl, ho⟩; replace HP := Lib.hid (HP.out.later ho); replace HO := Lib.hid (on_new HO.out ho); clear ho)
          | (go_at_call 12; (with_reducible refine (Free_b HP.out).mono ?_); rintro e w7 ⟨⟨A7, n7, c7, u7, rfl, hv, hu⟩, ho⟩; have HR7 := Lib.hid hv.row; have HU7 := Lib.hid hu; replace HP := Lib.hid (HP.out.later ho); replace HO := Lib.hid (on_new HO.out ho); clear hv hu ho)
          | (go_at_call 11; (with_reducible refine (Has_b (b := true) HR7.out HU7.out (by decide) (f3_of HA.out)).mono ?_); rintro e w8 ⟨rfl, ho⟩; replace HP := Lib.hid (HP.out.later ho); replace HO := Lib.hid (on_new HO.out ho); clear ho)
          | (go_at_call 13; (with_reducible refine (Held_b HP.out (s3 HK.out.1 HK.out.2 x y)).mono ?_); rintro e w9 ⟨⟨A9, n9, c9, u9, rfl, hv, hu⟩, ho⟩; have HR9 := Lib.hid hv.row; have HU9 := Lib.hid hu; replace HP := Lib.hid (HP.out.later ho); replace HO := Lib.hid (on_new HO.out ho); clear hv hu ho)
          | (go_at_call 11; (with_reducible refine (Has_b (b := false) HR9.out HU9.out (by decide) (h4_of HNA.out)).mono ?_); rintro e w10 ⟨rfl, ho⟩; replace HP := Lib.hid (HP.out.later ho); replace HO := Lib.hid (on_new HO.out ho); clear ho)
          | (go_at_call 11; (with_reducible refine (Has_b (b := true) HR7.out HU7.out (by decide) (f5_of HBB.out)).mono ?_); rintro e w12 ⟨rfl, ho⟩; replace HP := Lib.hid (HP.out.later ho); replace HO := Lib.hid (on_new HO.out ho); clear ho)
          | (go_at_call 11; (with_reducible refine (Has_b (b := false) HR9.out HU9.out (by decide) (h5_of HNB.out)).mono ?_); rintro e w14 ⟨rfl, ho⟩; replace HP := Lib.hid (HP.out.later ho); replace HO := Lib.hid (on_new HO.out ho); clear ho))
    go_ret
    exact ⟨rfl, HO.out⟩

end Go.Proofs.Ytmadlckladohbaa
