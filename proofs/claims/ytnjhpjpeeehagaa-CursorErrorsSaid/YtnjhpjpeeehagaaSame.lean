/-
  Same, by the program and by the document.
-/
import Derived.Test.YtnjhpjpeeehagaaOf
set_option linter.unusedVariables false
namespace Go.Proofs.Ytnjhpjpeeehagaa
open Go.RowKit

theorem rCompare_b (w : World) (v u : Value) (xs ys : Bytes) (q : Int) (h : Src w v xs) (h' : Src w u ys) (hq : cmp xs ys = q) : Calls Try.prog 29 #[v, u] w (Told w (.int .i64 q)) := by
  rw [← hq]; exact rCompare_c w v u xs ys h h'

section
variable (w : World) (A B A' B' : Option Addr) (n c m d n' c' m' d' : Nat) (s r s' r' : Int) (xs ys xs' ys' : Bytes)
set_option maxRecDepth 100000 in
set_option maxHeartbeats 3200000 in
theorem rSame_c (b : Bool) (h1 : Src w (.slice A n c) xs) (h2 : Src w (.slice B m d) ys) (h3 : Src w (.slice A' n' c') xs') (h4 : Src w (.slice B' m' d') ys') (hb : decide (xs = xs' ∧ ys = ys' ∧ s = s' ∧ r = r') = b) :
    Calls Try.prog 15 #[.agg #[.slice A n c, .slice B m d, .int .i64 s, .int .i64 r], .agg #[.slice A' n' c', .slice B' m' d', .int .i64 s', .int .i64 r']] w (Told w (.bool b)) := by
  have HO : Hid (Only (w.heap.size ≤ ·) w ((w.alloc (.cells #[.slice A n c, .slice B m d, .int .i64 s, .int .i64 r] 44)).alloc (.cells #[.slice A' n' c', .slice B' m' d', .int .i64 s', .int .i64 r'] 44))) := ((Only.refl _ w).alloc (fun _ h => h) _).alloc (fun _ h => h) _
  have HI : Hid (Blk ((w.alloc (.cells #[.slice A n c, .slice B m d, .int .i64 s, .int .i64 r] 44)).alloc (.cells #[.slice A' n' c', .slice B' m' d', .int .i64 s', .int .i64 r'] 44)) w.heap.size 44 [.slice A n c, .slice B m d, .int .i64 s, .int .i64 r]) := (Blk.new w 44 [.slice A n c, .slice B m d, .int .i64 s, .int .i64 r]).alloc _
  have HJ : Hid (Blk ((w.alloc (.cells #[.slice A n c, .slice B m d, .int .i64 s, .int .i64 r] 44)).alloc (.cells #[.slice A' n' c', .slice B' m' d', .int .i64 s', .int .i64 r'] 44)) (w.heap.size + 1) 44 [.slice A' n' c', .slice B' m' d', .int .i64 s', .int .i64 r']) := by
    have := Blk.new (w.alloc (.cells #[.slice A n c, .slice B m d, .int .i64 s, .int .i64 r] 44)) 44 [.slice A' n' c', .slice B' m' d', .int .i64 s', .int .i64 r']
    rwa [show (w.alloc (.cells #[.slice A n c, .slice B m d, .int .i64 s, .int .i64 r] 44)).heap.size = w.heap.size + 1 by simp] at this
  have H1 := Lib.hid (h1.later HO.out)
  have H2 := Lib.hid (h2.later HO.out)
  have H3 := Lib.hid (h3.later HO.out)
  have H4 := Lib.hid (h4.later HO.out)
  have HF := Lib.hid hb
  clear hb h1 h2 h3 h4
  by_cases e1 : xs = xs'
  · by_cases e2 : ys = ys'
    · by_cases e3 : s = s'
      · by_cases e4 : r = r'
        · obtain rfl : b = true := by rw [← HF.out, decide_eq_true_eq]; exact ⟨e1, e2, e3, e4⟩
          subst e3 e4
          have HE1 := Lib.hid ((cmp_zero xs xs').2 e1)
          have HE2 := Lib.hid ((cmp_zero ys ys').2 e2)
          clear e1 e2
          go_enter Try.func15, Try.ntmps15
          go_wp2_with (first
            | (go_at_call 29; (with_reducible refine (rCompare_b _ _ _ _ _ _ H1.out H3.out HE1.out).mono ?_); rintro e w1 ⟨rfl, ho⟩; (replace H1 := Lib.hid (H1.out.later ho)); (replace H2 := Lib.hid (H2.out.later ho)); (replace H3 := Lib.hid (H3.out.later ho)); (replace H4 := Lib.hid (H4.out.later ho)); (replace HI := Lib.hid (HI.out.later ho)); (obtain ⟨hi0, hi1, hi2, hi3⟩ := HI.out.four); (replace HJ := Lib.hid (HJ.out.later ho)); (obtain ⟨hj0, hj1, hj2, hj3⟩ := HJ.out.four); (replace HO := Lib.hid (on_new HO.out ho)); clear ho)
            | (go_at_call 29; (with_reducible refine (rCompare_b _ _ _ _ _ _ H2.out H4.out HE2.out).mono ?_); rintro e w2 ⟨rfl, ho⟩; (replace H1 := Lib.hid (H1.out.later ho)); (replace H2 := Lib.hid (H2.out.later ho)); (replace H3 := Lib.hid (H3.out.later ho)); (replace H4 := Lib.hid (H4.out.later ho)); (replace HI := Lib.hid (HI.out.later ho)); (obtain ⟨hi0, hi1, hi2, hi3⟩ := HI.out.four); (replace HJ := Lib.hid (HJ.out.later ho)); (obtain ⟨hj0, hj1, hj2, hj3⟩ := HJ.out.four); (replace HO := Lib.hid (on_new HO.out ho)); clear ho))
          go_ret
          exact ⟨rfl, HO.out⟩
        · obtain rfl : b = false := by rw [← HF.out, decide_eq_false_iff_not]; exact fun h => e4 h.2.2.2
          subst e3
          have z4 : (r == r') = false := by simpa using e4
          have HE1 := Lib.hid ((cmp_zero xs xs').2 e1)
          have HE2 := Lib.hid ((cmp_zero ys ys').2 e2)
          clear e1 e2
          go_enter Try.func15, Try.ntmps15
          go_wp2_with (first
            | (go_at_call 29; (with_reducible refine (rCompare_b _ _ _ _ _ _ H1.out H3.out HE1.out).mono ?_); rintro e w1 ⟨rfl, ho⟩; (replace H1 := Lib.hid (H1.out.later ho)); (replace H2 := Lib.hid (H2.out.later ho)); (replace H3 := Lib.hid (H3.out.later ho)); (replace H4 := Lib.hid (H4.out.later ho)); (replace HI := Lib.hid (HI.out.later ho)); (obtain ⟨hi0, hi1, hi2, hi3⟩ := HI.out.four); (replace HJ := Lib.hid (HJ.out.later ho)); (obtain ⟨hj0, hj1, hj2, hj3⟩ := HJ.out.four); (replace HO := Lib.hid (on_new HO.out ho)); clear ho)
            | (go_at_call 29; (with_reducible refine (rCompare_b _ _ _ _ _ _ H2.out H4.out HE2.out).mono ?_); rintro e w2 ⟨rfl, ho⟩; (replace H1 := Lib.hid (H1.out.later ho)); (replace H2 := Lib.hid (H2.out.later ho)); (replace H3 := Lib.hid (H3.out.later ho)); (replace H4 := Lib.hid (H4.out.later ho)); (replace HI := Lib.hid (HI.out.later ho)); (obtain ⟨hi0, hi1, hi2, hi3⟩ := HI.out.four); (replace HJ := Lib.hid (HJ.out.later ho)); (obtain ⟨hj0, hj1, hj2, hj3⟩ := HJ.out.four); (replace HO := Lib.hid (on_new HO.out ho)); clear ho))
          go_ret
          first | exact ⟨rfl, HO.out⟩ | exact ⟨congrArg (fun x => Ending.returned (.bool x)) z4, HO.out⟩
      · obtain rfl : b = false := by rw [← HF.out, decide_eq_false_iff_not]; exact fun h => e3 h.2.2.1
        have z3 : (s == s') = false := by simpa using e3
        have HE1 := Lib.hid ((cmp_zero xs xs').2 e1)
        have HE2 := Lib.hid ((cmp_zero ys ys').2 e2)
        clear e1 e2
        go_enter Try.func15, Try.ntmps15
        go_wp2_with (first
          | (go_at_call 29; (with_reducible refine (rCompare_b _ _ _ _ _ _ H1.out H3.out HE1.out).mono ?_); rintro e w1 ⟨rfl, ho⟩; (replace H1 := Lib.hid (H1.out.later ho)); (replace H2 := Lib.hid (H2.out.later ho)); (replace H3 := Lib.hid (H3.out.later ho)); (replace H4 := Lib.hid (H4.out.later ho)); (replace HI := Lib.hid (HI.out.later ho)); (obtain ⟨hi0, hi1, hi2, hi3⟩ := HI.out.four); (replace HJ := Lib.hid (HJ.out.later ho)); (obtain ⟨hj0, hj1, hj2, hj3⟩ := HJ.out.four); (replace HO := Lib.hid (on_new HO.out ho)); clear ho)
          | (go_at_call 29; (with_reducible refine (rCompare_b _ _ _ _ _ _ H2.out H4.out HE2.out).mono ?_); rintro e w2 ⟨rfl, ho⟩; (replace H1 := Lib.hid (H1.out.later ho)); (replace H2 := Lib.hid (H2.out.later ho)); (replace H3 := Lib.hid (H3.out.later ho)); (replace H4 := Lib.hid (H4.out.later ho)); (replace HI := Lib.hid (HI.out.later ho)); (obtain ⟨hi0, hi1, hi2, hi3⟩ := HI.out.four); (replace HJ := Lib.hid (HJ.out.later ho)); (obtain ⟨hj0, hj1, hj2, hj3⟩ := HJ.out.four); (replace HO := Lib.hid (on_new HO.out ho)); clear ho))
        go_ret
        exact ⟨rfl, HO.out⟩
    · obtain rfl : b = false := by rw [← HF.out, decide_eq_false_iff_not]; exact fun h => e2 h.2.1
      obtain ⟨q, hq⟩ : ∃ q, q = cmp ys ys' := ⟨_, rfl⟩
      have z2 : (q == 0) = false := by rw [hq]; simpa using fun h => e2 (cmp_eq_zero h)
      have HE1 := Lib.hid ((cmp_zero xs xs').2 e1)
      have HE2 := Lib.hid hq.symm
      clear hq
      clear e1
      go_enter Try.func15, Try.ntmps15
      go_wp2_with (first
        | (go_at_call 29; (with_reducible refine (rCompare_b _ _ _ _ _ _ H1.out H3.out HE1.out).mono ?_); rintro e w1 ⟨rfl, ho⟩; (replace H1 := Lib.hid (H1.out.later ho)); (replace H2 := Lib.hid (H2.out.later ho)); (replace H3 := Lib.hid (H3.out.later ho)); (replace H4 := Lib.hid (H4.out.later ho)); (replace HI := Lib.hid (HI.out.later ho)); (obtain ⟨hi0, hi1, hi2, hi3⟩ := HI.out.four); (replace HJ := Lib.hid (HJ.out.later ho)); (obtain ⟨hj0, hj1, hj2, hj3⟩ := HJ.out.four); (replace HO := Lib.hid (on_new HO.out ho)); clear ho)
        | (go_at_call 29; (with_reducible refine (rCompare_b _ _ _ _ _ _ H2.out H4.out HE2.out).mono ?_); rintro e w2 ⟨rfl, ho⟩; (replace H1 := Lib.hid (H1.out.later ho)); (replace H2 := Lib.hid (H2.out.later ho)); (replace H3 := Lib.hid (H3.out.later ho)); (replace H4 := Lib.hid (H4.out.later ho)); (replace HI := Lib.hid (HI.out.later ho)); (obtain ⟨hi0, hi1, hi2, hi3⟩ := HI.out.four); (replace HJ := Lib.hid (HJ.out.later ho)); (obtain ⟨hj0, hj1, hj2, hj3⟩ := HJ.out.four); (replace HO := Lib.hid (on_new HO.out ho)); clear ho))
      go_ret
      exact ⟨rfl, HO.out⟩
  · obtain rfl : b = false := by rw [← HF.out, decide_eq_false_iff_not]; exact fun h => e1 h.1
    obtain ⟨q, hq⟩ : ∃ q, q = cmp xs xs' := ⟨_, rfl⟩
    have z1 : (q == 0) = false := by rw [hq]; simpa using fun h => e1 (cmp_eq_zero h)
    have HE1 := Lib.hid hq.symm
    clear hq
    clear e1
    go_enter Try.func15, Try.ntmps15
    go_wp2_with (first
      | (go_at_call 29; (with_reducible refine (rCompare_b _ _ _ _ _ _ H1.out H3.out HE1.out).mono ?_); rintro e w1 ⟨rfl, ho⟩; (replace H1 := Lib.hid (H1.out.later ho)); (replace H2 := Lib.hid (H2.out.later ho)); (replace H3 := Lib.hid (H3.out.later ho)); (replace H4 := Lib.hid (H4.out.later ho)); (replace HI := Lib.hid (HI.out.later ho)); (obtain ⟨hi0, hi1, hi2, hi3⟩ := HI.out.four); (replace HJ := Lib.hid (HJ.out.later ho)); (obtain ⟨hj0, hj1, hj2, hj3⟩ := HJ.out.four); (replace HO := Lib.hid (on_new HO.out ho)); clear ho)
      | (go_at_call 29; (with_reducible refine (rCompare_b _ _ _ _ _ _ H2.out H4.out HE2.out).mono ?_); rintro e w2 ⟨rfl, ho⟩; (replace H1 := Lib.hid (H1.out.later ho)); (replace H2 := Lib.hid (H2.out.later ho)); (replace H3 := Lib.hid (H3.out.later ho)); (replace H4 := Lib.hid (H4.out.later ho)); (replace HI := Lib.hid (HI.out.later ho)); (obtain ⟨hi0, hi1, hi2, hi3⟩ := HI.out.four); (replace HJ := Lib.hid (HJ.out.later ho)); (obtain ⟨hj0, hj1, hj2, hj3⟩ := HJ.out.four); (replace HO := Lib.hid (on_new HO.out ho)); clear ho))
    go_ret
    exact ⟨rfl, HO.out⟩

end
end Go.Proofs.Ytnjhpjpeeehagaa
