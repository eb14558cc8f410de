/-
  A run is cut out of right runs: plain.
-/
import Derived.Test.YtmadlckladohbaaGreatCut
set_option linter.unusedVariables false
namespace Go.Proofs.YtmadlckladohbaaGreat

theorem rightFrom_weak {o : Option R} {r : R} {s : R} : ∀ {b : List R}, rightFrom (some r) b = true → s.1 + s.2 ≤ r.1 + r.2 → rightFrom (some s) b = true
  | [], _, _ => rfl
  | y :: b, h, hs => by
    obtain ⟨h1, h2, h3⟩ := rightFrom_cons.1 h
    rw [gap_some] at h2
    exact rightFrom_cons.2 ⟨h1, (gap_some _ _).2 (by omega), h3⟩
theorem rightFrom_skip {o : Option R} {r : R} {b : List R} (h : rightFrom o (r :: b) = true) : rightFrom o b = true := by
  obtain ⟨h1, h2, h3⟩ := rightFrom_cons.1 h
  have hm := (may_iff r).1 h1
  cases b with
  | nil => rfl
  | cons y b =>
    obtain ⟨k1, k2, k3⟩ := rightFrom_cons.1 h3
    refine rightFrom_cons.2 ⟨k1, ?_, k3⟩
    cases o with
    | none => rfl
    | some q => rw [gap_some] at h2 k2 ⊢; omega
theorem gap_in {o : Option R} {r s : R} (h : gap o r = true) (hs : r.1 ≤ s.1) : gap o s = true := by
  cases o with
  | none => rfl
  | some q => rw [gap_some] at h ⊢; omega
theorem rightFrom_in {b c : List R} {r : R} (hc : ∀ o, rightFrom o (r :: b) = true → rightFrom o (c ++ b) = true) : ∀ {a : List R} {o : Option R}, rightFrom o (a ++ r :: b) = true → rightFrom o (a ++ (c ++ b)) = true
  | [], o, h => hc o h
  | y :: a, o, h => by
    rw [List.cons_append] at h ⊢
    obtain ⟨h1, h2, h3⟩ := rightFrom_cons.1 h
    exact rightFrom_cons.2 ⟨h1, h2, rightFrom_in hc h3⟩
theorem ahead_of {r : R} {b : List R} : ∀ {a : List R} {o : Option R}, rightFrom o (a ++ r :: b) = true → ∀ {p}, inn a p = true → p < r.1
  | [], o, _, p, h => by simp [inn] at h
  | y :: a, o, h, p, hp => by
    rw [List.cons_append] at h
    obtain ⟨h1, h2, h3⟩ := rightFrom_cons.1 h
    rcases (inn_cons _ _ _).1 hp with hp | hp
    · have hr : inn (a ++ r :: b) r.1 = true := by
        rw [inn_append, inn_cons]
        refine .inr (.inl ⟨Int.le_refl _, ?_⟩)
        have := (may_iff r).1 (right_may (rightFrom_none h3) r (by simp))
        omega
      have := beyond h3 hr
      unfold within at hp
      omega
    · exact ahead_of h3 hp

theorem cutOf_inn {r x : R} (hx : may x = true) (hw : whole r x = true) (p : Int) : inn (cutOf r x) p = true ↔ within r p ∧ ¬ within x p := by
  obtain ⟨r1, r2⟩ := r
  obtain ⟨x1, x2⟩ := x
  have hm := (may_iff _).1 hx
  have hw' := (whole_iff _ _).1 hw
  simp only at hm hw'
  unfold cutOf
  split
  · rename_i h; simp only at h; rw [inn_nil]; unfold within; simp only; constructor
    · intro h; cases h
    · intro h; omega
  · rename_i h; simp only at h
    split
    · rename_i h1; simp only at h1; rw [inn_cons, inn_nil]; unfold within; simp only [Bool.false_eq_true, or_false]; omega
    · rename_i h1; simp only at h1
      split
      · rename_i h2; simp only at h2; rw [inn_cons, inn_nil]; unfold within; simp only [Bool.false_eq_true, or_false]; omega
      · rename_i h2; simp only at h2; rw [inn_cons, inn_cons, inn_nil]; unfold within; simp only [Bool.false_eq_true, or_false]; omega
theorem cutOf_right {r x : R} {b : List R} (hx : may x = true) (hw : whole r x = true) (o : Option R) (h : rightFrom o (r :: b) = true) : rightFrom o (cutOf r x ++ b) = true := by
  obtain ⟨h1, h2, h3⟩ := rightFrom_cons.1 h
  have hr := (may_iff r).1 h1
  have hm := (may_iff x).1 hx
  have hw' := (whole_iff _ _).1 hw
  unfold cutOf
  split
  · exact rightFrom_skip h
  · rename_i hn
    split
    · rename_i he
      exact rightFrom_cons.2 ⟨(may_iff _).2 ⟨by simp only; omega, by simp only; omega, by simp only; omega⟩, gap_in h2 (by simp only; omega), rightFrom_weak (o := o) h3 (by simp only; omega)⟩
    · rename_i he
      split
      · exact rightFrom_cons.2 ⟨(may_iff _).2 ⟨by simp only; omega, by simp only; omega, by simp only; omega⟩, gap_in h2 (by simp only; omega), rightFrom_weak (o := o) h3 (by simp only; omega)⟩
      · refine rightFrom_cons.2 ⟨(may_iff _).2 ⟨by simp only; omega, by simp only; omega, by simp only; omega⟩, gap_in h2 (by simp only; omega), rightFrom_cons.2 ⟨(may_iff _).2 ⟨by simp only; omega, by simp only; omega, by simp only; omega⟩, (gap_some _ _).2 (by simp only; omega), rightFrom_weak (o := o) h3 (by simp only; omega)⟩⟩

/-- What is left of right runs without x, a piece of one of them. -/
theorem drop_row {K : List R} {k : Nat} {r x : R} (hK : right K = true) (hk : K[k]? = some r) (hx : may x = true) (hw : whole r x = true) :
    IsRow (K.take k ++ cutOf r x ++ K.drop (k + 1)) (fun p => inn K p = true ∧ ¬ within x p) := by
  have hs : K = K.take k ++ r :: K.drop (k + 1) := by rw [← drop_at hk, List.take_append_drop]
  have hK' := hK
  rw [hs] at hK'
  have hw' := (whole_iff _ _).1 hw
  refine ⟨?_, fun p => ?_⟩
  · rw [List.append_assoc]
    exact rightFrom_in (cutOf_right hx hw) hK'
  · show _ ↔ (inn K p = true ∧ ¬ within x p)
    conv => rhs; rw [hs]
    rw [inn_append, inn_append, inn_append, inn_cons, cutOf_inn hx hw]
    have ha : inn (K.take k) p = true → p < r.1 := fun h => ahead_of hK' h
    have hb : inn (K.drop (k + 1)) p = true → r.1 + r.2 < p := fun h => by
      have : ∀ {a : List R} {o : Option R}, rightFrom o (a ++ r :: K.drop (k + 1)) = true → rightFrom (some r) (K.drop (k + 1)) = true := by
        intro a
        induction a with
        | nil => intro o h; exact (rightFrom_cons.1 h).2.2
        | cons y a ih => intro o h; rw [List.cons_append] at h; exact ih (rightFrom_cons.1 h).2.2
      exact beyond (this hK') h
    unfold within
    constructor
    · rintro ((h | h) | h)
      · have := ha h; exact ⟨.inl h, by omega⟩
      · exact ⟨.inr (.inl h.1), h.2⟩
      · have := hb h; exact ⟨.inr (.inr h), by omega⟩
    · rintro ⟨h | h | h, hn⟩
      · exact .inl (.inl h)
      · exact .inl (.inr ⟨h, hn⟩)
      · exact .inr h
theorem not_end {K : List R} (hK : right K = true) {r : R} (hr : r ∈ K) : inn K (r.1 + r.2) = false := by
  induction K with
  | nil => simp at hr
  | cons y K ih =>
    obtain ⟨h1, h2⟩ := right_cons.1 hK
    have hy := (may_iff y).1 h1
    rw [← Bool.not_eq_true]
    intro hin
    rcases List.mem_cons.1 hr with rfl | hr
    · rcases (inn_cons _ _ _).1 hin with h | h
      · unfold within at h; omega
      · have := beyond h2 h; omega
    · have hrm := (may_iff r).1 (right_may (right_tail hK) r hr)
      have hb := beyond h2 (p := r.1) ((inn_iff _ _).2 ⟨r, hr, by unfold within; omega⟩)
      rcases (inn_cons _ _ _).1 hin with h | h
      · unfold within at h; omega
      · rw [ih (right_tail hK) hr] at h; cases h
/-- All of x's pages are there just if one run has all. -/
theorem all_whole {K : List R} (hK : right K = true) {x : R} (hx : may x = true) : (∀ p, within x p → inn K p = true) ↔ ∃ r ∈ K, whole r x = true := by
  have hm := (may_iff x).1 hx
  constructor
  · intro h
    obtain ⟨r, hr, h1, h2⟩ := (inn_iff _ _).1 (h x.1 ⟨Int.le_refl _, by omega⟩)
    refine ⟨r, hr, (whole_iff _ _).2 ⟨h1, ?_⟩⟩
    rcases Int.lt_or_le (r.1 + r.2) (x.1 + x.2) with hlt | hge
    · have := h (r.1 + r.2) ⟨by omega, hlt⟩
      rw [not_end hK hr] at this
      cases this
    · exact hge
  · rintro ⟨r, hr, hw⟩ p hp
    have := (whole_iff _ _).1 hw
    exact (inn_iff _ _).2 ⟨r, hr, by unfold within at hp ⊢; omega⟩
end Go.Proofs.YtmadlckladohbaaGreat
