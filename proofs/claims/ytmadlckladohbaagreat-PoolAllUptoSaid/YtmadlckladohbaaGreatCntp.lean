/-
  How many pages: counting over a range of numbers; the pages of a right row, in order; where a row ends.
-/
import Derived.Test.YtmadlckladohbaaGreatPst
import Derived.Test.YtmadlckladohbaaGreatPags
set_option linter.unusedVariables false
namespace Go.Proofs.YtmadlckladohbaaGreat
open Go.RowKit

theorem countP_or {α : Type} (f g : α → Bool) (l : List α) : l.countP (fun q => f q || g q) + l.countP (fun q => f q && g q) = l.countP f + l.countP g := by
  induction l with
  | nil => rfl
  | cons x l ih =>
    simp only [List.countP_cons]
    cases f x <;> cases g x <;> simp <;> omega
theorem countP_eq_zero_of {α : Type} {f : α → Bool} {l : List α} (h : ∀ x ∈ l, f x = false) : l.countP f = 0 := by
  rw [List.countP_eq_zero]
  intro x hx
  rw [h x hx]; simp
theorem countP_at (P : Nat → Bool) (c : Nat) : ∀ N, c < N → (List.range N).countP (fun q => decide (q = c) && P q) = if P c = true then 1 else 0
  | 0, h => by omega
  | N + 1, h => by
    rw [List.range_succ, List.countP_append, List.countP_singleton]
    rcases (by omega : c < N ∨ c = N) with h' | rfl
    · rw [countP_at P c N h', decide_eq_false (by omega)]; simp
    · rw [countP_eq_zero_of (fun x hx => by rw [List.mem_range] at hx; rw [decide_eq_false (by omega)]; rfl)]
      simp
/-- The pages of one run that a property has. -/
theorem countP_run (P : Int → Bool) (a N : Nat) : ∀ n : Nat, a + n ≤ N → (runPages ((a : Int), 0) n).countP P = (List.range N).countP (fun q => decide (a ≤ q ∧ q < a + n) && P q)
  | 0, h => by
    rw [countP_eq_zero_of (l := List.range N) (fun x _ => by rw [decide_eq_false (by omega)]; rfl)]
    rfl
  | n + 1, h => by
    have ih := countP_run P a N n (by omega)
    rw [runPages_succ, List.countP_append, ih, List.countP_singleton]
    have e : (fun q : Nat => decide (a ≤ q ∧ q < a + (n + 1)) && P q) = fun q : Nat => (decide (a ≤ q ∧ q < a + n) && P q) || (decide (q = a + n) && P q) := by
      funext q
      rw [← Bool.and_or_distrib_right]
      congr 1
      rw [Bool.eq_iff_iff]
      simp
      omega
    have ho := countP_or (fun q : Nat => decide (a ≤ q ∧ q < a + n) && P q) (fun q : Nat => decide (q = a + n) && P q) (List.range N)
    have hz : (List.range N).countP (fun q : Nat => (decide (a ≤ q ∧ q < a + n) && P q) && (decide (q = a + n) && P q)) = 0 := countP_eq_zero_of fun q _ => by
      by_cases h : q = a + n
      · rw [decide_eq_false (p := a ≤ q ∧ q < a + n) (by omega)]; rfl
      · rw [decide_eq_false (p := q = a + n) h]; simp
    rw [hz, countP_at (fun q => P q) (a + n) N (by omega)] at ho
    rw [e]
    have e2 : ((a : Int), (0 : Int)).1 + (n : Int) = ((a + n : Nat) : Int) := by simp
    rw [e2]
    omega
theorem runPages_fst (r : R) (b : Int) (n : Nat) : runPages r n = runPages (r.1, b) n := rfl
theorem pagesOf_cons (x : R) (l : List R) : pagesOf (x :: l) = runPages x x.2.toNat ++ pagesOf l := rfl
set_option maxRecDepth 100000 in
theorem pages_countP (P : Int → Bool) : ∀ {u : List R}, right u = true → (pagesOf u).countP P = (List.range 32768).countP (fun q : Nat => inn u q && P q)
  | [], _ => by
    rw [countP_eq_zero_of (f := fun q : Nat => inn [] q && P q) (l := List.range 32768) (fun x _ => rfl)]; rfl
  | x :: l, h => by
    have hx := (may_iff x).1 (right_cons.1 h).1
    have ih := pages_countP P (right_tail h)
    obtain ⟨a, ha⟩ : ∃ a : Nat, x.1 = a := ⟨x.1.toNat, by omega⟩
    have h1 := countP_run P a 32768 x.2.toNat (by omega)
    rw [pagesOf_cons, List.countP_append, ih, runPages_fst x 0, ha, h1]
    have ho := countP_or (fun q : Nat => decide (a ≤ q ∧ q < a + x.2.toNat) && P q) (fun q : Nat => inn l q && P q) (List.range 32768)
    have hz : (List.range 32768).countP (fun q : Nat => (decide (a ≤ q ∧ q < a + x.2.toNat) && P q) && (inn l q && P q)) = 0 := countP_eq_zero_of fun q _ => by
      by_cases hq : inn l q = true
      · have := beyond (right_cons.1 h).2 hq
        rw [decide_eq_false (p := a ≤ q ∧ q < a + x.2.toNat) (by omega)]; rfl
      · rw [show inn l q = false by simpa using hq]; simp
    rw [hz] at ho
    have e : (fun q : Nat => inn (x :: l) q && P q) = fun q : Nat => (decide (a ≤ q ∧ q < a + x.2.toNat) && P q) || (inn l q && P q) := by
      funext q
      rw [← Bool.and_or_distrib_right]
      congr 1
      rw [Bool.eq_iff_iff, inn_cons, Bool.or_eq_true, decide_eq_true_iff]
      unfold within
      constructor
      · rintro (h | h)
        · exact .inl (by omega)
        · exact .inr h
      · rintro (h | h)
        · exact .inl (by omega)
        · exact .inr h
    rw [e]
    omega
theorem runPages_length (r : R) (n : Nat) : (runPages r n).length = n := by simp [runPages]
theorem pages_length : ∀ {u : List R}, right u = true → ((pagesOf u).length : Int) = cnt u
  | [], _ => rfl
  | x :: l, h => by
    have hx := (may_iff x).1 (right_cons.1 h).1
    have ih := pages_length (right_tail h)
    rw [pagesOf_cons, List.length_append, runPages_length]
    show _ = x.2 + cnt l
    omega
/-- How many pages: counted over a range. -/
def card (u : List R) : Nat := (List.range 32768).countP fun q : Nat => inn u q
theorem cnt_card {u : List R} (h : right u = true) : cnt u = card u := by
  have := pages_countP (fun _ => true) h
  rw [List.countP_true] at this
  rw [← pages_length h, this]
  unfold card
  simp
theorem mem_runPages (r : R) (n : Nat) (p : Int) : p ∈ runPages r n ↔ r.1 ≤ p ∧ p < r.1 + n := by
  unfold runPages
  rw [List.mem_map]
  constructor
  · rintro ⟨k, hk, rfl⟩
    rw [List.mem_range] at hk
    omega
  · intro h
    exact ⟨(p - r.1).toNat, by rw [List.mem_range]; omega, by omega⟩
theorem mem_pagesOf {u : List R} (h : right u = true) (p : Int) : p ∈ pagesOf u ↔ inn u p = true := by
  unfold pagesOf
  rw [List.mem_flatMap, inn_iff]
  constructor
  · rintro ⟨r, hr, hp⟩
    rw [mem_runPages] at hp
    have := (may_iff r).1 (right_may h r hr)
    exact ⟨r, hr, by unfold within; omega⟩
  · rintro ⟨r, hr, hp⟩
    have := (may_iff r).1 (right_may h r hr)
    unfold within at hp
    exact ⟨r, hr, by rw [mem_runPages]; omega⟩
theorem runPages_rise (r : R) : ∀ n, (runPages r n).Pairwise (· < ·)
  | 0 => by simp [runPages]
  | n + 1 => by
    rw [runPages_succ, List.pairwise_append]
    exact ⟨runPages_rise r n, List.pairwise_singleton _ _, fun p hp q hq => by
      rw [mem_runPages] at hp; rw [List.mem_singleton] at hq; omega⟩
theorem pages_rise : ∀ {u : List R}, right u = true → (pagesOf u).Pairwise (· < ·)
  | [], _ => List.Pairwise.nil
  | x :: l, h => by
    have hx := (may_iff x).1 (right_cons.1 h).1
    rw [pagesOf_cons, List.pairwise_append]
    exact ⟨runPages_rise _ _, pages_rise (right_tail h), fun p hp q hq => by
      rw [mem_runPages] at hp
      rw [mem_pagesOf (right_tail h)] at hq
      have := beyond (right_cons.1 h).2 hq
      omega⟩
theorem rise_unique : ∀ {l m : List Int}, l.Pairwise (· < ·) → m.Pairwise (· < ·) → (∀ p, p ∈ l ↔ p ∈ m) → l = m
  | [], [], _, _, _ => rfl
  | [], y :: m, _, _, h => by have := (h y).2 (by simp); simp at this
  | x :: l, [], _, _, h => by have := (h x).1 (by simp); simp at this
  | x :: l, y :: m, hl, hm, h => by
    rw [List.pairwise_cons] at hl hm
    have hxy : x = y := by
      have h1 := (h x).1 (by simp)
      have h2 := (h y).2 (by simp)
      rw [List.mem_cons] at h1 h2
      rcases h1 with h1 | h1
      · exact h1
      · rcases h2 with h2 | h2
        · exact h2.symm
        · have := hm.1 x h1; have := hl.1 y h2; omega
    subst hxy
    rw [rise_unique hl.2 hm.2 fun p => ?_]
    constructor
    · intro hp
      have := (h p).1 (List.mem_cons_of_mem _ hp)
      rw [List.mem_cons] at this
      rcases this with rfl | h'
      · have := hl.1 p hp; omega
      · exact h'
    · intro hp
      have := (h p).2 (List.mem_cons_of_mem _ hp)
      rw [List.mem_cons] at this
      rcases this with rfl | h'
      · have := hm.1 p hp; omega
      · exact h'
/-- Where a right row ends. -/
theorem lastOf_inn {u : List R} (h : right u = true) (hn : u ≠ []) : inn u (endOf u - 1) = true ∧ 1 ≤ endOf u ∧ endOf u ≤ 32768 ∧ ∀ p, inn u p = true → p < endOf u := by
  obtain ⟨r, hr⟩ : ∃ r, u.getLast? = some r := ⟨u.getLast hn, List.getLast?_eq_some_getLast hn⟩
  have hl : lastOf u = r := lastOf_some hr
  have hm : r ∈ u := List.mem_of_getLast? hr
  have hx := (may_iff r).1 (right_may h r hm)
  unfold endOf
  rw [hl]
  exact ⟨(inn_iff _ _).2 ⟨r, hm, by unfold within; omega⟩, by omega, by omega, fun p hp => last_ge h hr hp⟩
theorem endOf_nil : endOf [] = 0 := rfl
/-- A row's end is told by its pages. -/
theorem endOf_eq {u : List R} (h : right u = true) {e : Int} (h0 : 0 ≤ e) (hb : ∀ p, inn u p = true → p < e) (ha : 0 < e → inn u (e - 1) = true) : endOf u = e := by
  by_cases hn : u = []
  · subst hn
    rw [endOf_nil]
    by_cases he : 0 < e
    · have := ha he; simp [inn] at this
    · omega
  · obtain ⟨h1, h2, h3, h4⟩ := lastOf_inn h hn
    have := hb _ h1
    have := h4 _ (ha (by omega))
    omega
theorem endOf_facts {u : List R} (h : right u = true) : 0 ≤ endOf u ∧ endOf u ≤ 32768 ∧ (∀ p, inn u p = true → p < endOf u) ∧ (0 < endOf u → inn u (endOf u - 1) = true) := by
  by_cases hn : u = []
  · subst hn
    rw [endOf_nil]
    exact ⟨by omega, by omega, fun p hp => by simp [inn] at hp, fun h => absurd h (by decide)⟩
  · obtain ⟨h1, h2, h3, h4⟩ := lastOf_inn h hn
    exact ⟨by omega, h3, h4, fun _ => h1⟩
theorem endOf_union {u a b : List R} (hu : right u = true) (ha : right a = true) (hb : right b = true) (h : ∀ p, inn u p = true ↔ inn a p = true ∨ inn b p = true) : endOf u = max (endOf a) (endOf b) := by
  obtain ⟨a1, a2, a3, a4⟩ := endOf_facts ha
  obtain ⟨b1, b2, b3, b4⟩ := endOf_facts hb
  refine endOf_eq hu (by omega) (fun p hp => ?_) (fun he => ?_)
  · rcases (h p).1 hp with h' | h'
    · have := a3 p h'; omega
    · have := b3 p h'; omega
  · rw [h]
    rcases Int.le_total (endOf a) (endOf b) with hle | hle
    · exact .inr (by rw [Int.max_eq_right hle] at he ⊢; exact b4 he)
    · exact .inl (by rw [Int.max_eq_left hle] at he ⊢; exact a4 he)
theorem card_union {u a b : List R} (h : ∀ p, inn u p = true ↔ inn a p = true ∨ inn b p = true) : card a + card b = card u + (List.range 32768).countP (fun q : Nat => inn a q && inn b q) := by
  have ho := countP_or (fun q : Nat => inn a q) (fun q : Nat => inn b q) (List.range 32768)
  have e : (fun q : Nat => inn a q || inn b q) = fun q : Nat => inn u q := by
    funext q
    rw [Bool.eq_iff_iff, Bool.or_eq_true, h]
  rw [e] at ho
  unfold card
  omega
theorem card_one {x : R} (h : may x = true) : (card [x] : Int) = x.2 := by
  rw [← cnt_card (single_right h)]
  simp [cnt]
theorem cnt_apart {u a : List R} {x : R} (hu : right u = true) (ha : right a = true) (hx : may x = true) (h : ∀ p, inn u p = true ↔ inn a p = true ∨ within x p) (hd : ∀ p, inn a p = true → ¬ within x p) : cnt u = cnt a + x.2 := by
  have h1 := card_union (u := u) (a := a) (b := [x]) fun p => (h p).trans (by rw [single_inn])
  have h2 := card_one hx
  rw [countP_eq_zero_of (fun q _ => by
    cases hq : inn a q with
    | false => rfl
    | true =>
      have : inn [x] q = false := by
        rw [Bool.eq_false_iff]; intro hh; exact hd q hq ((single_inn x q).1 hh)
      rw [this]; rfl)] at h1
  rw [cnt_card hu, cnt_card ha]
  omega
end Go.Proofs.YtmadlckladohbaaGreat
