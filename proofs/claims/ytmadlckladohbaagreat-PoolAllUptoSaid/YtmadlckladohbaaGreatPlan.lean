/-
  Sets of pages as right runs: plain lemmas on lists of two integers.
-/
import Derived.Test.YtmadlckladohbaaGreatRigt
set_option linter.unusedVariables false
namespace Go.Proofs.YtmadlckladohbaaGreat

/-- Is the page one of these runs'? -/
def inn (l : List R) (p : Int) : Bool := l.any fun x => decide (x.1 ≤ p ∧ p < x.1 + x.2)
def within (x : R) (p : Int) : Prop := x.1 ≤ p ∧ p < x.1 + x.2
theorem inn_nil (p : Int) : inn [] p = false := rfl
theorem inn_cons (x : R) (l : List R) (p : Int) : inn (x :: l) p = true ↔ within x p ∨ inn l p = true := by
  simp [inn, within]
theorem inn_append (l m : List R) (p : Int) : inn (l ++ m) p = true ↔ inn l p = true ∨ inn m p = true := by
  simp [inn]
theorem inn_iff (l : List R) (p : Int) : inn l p = true ↔ ∃ x ∈ l, within x p := by
  simp [inn, within]

theorem rightFrom_cons {o : Option R} {x : R} {l : List R} : rightFrom o (x :: l) = true ↔ may x = true ∧ gap o x = true ∧ rightFrom (some x) l = true := by
  simp [rightFrom, and_assoc]
theorem gap_some (q x : R) : gap (some q) x = true ↔ q.1 + q.2 < x.1 := by simp [gap]
theorem beyond {x : R} : ∀ {l : List R}, rightFrom (some x) l = true → ∀ {p}, inn l p = true → x.1 + x.2 < p
  | [], _, p, h => by simp [inn] at h
  | y :: l, hr, p, h => by
    obtain ⟨hm, hg, ht⟩ := rightFrom_cons.1 hr
    rw [gap_some] at hg
    rw [may_iff] at hm
    rcases (inn_cons _ _ _).1 h with h | h
    · unfold within at h; omega
    · have := beyond ht h; omega
theorem rightFrom_none {o : Option R} : ∀ {l : List R}, rightFrom o l = true → rightFrom none l = true
  | [], _ => rfl
  | x :: l, h => by
    obtain ⟨hm, hg, ht⟩ := rightFrom_cons.1 h
    exact rightFrom_cons.2 ⟨hm, rfl, ht⟩
theorem right_cons {x : R} {l : List R} : right (x :: l) = true ↔ may x = true ∧ rightFrom (some x) l = true := by
  unfold right
  rw [rightFrom_cons]
  simp [gap]
theorem right_tail {x : R} {l : List R} (h : right (x :: l) = true) : right l = true := rightFrom_none (right_cons.1 h).2
theorem right_may : ∀ {l : List R}, right l = true → ∀ x ∈ l, may x = true
  | [], _, x, hx => by simp at hx
  | y :: l, h, x, hx => by
    rcases List.mem_cons.1 hx with rfl | hx
    · exact (right_cons.1 h).1
    · exact right_may (right_tail h) x hx
theorem inn_lt {l : List R} (h : right l = true) {p : Int} (hp : inn l p = true) : 0 ≤ p ∧ p < 32768 := by
  obtain ⟨x, hx, h1, h2⟩ := (inn_iff _ _).1 hp
  have := (may_iff x).1 (right_may h x hx)
  omega

theorem right_unique : ∀ {u v : List R}, right u = true → right v = true → (∀ p, inn u p = true ↔ inn v p = true) → u = v
  | [], [], _, _, _ => rfl
  | [], y :: v, _, hv, h => by
    have hm := (may_iff y).1 (right_cons.1 hv).1
    have := (h y.1).2 ((inn_cons _ _ _).2 (.inl ⟨by omega, by omega⟩))
    simp [inn] at this
  | x :: u, [], hu, _, h => by
    have hm := (may_iff x).1 (right_cons.1 hu).1
    have := (h x.1).1 ((inn_cons _ _ _).2 (.inl ⟨by omega, by omega⟩))
    simp [inn] at this
  | x :: u, y :: v, hu, hv, h => by
    obtain ⟨hmx, hux⟩ := right_cons.1 hu
    obtain ⟨hmy, hvy⟩ := right_cons.1 hv
    rw [may_iff] at hmx hmy
    have e1 : x.1 = y.1 := by
      have h1 := (h x.1).1 ((inn_cons _ _ _).2 (.inl ⟨by omega, by omega⟩))
      have h2 := (h y.1).2 ((inn_cons _ _ _).2 (.inl ⟨by omega, by omega⟩))
      rcases (inn_cons _ _ _).1 h1 with h1 | h1 <;> rcases (inn_cons _ _ _).1 h2 with h2 | h2
      · unfold within at h1 h2; omega
      · have := beyond hux h2; unfold within at h1; omega
      · have := beyond hvy h1; unfold within at h2; omega
      · have := beyond hux h2; have := beyond hvy h1; omega
    have e2 : x.1 + x.2 = y.1 + y.2 := by
      rcases Int.lt_trichotomy (x.1 + x.2) (y.1 + y.2) with hlt | heq | hgt
      · have h2 := (h (x.1 + x.2)).2 ((inn_cons _ _ _).2 (.inl ⟨by omega, by omega⟩))
        rcases (inn_cons _ _ _).1 h2 with h2 | h2
        · unfold within at h2; omega
        · have := beyond hux h2; omega
      · exact heq
      · have h2 := (h (y.1 + y.2)).1 ((inn_cons _ _ _).2 (.inl ⟨by omega, by omega⟩))
        rcases (inn_cons _ _ _).1 h2 with h2 | h2
        · unfold within at h2; omega
        · have := beyond hvy h2; omega
    obtain ⟨x1, x2⟩ := x
    obtain ⟨y1, y2⟩ := y
    simp only at e1 e2
    obtain rfl : x1 = y1 := e1
    obtain rfl : x2 = y2 := by omega
    rw [right_unique (right_tail hu) (right_tail hv) fun p => ?_]
    constructor
    · intro hp
      have hb := beyond hux hp
      rcases (inn_cons _ _ _).1 ((h p).1 ((inn_cons _ _ _).2 (.inr hp))) with h2 | h2
      · unfold within at h2; simp only at h2 hb; omega
      · exact h2
    · intro hp
      have hb := beyond hvy hp
      rcases (inn_cons _ _ _).1 ((h p).2 ((inn_cons _ _ _).2 (.inr hp))) with h2 | h2
      · unfold within at h2; simp only at h2 hb; omega
      · exact h2

/-- Right runs of just these pages. -/
def IsRow (u : List R) (S : Int → Prop) : Prop := right u = true ∧ ∀ p, inn u p = true ↔ S p
theorem IsRow.eq {u v : List R} {S : Int → Prop} (h : IsRow u S) (k : IsRow v S) : u = v := right_unique h.1 k.1 fun p => (h.2 p).trans (k.2 p).symm
theorem IsRow.congr {u : List R} {S T : Int → Prop} (h : IsRow u S) (k : ∀ p, S p ↔ T p) : IsRow u T := ⟨h.1, fun p => (h.2 p).trans (k p)⟩
/-- What is known of a row. -/
def known (l : List R) : List R := if right l = true then l else []
theorem known_right (l : List R) : right (known l) = true := by
  unfold known
  split
  · assumption
  · rfl
def Mem (l : List R) (p : Int) : Prop := inn (known l) p = true
theorem known_isRow (l : List R) : IsRow (known l) (Mem l) := ⟨known_right l, fun p => Iff.rfl⟩

/-- A snoc of right runs. -/
theorem rightFrom_snoc {x : R} : ∀ {l : List R} {o : Option R}, rightFrom o (l ++ [x]) = true ↔ rightFrom o l = true ∧ may x = true ∧ gap (l.getLast?.or o) x = true
  | [], o => by simp [rightFrom]
  | [y], o => by
    have := rightFrom_snoc (x := x) (l := []) (o := some y)
    simp only [List.nil_append] at this
    rw [List.singleton_append, rightFrom_cons, this, rightFrom_cons]
    simp [rightFrom]
    constructor
    · rintro ⟨a, b, c, d⟩; exact ⟨⟨a, b⟩, c, d⟩
    · rintro ⟨⟨a, b⟩, c, d⟩; exact ⟨a, b, c, d⟩
  | y :: z :: l, o => by
    have := rightFrom_snoc (x := x) (l := z :: l) (o := some y)
    rw [List.cons_append, rightFrom_cons, this, rightFrom_cons (l := z :: l)]
    have e : (y :: z :: l).getLast? = (z :: l).getLast? := by simp [List.getLast?_cons_cons]
    rw [e]
    have : ((z :: l).getLast?.or (some y)) = (z :: l).getLast?.or o := by
      rw [List.getLast?_eq_some_getLast (by simp)]; rfl
    rw [this]
    constructor
    · rintro ⟨a, b, c, d, e⟩; exact ⟨⟨a, b, c⟩, d, e⟩
    · rintro ⟨⟨a, b, c⟩, d, e⟩; exact ⟨a, b, c, d, e⟩
theorem right_snoc {x : R} {l : List R} : right (l ++ [x]) = true ↔ right l = true ∧ may x = true ∧ gap l.getLast? x = true := by
  unfold right
  rw [rightFrom_snoc]
  simp
theorem snoc_of {l : List R} {r : R} (h : l.getLast? = some r) : l = l.dropLast ++ [r] := by
  obtain ⟨a, rfl⟩ := List.getLast?_eq_some_iff.1 h
  simp
theorem last_ge {l : List R} (h : right l = true) {r : R} (hr : l.getLast? = some r) {p : Int} (hp : inn l p = true) : p < r.1 + r.2 := by
  induction l with
  | nil => simp at hr
  | cons x l ih =>
    cases l with
    | nil =>
      simp at hr
      subst hr
      rcases (inn_cons _ _ _).1 hp with h1 | h1
      · exact h1.2
      · simp [inn] at h1
    | cons y l =>
      have hr' : (y :: l).getLast? = some r := by rwa [List.getLast?_cons_cons] at hr
      rcases (inn_cons _ _ _).1 hp with h1 | h1
      · have h2 := beyond (right_cons.1 h).2 (p := r.1) ((inn_iff _ _).2 ⟨r, List.mem_of_getLast? hr', by
          have := (may_iff r).1 (right_may h r (List.mem_of_getLast? hr))
          unfold within; omega⟩)
        have := (may_iff r).1 (right_may h r (List.mem_of_getLast? hr))
        unfold within at h1; omega
      · exact ih (right_tail h) hr' h1

/-- lay. -/
def lay (l : List R) (x : R) : List R :=
  match l.getLast? with
  | none => l ++ [x]
  | some r => if r.1 + r.2 < x.1 then l ++ [x] else l.dropLast ++ [(r.1, max (r.1 + r.2) (x.1 + x.2) - r.1)]
theorem lay_right {l : List R} {x : R} (h : right l = true) (hx : may x = true) (ho : ∀ r, l.getLast? = some r → r.1 ≤ x.1) :
    right (lay l x) = true ∧ (∀ p, inn (lay l x) p = true ↔ inn l p = true ∨ within x p) ∧ (∀ r, (lay l x).getLast? = some r → r.1 ≤ x.1) := by
  have hmx := (may_iff x).1 hx
  unfold lay
  cases hl : l.getLast? with
  | none =>
    refine ⟨right_snoc.2 ⟨h, hx, by rw [hl]; rfl⟩, fun p => ?_, fun r hr => ?_⟩
    · rw [inn_append, inn_cons]; simp [inn]
    · simp at hr; subst hr; omega
  | some r =>
    have hr := ho r hl
    have hmr := (may_iff r).1 (right_may h r (List.mem_of_getLast? hl))
    by_cases hc : r.1 + r.2 < x.1
    · simp only [hc, if_true]
      refine ⟨right_snoc.2 ⟨h, hx, by rw [hl, gap_some]; exact hc⟩, fun p => ?_, fun r' hr' => ?_⟩
      · rw [inn_append, inn_cons]; simp [inn]
      · simp at hr'; subst hr'; omega
    · simp only [hc, if_false]
      have hs := snoc_of hl
      rw [hs] at h
      obtain ⟨h1, h2, h3⟩ := right_snoc.1 h
      refine ⟨right_snoc.2 ⟨h1, (may_iff _).2 ⟨by simp only; omega, by simp only; omega, by simp only; omega⟩, ?_⟩, fun p => ?_, fun r' hr' => ?_⟩
      · cases hd : l.dropLast.getLast? with
        | none => rfl
        | some q => rw [hd, gap_some] at h3; rw [gap_some]; exact h3
      · conv => rhs; rw [hs]
        rw [inn_append, inn_append, inn_cons, inn_cons]
        simp only [inn_nil, within, Bool.false_eq_true, or_false]
        constructor
        · rintro (h | h)
          · exact .inl (.inl h)
          · by_cases hp : p < r.1 + r.2
            · exact .inl (.inr ⟨by omega, hp⟩)
            · exact .inr ⟨by omega, by omega⟩
        · rintro ((h | h) | h)
          · exact .inl h
          · exact .inr ⟨h.1, by omega⟩
          · exact .inr ⟨by omega, by omega⟩
      · simp at hr'; subst hr'; exact hr
end Go.Proofs.YtmadlckladohbaaGreat
