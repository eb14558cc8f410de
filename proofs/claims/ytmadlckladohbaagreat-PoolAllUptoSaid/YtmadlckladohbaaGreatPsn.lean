/-
  A pool: whatever a call answers, it is a pool; a pool made of a pool's state.
-/
import Derived.Test.YtmadlckladohbaaGreatPlw
import Derived.Test.YtmadlckladohbaaGreatPsa
set_option linter.unusedVariables false
namespace Go.Proofs.YtmadlckladohbaaGreat
open Go.RowKit Go.Shelf

/-- Whatever it answers: the pool is a pool, of the same limit. -/
def AnyP (w : World) (pb mb n : Nat) (S : PS) (e : Ending) (w' : World) : Prop := ∃ v S' n', e = .returned v ∧ n' ≤ n + 1 ∧ At w' pb mb n' S' ∧ S'.Ok ∧ S'.limit = S.limit ∧ Touch pb mb w w'
section
variable {w : World} {pb mb n : Nat} {S : PS}
theorem AnyP.same {v : Value} {e : Ending} {w' : World} (h : At w pb mb n S) (hok : S.Ok) (he : e = .returned v) (ho : Only (w.heap.size ≤ ·) w w') : AnyP w pb mb n S e w' := ⟨v, S, n, he, Nat.le_succ _, h.later ho, hok, rfl, Touch.new ho⟩
theorem grown_ok (hok : S.Ok) {m : Int} (h1 : 1 ≤ m) (h2 : m ≤ S.limit - S.pages) : ({ S with pages := S.pages + m } : PS).Ok := by
  obtain ⟨a1, a2, a3, a4, a5, a6, a7⟩ := hok
  refine ⟨?_, ?_, a3, fun p hp => ?_, fun t p hp => ?_, a6, a7⟩
  · show 2 ≤ S.pages + m
    omega
  · show S.pages + m ≤ S.limit
    omega
  · have := a4 p hp
    exact ⟨this.1, by show p < S.pages + m; omega⟩
  · have := a5 t p hp
    exact ⟨this.1, this.2.1, by show p < S.pages + m; omega⟩
theorem Take_any (h : At w pb mb n S) (hok : S.Ok) {m : Int} (hm : m ≤ 9223372036854775807) : Calls Tryz.prog 11 #[.pointer (some ⟨pb, 0, none⟩), .int .i64 m] w (AnyP w pb mb n S) := by
  by_cases h1 : m < 1
  · exact (pTake_arg w _ m h1).mono fun e w' ⟨h2, ho⟩ => AnyP.same h hok h2 ho
  · obtain ⟨fl, hfl⟩ := h.row
    rcases first_or fl m with hnr | ⟨k, r, hf⟩
    · obtain ⟨a, ha⟩ := tail_is hok hfl
      by_cases hb : m ≤ S.limit - a
      · exact (tk_grow h hok hfl (by omega) hnr ha hb).mono fun e w' ⟨h2, h3, h4⟩ => ⟨_, _, n, h2, Nat.le_succ _, h3, grew_ok hok (by have := noroom_tail hfl hnr (by omega) ha; omega) hb, rfl, h4⟩
      · exact (tk_full h hok hfl ⟨by omega, hm⟩ hnr ha (by omega)).mono fun e w' ⟨h2, ho⟩ => AnyP.same h hok h2 ho
    · exact (tk_yes h hfl hf).mono fun e w' ⟨h2, h3, h4⟩ => ⟨_, _, n, h2, Nat.le_succ _, h3, took_ok hok _ _, rfl, h4⟩
theorem Grow_any (h : At w pb mb n S) (hok : S.Ok) {m : Int} (hm : m ≤ 9223372036854775807) : Calls Tryz.prog 17 #[.pointer (some ⟨pb, 0, none⟩), .int .i64 m] w (AnyP w pb mb n S) := by
  by_cases h1 : m < 1
  · exact (pGrow_arg w _ m h1).mono fun e w' ⟨h2, ho⟩ => AnyP.same h hok h2 ho
  · by_cases hb : m ≤ S.limit - S.pages
    · exact (pGrow_yes w pb mb n S m h hok (by omega) hb).mono fun e w' ⟨h2, h3, h4⟩ => ⟨_, _, n, h2, Nat.le_succ _, h3, grown_ok hok (by omega) hb, rfl, h4⟩
    · exact (pGrow_full w pb mb n S m h hok ⟨by omega, hm⟩ (by omega)).mono fun e w' ⟨h2, ho⟩ => AnyP.same h hok h2 ho
theorem Give_any (h : At w pb mb n S) (hok : S.Ok) {t : Int} {x1 x2 : Int} (hx : I64 (x1, x2)) (ht : t ≤ 9223372036854775807) (hn : n ≤ 100000) : Calls Tryz.prog 13 #[.pointer (some ⟨pb, 0, none⟩), .int .i64 t, .agg #[.int .i64 x1, .int .i64 x2]] w (AnyP w pb mb n S) := by
  by_cases ha : GiveArg S t (x1, x2)
  · exact (Give_arg w pb mb n S t (x1, x2) h hok hx ha).mono fun e w' ⟨h2, ho⟩ => AnyP.same h hok h2 ho
  · by_cases hu : Unused S (x1, x2)
    · exact (Give_ok w pb mb n S t (x1, x2) h hok ha hu ht hn).mono fun e w' ⟨h2, h3, h4⟩ => ⟨_, _, n + 1, h2, Nat.le_refl _, h3, gave_ok hok ha hu, rfl, h4⟩
    · exact (Give_twice w pb mb n S t (x1, x2) h hok ha hu).mono fun e w' ⟨h2, ho⟩ => AnyP.same h hok h2 ho
theorem Settle_any (h : At w pb mb n S) (hok : S.Ok) {t o : Int} (ht : -9223372036854775808 ≤ t ∧ t ≤ 9223372036854775807) (ho : -9223372036854775808 ≤ o ∧ o ≤ 9223372036854775807) : Calls Tryz.prog 14 #[.pointer (some ⟨pb, 0, none⟩), .int .i64 t, .int .i64 o] w (AnyP w pb mb n S) :=
  (Settle_c w pb mb n S t o h hok ht ho).mono fun e w' ⟨h2, h3, h4⟩ => ⟨_, _, n, h2, Nat.le_succ _, h3, settled_ok hok _, rfl, h4⟩
end
theorem blk_touch2 {w w' : World} {pb mb g : Nat} {ty : TypeId} {cs : List Value} (h : Blk w g ty cs) (hp : g ≠ pb ∧ g ≠ mb) (ht : Touch pb mb w w') : Blk w' g ty cs := h.only ht fun hk => by
  have := h.lt
  rcases hk with hk | hk | hk <;> omega
theorem endOf_le {a : List R} (h : right a = true) {p : Int} (hp : 0 ≤ p) (ha : ∀ q, inn a q = true → q < p) : endOf a ≤ p := by
  obtain ⟨f1, f2, f3, f4⟩ := endOf_facts h
  rcases Int.lt_or_le 0 (endOf a) with h0 | h0
  · have := ha _ (f4 h0)
    omega
  · omega
/-- The state of a pool makes a pool. -/
theorem state_new {S : PS} (hok : S.Ok) {t : Int} (ht : 0 ≤ t) {a b : List R} (ha : IsRow a (fun p => S.F p ∨ ∃ u, u ≠ t ∧ S.H u p)) (hb : IsRow b (S.H t)) {pg lim : Int} (hpg : pg = S.pages) (hl : S.limit = lim) : NewOk a b t pg lim := by
  subst hpg hl
  have h1 := hok.lo
  have h2 := hok.hi
  have h3 := hok.top
  have ea : ∀ q, inn a q = true → 2 ≤ q ∧ q < S.pages := fun q hq => by
    rcases (ha.2 q).1 hq with h | ⟨u, _, h⟩
    · exact hok.free q h
    · exact (hok.held u q h).2
  have eb : ∀ q, inn b q = true → 2 ≤ q ∧ q < S.pages := fun q hq => (hok.held t q ((hb.2 q).1 hq)).2
  refine ⟨h1, h2, h3, ht, ⟨⟨ha.1, fun q hq => ⟨(ea q hq).1, by have := (ea q hq).2; omega⟩⟩, ⟨hb.1, fun q hq => ⟨(eb q hq).1, by have := (eb q hq).2; omega⟩⟩, fun q hq hq2 => ?_⟩, endOf_le ha.1 (by omega) fun q hq => (ea q hq).2, endOf_le hb.1 (by omega) fun q hq => (eb q hq).2⟩
  have k := (hb.2 q).1 hq2
  rcases (ha.2 q).1 hq with h | ⟨u, hu, h⟩
  · exact hok.apart t q k h
  · exact hu (hok.one u t q h k)
theorem card_le (u : List R) : card u ≤ 32768 := by
  have := List.countP_le_length (p := fun q : Nat => inn u q) (l := List.range 32768)
  rw [List.length_range] at this
  exact this
theorem cnt_small {u : List R} (h : right u = true) : 0 ≤ cnt u ∧ cnt u ≤ 32768 := by
  rw [cnt_card h]
  have := card_le u
  omega
/-- No page is lost, and none comes. -/
theorem state_counts {S : PS} (hok : S.Ok) {t : Int} {a b f g : List R} (ha : IsRow a (fun p => S.F p ∨ ∃ u, u ≠ t ∧ S.H u p)) (hb : IsRow b (S.H t)) (hf : IsRow f S.F) (hg : IsRow g (fun p => ∃ u, S.H u p)) : cnt a + cnt b = cnt f + cnt g := by
  rw [cnt_card ha.1, cnt_card hb.1, cnt_card hf.1, cnt_card hg.1]
  have h1 := countP_or (fun q : Nat => inn a q) (fun q : Nat => inn b q) (List.range 32768)
  have h2 := countP_or (fun q : Nat => inn f q) (fun q : Nat => inn g q) (List.range 32768)
  have e : (fun q : Nat => inn a q || inn b q) = fun q : Nat => inn f q || inn g q := by
    funext q
    rw [Bool.eq_iff_iff, Bool.or_eq_true, Bool.or_eq_true, ha.2, hb.2, hf.2, hg.2]
    constructor
    · rintro ((h | ⟨u, _, h⟩) | h)
      · exact .inl h
      · exact .inr ⟨u, h⟩
      · exact .inr ⟨t, h⟩
    · rintro (h | ⟨u, h⟩)
      · exact .inl (.inl h)
      · by_cases hu : u = t
        · subst hu
          exact .inr h
        · exact .inl (.inr ⟨u, hu, h⟩)
  have z1 : (List.range 32768).countP (fun q : Nat => inn a q && inn b q) = 0 := countP_eq_zero_of fun q _ => by
    rw [Bool.eq_false_iff]
    intro h
    rw [Bool.and_eq_true, ha.2, hb.2] at h
    rcases h.1 with k | ⟨u, hu, k⟩
    · exact hok.apart t _ h.2 k
    · exact hu (hok.one u t _ k h.2)
  have z2 : (List.range 32768).countP (fun q : Nat => inn f q && inn g q) = 0 := countP_eq_zero_of fun q _ => by
    rw [Bool.eq_false_iff]
    intro h
    rw [Bool.and_eq_true, hf.2, hg.2] at h
    obtain ⟨u, k⟩ := h.2
    exact hok.apart u _ k h.1
  rw [e] at h1
  unfold card
  omega
theorem right_t {W : World} {v : Value} {l : List R} (h : Row W v l) (hr : right l = true) : Calls Tryz.prog 66 #[v] W (Told W (.bool true)) := by
  obtain ⟨A, c, rfl, h1, _, h3, h4⟩ := h
  have := Right_c W A _ c l h1 rfl (i64_of hr) h3 h4
  rwa [hr] at this
def I64o (o : OpD) : Prop := (-9223372036854775808 ≤ o.k ∧ o.k ≤ 9223372036854775807) ∧ (-9223372036854775808 ≤ o.t ∧ o.t ≤ 9223372036854775807) ∧ (-9223372036854775808 ≤ o.n ∧ o.n ≤ 9223372036854775807) ∧ I64 (o.a, o.l)
theorem box_five {w : World} {bx : Nat} {t : TypeId} {u v x y z : Value} (h : Blk w bx t [u, v, x, y, z]) : w.cell? ⟨bx, 0, none⟩ = some u ∧ w.cell? ⟨bx, 1, none⟩ = some v ∧ w.cell? ⟨bx, 2, none⟩ = some x ∧ w.cell? ⟨bx, 3, none⟩ = some y ∧ w.cell? ⟨bx, 4, none⟩ = some z := ⟨by rw [h.cell]; rfl, by rw [h.cell]; rfl, by rw [h.cell]; rfl, by rw [h.cell]; rfl, by rw [h.cell]; rfl⟩
end Go.Proofs.YtmadlckladohbaaGreat
