/-
  A pool as plain data: what stays so; its calls over values.
-/
import Derived.Test.YtmadlckladohbaaGreatPnw
import Derived.Test.YtmadlckladohbaaGreatPtk
set_option linter.unusedVariables false
namespace Go.Proofs.YtmadlckladohbaaGreat
open Go.RowKit Go.Shelf

theorem took_ok {S : PS} (h : S.Ok) (a m : Int) : (TookS S a m).Ok :=
  ⟨h.lo, h.hi, h.top, fun p hp => h.free p hp.1, h.held, fun t p ht hp => h.apart t p ht hp.1, h.one⟩
theorem grew_ok {S : PS} (h : S.Ok) {a m : Int} (h1 : S.pages ≤ a + m) (h2 : m ≤ S.limit - a) : (GrewS S a m).Ok := by
  have hlo := h.lo
  refine ⟨?_, ?_, h.top, fun p hp => ⟨(h.free p hp.1).1, ?_⟩, fun t p ht => ⟨(h.held t p ht).1, (h.held t p ht).2.1, ?_⟩, fun t p ht hp => h.apart t p ht hp.1, h.one⟩
  · show 2 ≤ a + m; omega
  · show a + m ≤ S.limit; omega
  · have := (h.free p hp.1).2; show p < a + m; omega
  · have := (h.held t p ht).2.2; show p < a + m; omega
theorem gave_ok {S : PS} (h : S.Ok) {t : Int} {x : R} (ha : ¬ GiveArg S t x) (hu : Unused S x) : (GaveS S t x).Ok := by
  obtain ⟨g1, g2, g3, g4, g5⟩ := GiveArg_not ha h
  refine ⟨h.lo, h.hi, h.top, h.free, fun u p hp => ?_, fun u p hp hf => ?_, fun u v p hp hq => ?_⟩
  · rcases hp with hp | ⟨rfl, hw⟩
    · exact h.held u p hp
    · unfold within at hw
      exact ⟨g1, by omega, by show p < S.pages; omega⟩
  · rcases hp with hp | ⟨rfl, hw⟩
    · exact h.apart u p hp hf
    · exact (hu p hw).1 hf
  · rcases hp with hp | ⟨rfl, hw⟩
    · rcases hq with hq | ⟨rfl, hw'⟩
      · exact h.one u v p hp hq
      · exact absurd hp ((hu p hw').2 u)
    · rcases hq with hq | ⟨rfl, hw'⟩
      · exact absurd hq ((hu p hw).2 v)
      · rfl
theorem settled_ok {S : PS} (h : S.Ok) (m : Int) : (SettledS S m).Ok := by
  refine ⟨h.lo, h.hi, h.top, fun p hp => ?_, fun u p hp => h.held u p hp.2, fun u p hp hf => ?_, fun u v p hp hq => h.one u v p hp.2 hq.2⟩
  · rcases hp with hp | ⟨u, _, hu⟩
    · exact h.free p hp
    · exact (h.held u p hu).2
  · rcases hf with hf | ⟨v, hv, hv2⟩
    · exact h.apart u p hp.2 hf
    · have := h.one u v p hp.2 hv2
      subst this
      exact hp.1 hv
theorem run_end_out : ∀ {l : List R}, right l = true → ∀ x ∈ l, inn l (x.1 + x.2) = false
  | [], _, x, hx => by simp at hx
  | y :: l, h, x, hx => by
    obtain ⟨hm, hr⟩ := right_cons.1 h
    have hmy := (may_iff y).1 hm
    rcases List.mem_cons.1 hx with rfl | hx
    · cases hi : inn (x :: l) (x.1 + x.2)
      · rfl
      · rcases (inn_cons _ _ _).1 hi with h | h
        · unfold within at h; omega
        · have := beyond hr h; omega
    · have ih := run_end_out (right_tail h) x hx
      cases hi : inn (y :: l) (x.1 + x.2)
      · rfl
      · rcases (inn_cons _ _ _).1 hi with h2 | h2
        · have hmx := (may_iff x).1 (right_may (right_tail h) x hx)
          have := beyond hr ((inn_iff _ _).2 ⟨x, hx, by omega, by omega⟩ : inn l x.1 = true)
          unfold within at h2
          omega
        · rw [ih] at h2; cases h2
/-- Where no run has room, the tail and what is asked for pass the end. -/
theorem noroom_tail {S : PS} {fl : List R} (hr : IsRow fl S.F) {m a : Int} (hn : NoRoom fl m) (hm : 1 ≤ m) (ha : IsTail S a) : S.pages < a + m := by
  obtain ⟨h1, h2, h3, h4⟩ := ha
  rcases Int.lt_or_le (a + m) (S.pages + 1) with h | h
  · exfalso
    have hfa := h1 a (Int.le_refl _) (by omega)
    obtain ⟨x, hx, hw⟩ := (inn_iff _ _).1 ((hr.2 a).2 hfa)
    have hx2 : x.2 < m := by
      rcases hn with h | h
      · omega
      · exact h x (by rw [known_of hr.1]; exact hx)
    have hend := run_end_out hr.1 x hx
    unfold within at hw
    have hf := h1 (x.1 + x.2) (by omega) (by omega)
    rw [(hr.2 _).2 hf] at hend
    cases hend
  · omega

theorem At.row {w : World} {pb mb n : Nat} {S : PS} (h : At w pb mb n S) : ∃ fl, IsRow fl S.F := by
  obtain ⟨fv, fl, D, h⟩ := h
  exact ⟨fl, h.2.2.2.1⟩
theorem tk_yes {w : World} {pb mb n : Nat} {S : PS} (h : At w pb mb n S) {m : Int} {k : Nat} {r : R} {fl : List R} (hr : IsRow fl S.F) (hf : First fl m k r) : Calls Tryz.prog 11 #[.pointer (some ⟨pb, 0, none⟩), .int .i64 m] w (Gone w pb mb n r.1 (TookS S r.1 m)) := by
  obtain ⟨fv, fl', D, h⟩ := h
  obtain rfl := h.2.2.2.1.eq hr
  exact pTake_yes w pb mb n S fv fl' D m k r h hf
theorem tk_grow {w : World} {pb mb n : Nat} {S : PS} (h : At w pb mb n S) (hok : S.Ok) {m a : Int} {fl : List R} (hr : IsRow fl S.F) (hm : 1 ≤ m) (hf : NoRoom fl m) (ha : IsTail S a) (hbig : m ≤ S.limit - a) : Calls Tryz.prog 11 #[.pointer (some ⟨pb, 0, none⟩), .int .i64 m] w (Gone w pb mb n a (GrewS S a m)) := by
  obtain ⟨fv, fl', D, h⟩ := h
  obtain rfl := h.2.2.2.1.eq hr
  exact pTake_grow w pb mb n S fv fl' D m a h hok hm hf ha hbig
theorem tk_full {w : World} {pb mb n : Nat} {S : PS} (h : At w pb mb n S) (hok : S.Ok) {m a : Int} {fl : List R} (hr : IsRow fl S.F) (hm : 1 ≤ m ∧ m ≤ 9223372036854775807) (hf : NoRoom fl m) (ha : IsTail S a) (hbig : S.limit - a < m) : Calls Tryz.prog 11 #[.pointer (some ⟨pb, 0, none⟩), .int .i64 m] w (Full w) := by
  obtain ⟨fv, fl', D, h⟩ := h
  obtain rfl := h.2.2.2.1.eq hr
  exact pTake_full w pb mb n S fv fl' D m a h hok hm hf ha hbig
/-- Every pool has a tail. -/
theorem tail_is {S : PS} (hok : S.Ok) {fl : List R} (hr : IsRow fl S.F) : ∃ a, IsTail S a := by
  cases hl : fl.getLast? with
  | none =>
    have : fl = [] := List.getLast?_eq_none_iff.1 hl
    subst this
    exact ⟨_, tail_end hok (tail_nil hr _)⟩
  | some x =>
    obtain ⟨_, _, h3, h4⟩ := tail_last hok hr hl
    by_cases h : x.1 + x.2 < S.pages
    · exact ⟨_, tail_end hok (h3 h)⟩
    · exact ⟨_, (h4 h).1⟩

/-- A row of runs comes back. -/
def Back (w : World) (S : Int → Prop) (e : Ending) (w' : World) : Prop := (∃ A n c u, e = .returned (.slice A n c) ∧ OwnN w' w.heap.size (.slice A n c) n u ∧ IsRow u S) ∧ Only (w.heap.size ≤ ·) w w'
theorem back_of {w : World} {S : Int → Prop} {e : Ending} {w' : World} (h : HeldSays w S e w') : Back w S e w' := by
  obtain ⟨v, n, u, h1, h2, h3, h4⟩ := h
  obtain ⟨A, c, rfl⟩ := h2.slice
  exact ⟨⟨A, n, c, u, h1, h2, h3⟩, h4⟩
theorem Free_b {w : World} {pb mb n : Nat} {S : PS} (h : At w pb mb n S) : Calls Tryz.prog 22 #[.pointer (some ⟨pb, 0, none⟩)] w (Back w S.F) := (pFree_c w pb mb n S h).mono fun e w' => back_of
theorem Held_b {w : World} {pb mb n : Nat} {S : PS} (h : At w pb mb n S) (hok : S.Ok) : Calls Tryz.prog 23 #[.pointer (some ⟨pb, 0, none⟩)] w (Back w fun p => ∃ t, S.H t p) := (pHeld_c w pb mb n S h hok).mono fun e w' => back_of
theorem Union_b {w : World} {v u : Value} {a b : List R} {S T : Int → Prop} (h : Row w v a) (h' : Row w u b) (ha : IsRow a S) (hb : IsRow b T) : Calls Tryz.prog 41 #[v, u] w (Back w fun p => S p ∨ T p) :=
  (Union_c w v u a b h h' (i64_of ha.1) (i64_of hb.1)).mono fun e w' ⟨v', n, l, h1, h2, h3, h4⟩ => back_of ⟨v', n, l, h1, h2, h3.congr fun p => by rw [mem_row ha p, mem_row hb p], h4⟩
/-- Count, where the row is known. -/
theorem Count_b {w : World} {v : Value} {u l : List R} {S : Int → Prop} (h : Row w v u) (hu : IsRow u S) (hl : IsRow l S) (c : Int) (hc : cnt l = c) : Calls Tryz.prog 21 #[v] w (Told w (.int .i64 c)) := by
  obtain rfl := hu.eq hl
  have := Count_c w v u h (i64_of hu.1)
  rwa [known_of hu.1, hc] at this
theorem down_new {w0 w w' : World} {pb mb : Nat} (ho : Only (w0.heap.size ≤ ·) w0 w) (h : Touch pb mb w w') (hp : w0.heap.size ≤ pb) (hm : w0.heap.size ≤ mb) : Only (w0.heap.size ≤ ·) w0 w' := ho.trans (h.down ho.size hp hm)
end Go.Proofs.YtmadlckladohbaaGreat
