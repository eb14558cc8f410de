/-
  The program's pool beside the document's: each call's two answers are the same, and both stand behind it as before.
-/
import Derived.Test.YtmadlckladohbaaGreatHb
import Derived.Test.YtmadlckladohbaaGreatHa
set_option linter.unusedVariables false
namespace Go.Proofs.YtmadlckladohbaaGreat
open Go.RowKit Go.Shelf

/-- What the program's call answers, and what pool stands behind it. -/
def Stp (S' : PS) (res : Value) (pb mb N : Nat) (W : World) (e : Ending) (W' : World) : Prop :=
  e = .returned res ∧ ∃ N', N' ≤ N + 1 ∧ At W' pb mb N' S' ∧ Touch pb mb W W'
section
variable {S : PS} {l : List Int}
theorem Stp.same {W W' : World} {pb mb N : Nat} {res : Value} {e : Ending} (h : At W pb mb N S) (he : e = .returned res) (ho : Only (W.heap.size ≤ ·) W W') : Stp S res pb mb N W e W' :=
  ⟨he, N, Nat.le_succ _, h.later ho, Touch.new ho⟩
theorem box_row_off {w : World} {v : Value} {l : List R} {g n c : Nat} {t : TypeId} {A : Option Addr} {z : Int} (h : Row w v l) (hb : Blk w g t [.slice A n c, .int .i64 z]) : Off g v l := fun hn b off n c e hbg => by
  obtain ⟨A, c', e', hs, _⟩ := h
  obtain ⟨b', off', e2, _, hc⟩ := hs hn
  rw [e', e2] at e
  simp only [Value.slice.injEq, Option.some.injEq, Addr.mk.injEq, and_true] at e
  obtain ⟨⟨rfl, rfl⟩, _⟩ := e
  subst hbg
  have hz : l[0]? = some l[0] := List.getElem?_eq_getElem hn
  have k0 := hc 0 _ (by have := rc_get0 hz; simpa using this)
  have k1 := hc 1 _ (by have := rc_get1 hz; simpa using this)
  rw [hb.cell] at k0 k1
  rcases off' with _ | _ | off'
  · simp at k0
  · simp at k1
  · simp at k0
/-- The box of the document's pool is written: the program's pool stays. -/
theorem At.box {w w' : World} {pb mb N g n c : Nat} {t : TypeId} {A : Option Addr} {z : Int} (h : At w pb mb N S) (hb : Blk w g t [.slice A n c, .int .i64 z]) (hp : g ≠ pb ∧ g ≠ mb) (ho : Only (fun k => k = g) w w') : At w' pb mb N S := by
  obtain ⟨fv, fl, D, h1, h2, h3, h4, h5, h6⟩ := h
  refine ⟨fv, fl, D, h1.only ho (fun e => hp.1 e.symm), h2.past ho (fun k hk => by subst hk; exact .inr (.inl (box_row_off h2 hb))), h3, h4, h5.on ho (fun e => hp.2 e.symm), fun t => ?_⟩
  obtain ⟨v, l, k1, k2, k3, k4⟩ := h6 t
  exact ⟨v, l, k1, k2.past ho (fun k hk => by subst hk; exact .inr (.inl (box_row_off k2 hb))), k3, k4⟩
theorem WhoS.two (h : WhoS S l) (hok : S.Ok) : l[0]? = some (-2) ∧ 2 ≤ l.length := by
  have h1 := h.1
  have h2 := hok.lo
  refine ⟨?_, by omega⟩
  obtain ⟨x, hx, hw⟩ := h.at_ (k := 0) (by omega)
  rw [hx]
  rcases hw with ⟨_, h⟩ | ⟨_, h⟩ | ⟨h, _⟩
  · have := (hok.free _ h).1
    omega
  · have := (hok.held _ _ h).2.1
    omega
  · rw [h]
/-- What a call of the program's writes is no number of the document's. -/
theorem Wh.touch {w w' : World} {pb mb N : Nat} {v : Value} {l' : List Int} (h : Wh w v l') (hat : At w pb mb N S) (hok : S.Ok) (h0 : l'[0]? = some (-2)) (ho : Touch pb mb w w') : Wh w' v l' := by
  obtain ⟨A, c, e, h1, h2⟩ := h
  refine ⟨A, c, e, h1, fun ad he => ?_⟩
  obtain ⟨b', off, e2, hb, hc⟩ := h2 ad he
  have e0 : (ic l')[0]? = some (.int .i64 (-2)) := by rw [ic, List.getElem?_map, h0]; rfl
  have k0 := hc 0 _ e0
  have g1 := hok.lo
  have g2 := hok.hi
  refine ⟨b', off, e2, Nat.lt_of_lt_of_le hb ho.size, fun j u hu => ?_⟩
  refine (ho.cell (p := ⟨b', off + j, none⟩) ?_).trans (hc j u hu)
  obtain ⟨fv, fl, D, hp, hr, _, _, hm, _⟩ := hat
  rintro (h | h | h)
  · simp only at h
    omega
  · simp only at h
    subst h
    rw [hp.cell] at k0
    obtain ⟨fA, fc, rfl, _⟩ := hr
    rcases off with _ | _ | _ | _ | off
    · simp at k0
      omega
    · simp at k0
      omega
    · simp at k0
    · simp at k0
    · simp at k0
  · simp only at h
    subst h
    obtain ⟨es, ck, hm⟩ := hm.block
    have : w.cell? ⟨b', off + 0, none⟩ = none := by simp [World.cell?, hm]
    rw [this] at k0
    cases k0
theorem tail_one {a b : Int} (ha : IsTail S a) (hb : IsTail S b) : a = b := by
  obtain ⟨a1, a2, a3, a4⟩ := ha
  obtain ⟨b1, b2, b3, b4⟩ := hb
  rcases Int.lt_trichotomy a b with h | h | h
  · exact absurd (a1 (b - 1) (by omega) (by omega)) b4
  · exact h
  · exact absurd (b1 (a - 1) (by omega) (by omega)) a4
theorem first_is (h : WhoS S l) (hok : S.Ok) {fl : List R} (hr : IsRow fl S.F) {m : Nat} (hm : 1 ≤ m) {k : Nat} {r : R} (hf : First fl m k r) : GoodAt l m r.1.toNat := by
  obtain ⟨f1, f2, f3, f4⟩ := first_at hok hr hf
  obtain ⟨_, g2, g3, g4⟩ := hf
  rw [known_of hr.1] at g2 g4
  have hmr := (may_iff r).1 (right_may hr.1 r (List.mem_of_getElem? g2))
  refine ⟨⟨(who_free h hok _).2 (f4 _ ⟨by omega, by omega⟩), .inr fun hx => ?_⟩, fun i hi => (who_free h hok _).2 (f4 _ ⟨by omega, by omega⟩)⟩
  have hfr := (who_free h hok _).1 hx
  obtain ⟨z, hzm, hzi⟩ := (inn_iff _ _).1 ((hr.2 _).2 hfr)
  obtain ⟨i, hi⟩ := List.getElem?_of_mem hzm
  unfold within at hzi
  have hmz := (may_iff z).1 (right_may hr.1 z hzm)
  rcases Nat.lt_trichotomy i k with hik | rfl | hik
  · have := right_before hr.1 hik hi g2
    omega
  · rw [g2] at hi
    cases hi
    omega
  · have := right_before hr.1 hik g2 hi
    omega

def Pair (S : PS) (lim : Int) (w : World) (C : PS → Int → Int → Prop) (e : Ending) (w' : World) : Prop :=
  (∃ (S' : PS) (v' : Value) (l' : List Int) (x y : Int), e = .returned (.tuple #[.agg #[v', .int .i64 lim], .int .i64 x, .int .i64 y]) ∧ Wh w' v' l' ∧ S'.Ok ∧ S'.limit = lim ∧ WhoS S' l' ∧ C S' x y) ∧ Only (w.heap.size ≤ ·) w w'
set_option maxRecDepth 100000 in
theorem take_pair (w : World) (v : Value) (m lim : Int) (hw : Wh w v l) (hs : WhoS S l) (hok : S.Ok) (hlim : S.limit = lim) (hm : m ≤ 9223372036854775807) {fl : List R} (hfl : IsRow fl S.F) :
    Calls Tryz.prog 10 #[.agg #[v, .int .i64 lim], .int .i64 m] w (Pair S lim w fun S' x y => ∀ W pb mb N, At W pb mb N S → Calls Tryz.prog 11 #[.pointer (some ⟨pb, 0, none⟩), .int .i64 m] W (Stp S' (.tuple #[.int .i64 x, .int .i64 y]) pb mb N W)) := by
  have hl := hs.1
  have k1 := hok.lo
  have k2 := hok.hi
  have k3 := hok.top
  by_cases h1 : m < 1
  · refine (rtake_arg w v lim m l hw (by omega) (by omega) h1).mono ?_
    rintro e w' ⟨⟨v', rfl, hw'⟩, ho⟩
    refine ⟨⟨S, v', l, 0, 1, rfl, hw', hok, hlim, hs, fun W pb mb N hat => ?_⟩, ho⟩
    exact (pTake_arg W _ m h1).mono fun e w' ⟨h2, ho⟩ => Stp.same hat h2 ho
  · obtain ⟨m, rfl⟩ : ∃ k : Nat, m = k := ⟨m.toNat, by omega⟩
    have hm1 : 1 ≤ m := by omega
    refine (rtake_c w v lim m l hw (by omega) (by omega) (by omega) hm1 hm).mono ?_
    rintro e w' ⟨⟨v', l', x, y, rfl, hw', hc⟩, ho⟩
    rcases hc with ⟨a, hg, hmin, hle, rfl, rfl, rfl⟩ | ⟨hno, a, hta, hc⟩
    · rcases first_or fl m with hnr | ⟨k, r, hf⟩
      · exact absurd hg (no_good hs hok hfl hm1 hnr a)
      · have hra := first_good hs hok hfl hm1 hf hg hmin
        refine ⟨⟨TookS S a m, v', _, _, _, rfl, hw', took_ok hok _ _, hlim, who_took hs hok hle fun k hk1 hk2 => by
          have := hg.2 (k - a) (by omega)
          rw [show a + (k - a) = k by omega] at this
          exact (who_free hs hok k).1 this, fun W pb mb N hat => ?_⟩, ho⟩
        refine (tk_yes hat hfl hf).mono ?_
        rintro e2 w2 ⟨h2, h3, h4⟩
        rw [hra] at h2 h3
        exact ⟨h2, N, Nat.le_succ _, h3, h4⟩
    · have hit := tail_same hs hok hta
      rcases first_or fl m with hnr | ⟨k, r, hf⟩
      · have hpt := noroom_tail hfl hnr (by omega) hit
        rcases hc with ⟨hbig, rfl, rfl, rfl⟩ | ⟨hfit, rfl, rfl, rfl⟩
        · refine ⟨⟨S, v', _, _, _, rfl, hw', hok, hlim, hs, fun W pb mb N hat => ?_⟩, ho⟩
          exact (tk_full hat hok hfl ⟨by omega, hm⟩ hnr hit (by omega)).mono fun e w' ⟨h2, ho⟩ => Stp.same hat h2 ho
        · refine ⟨⟨GrewS S a m, v', _, _, _, rfl, hw', grew_ok hok (by omega) (by omega), hlim, who_grew hs hok hit (by omega), fun W pb mb N hat => ?_⟩, ho⟩
          refine (tk_grow hat hok hfl (by omega) hnr hit (by omega)).mono ?_
          rintro e2 w2 ⟨h2, h3, h4⟩
          exact ⟨h2, N, Nat.le_succ _, h3, h4⟩
      · exact absurd (first_is hs hok hfl hm1 hf) (hno _)
set_option maxRecDepth 100000 in
theorem grow_pair (w : World) (v : Value) (m lim : Int) (hw : Wh w v l) (hs : WhoS S l) (hok : S.Ok) (hlim : S.limit = lim) (hm : m ≤ 9223372036854775807) {fl : List R} (hfl : IsRow fl S.F) :
    Calls Tryz.prog 16 #[.agg #[v, .int .i64 lim], .int .i64 m] w (Pair S lim w fun S' x y => ∀ W pb mb N, At W pb mb N S → Calls Tryz.prog 17 #[.pointer (some ⟨pb, 0, none⟩), .int .i64 m] W (Stp S' (.tuple #[.int .i64 x, .int .i64 y]) pb mb N W)) := by
  have hl := hs.1
  have k1 := hok.lo
  have k2 := hok.hi
  have k3 := hok.top
  refine (rgrow_c w v lim m l hw (by omega) (by omega) (by omega)).mono ?_
  rintro e w' ⟨⟨v', he, hw'⟩, ho⟩
  by_cases h1 : m < 1
  · rw [if_pos h1, if_pos h1] at he
    rw [if_pos h1] at hw'
    refine ⟨⟨S, v', l, 0, 1, he, hw', hok, hlim, hs, fun W pb mb N hat => ?_⟩, ho⟩
    exact (pGrow_arg W _ m h1).mono fun e w' ⟨h2, ho⟩ => Stp.same hat h2 ho
  · rw [if_neg h1, if_neg h1] at he
    rw [if_neg h1] at hw'
    by_cases hb : lim - (l.length : Int) < m
    · rw [if_pos hb, if_pos hb] at he
      rw [if_pos hb] at hw'
      refine ⟨⟨S, v', l, 0, 12, he, hw', hok, hlim, hs, fun W pb mb N hat => ?_⟩, ho⟩
      exact (pGrow_full W pb mb N S m hat hok ⟨by omega, hm⟩ (by omega)).mono fun e w' ⟨h2, ho⟩ => Stp.same hat h2 ho
    · rw [if_neg hb, if_neg hb] at he
      rw [if_neg hb] at hw'
      obtain ⟨m, rfl⟩ : ∃ k : Nat, m = k := ⟨m.toNat, by omega⟩
      rw [Int.toNat_natCast] at hw'
      refine ⟨⟨{ S with pages := S.pages + m }, v', _, _, 0, he, hw', grown_ok hok (by omega) (by omega), hlim, who_grown hs hok, fun W pb mb N hat => ?_⟩, ho⟩
      refine (pGrow_yes W pb mb N S m hat hok (by omega) (by omega)).mono ?_
      rintro e2 w2 ⟨h2, h3, h4⟩
      rw [← hl] at h2
      exact ⟨h2, N, Nat.le_succ _, h3, h4⟩
def PairG (S : PS) (lim : Int) (w : World) (C : PS → Int → Prop) (e : Ending) (w' : World) : Prop :=
  (∃ (S' : PS) (v' : Value) (l' : List Int) (y : Int), e = .returned (.tuple #[.agg #[v', .int .i64 lim], .int .i64 y]) ∧ Wh w' v' l' ∧ S'.Ok ∧ S'.limit = lim ∧ WhoS S' l' ∧ C S' y) ∧ Only (w.heap.size ≤ ·) w w'
set_option maxRecDepth 100000 in
theorem give_pair (w : World) (v : Value) (t x1 x2 lim : Int) (hw : Wh w v l) (hs : WhoS S l) (hok : S.Ok) (hlim : S.limit = lim) (hx : I64 (x1, x2)) (ht : t ≤ 9223372036854775807) :
    Calls Tryz.prog 12 #[.agg #[v, .int .i64 lim], .int .i64 t, .agg #[.int .i64 x1, .int .i64 x2]] w (PairG S lim w fun S' y => ∀ W pb mb N, N ≤ 100000 → At W pb mb N S → Calls Tryz.prog 13 #[.pointer (some ⟨pb, 0, none⟩), .int .i64 t, .agg #[.int .i64 x1, .int .i64 x2]] W (Stp S' (.int .i64 y) pb mb N W)) := by
  have hl := hs.1
  have k1 := hok.lo
  have k2 := hok.hi
  have k3 := hok.top
  by_cases ha : GiveArg S t (x1, x2)
  · have hx' : t < 0 ∨ may (x1, x2) = false ∨ x1 < 2 ∨ (l.length : Int) < x1 + x2 := by
      rcases ha with h | h | h | h
      · exact .inl h
      · exact .inr (.inr (.inl h))
      · refine .inr (.inl (Bool.eq_false_iff.2 fun e => ?_))
        have := (may_iff _).1 e
        simp only at this h
        omega
      · simp only at h
        exact .inr (.inr (.inr (by omega)))
    refine (rgive_arg w v lim t x1 x2 l hw (by omega) (by omega) hx').mono ?_
    rintro e w' ⟨⟨v', rfl, hw'⟩, ho⟩
    refine ⟨⟨S, v', l, 1, rfl, hw', hok, hlim, hs, fun W pb mb N hN hat => ?_⟩, ho⟩
    exact (Give_arg W pb mb N S t (x1, x2) hat hok hx ha).mono fun e w' ⟨h2, ho⟩ => Stp.same hat h2 ho
  · have hg : 0 ≤ t ∧ 2 ≤ x1 ∧ 1 ≤ x2 ∧ x1 + x2 ≤ S.pages := by
      unfold GiveArg at ha
      simp only [not_or] at ha
      omega
    obtain ⟨h0, h1, h2, h3⟩ := hg
    obtain ⟨a, rfl⟩ : ∃ k : Nat, x1 = k := ⟨x1.toNat, by omega⟩
    obtain ⟨m, rfl⟩ : ∃ k : Nat, x2 = k := ⟨x2.toNat, by omega⟩
    refine (rgive_c w v lim t a m l hw (by omega) (by omega) h0 (by omega) (by omega) (by omega)).mono ?_
    rintro e w' ⟨⟨v', l', y, rfl, hw', hc⟩, ho⟩
    rcases hc with ⟨rfl, hall, rfl⟩ | ⟨rfl, ⟨j, z, j1, j2, jz, jn⟩, rfl⟩
    · have hu : Unused S ((a : Int), (m : Int)) := fun p hp => by
        unfold within at hp
        simp only at hp
        have := hall p.toNat (by omega) (by omega)
        have h5 := (hs.2 _ _ this).used hok
        rw [show ((p.toNat : Nat) : Int) = p by omega] at h5
        exact h5.1 rfl
      refine ⟨⟨_, v', _, 0, rfl, hw', gave_ok hok ha hu, hlim, who_gave hs hok h0 (by omega) hu, fun W pb mb N hN hat => ?_⟩, ho⟩
      refine (Give_ok W pb mb N S t _ hat hok ha hu ht hN).mono ?_
      rintro e2 w2 ⟨h2, h3, h4⟩
      exact ⟨h2, N + 1, Nat.le_refl _, h3, h4⟩
    · have hu : ¬ Unused S ((a : Int), (m : Int)) := fun hu => jn (((hs.2 _ _ jz).used hok).2 (hu j ⟨by simp only; omega, by simp only; omega⟩))
      refine ⟨⟨S, v', _, 110, rfl, hw', hok, hlim, hs, fun W pb mb N hN hat => ?_⟩, ho⟩
      exact (Give_twice W pb mb N S t _ hat hok ha hu).mono fun e w' ⟨h2, ho⟩ => Stp.same hat h2 ho
end
end Go.Proofs.YtmadlckladohbaaGreat
