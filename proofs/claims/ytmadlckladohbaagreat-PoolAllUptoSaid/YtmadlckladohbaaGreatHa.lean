/-
  Who Rst Rgr Rrn Rsn Rse: as one text.
-/
import Derived.Test.YtmadlckladohbaaGreatPsn
import Derived.Deep.LoopGhost
/-
  The document's pool: of each page who has it, as plain data beside a pool.
-/
set_option linter.unusedVariables false
namespace Go.Proofs.YtmadlckladohbaaGreat
open Go.RowKit Go.Shelf

/-- The pages from a on, so many, are somebody's. -/
def setP (l : List Int) (a : Nat) : Nat → Int → List Int
  | 0, _ => l
  | k + 1, x => if a + k = (setP l a k x).length then setP l a k x ++ [x] else (setP l a k x).set (a + k) x
theorem setP_succ (l : List Int) (a k : Nat) (x : Int) : setP l a (k + 1) x = if a + k = (setP l a k x).length then setP l a k x ++ [x] else (setP l a k x).set (a + k) x := rfl
theorem setP_length (l : List Int) (a : Nat) (h : a ≤ l.length) (x : Int) : ∀ k, (setP l a k x).length = max l.length (a + k)
  | 0 => by simp [setP]; omega
  | k + 1 => by
    have ih := setP_length l a h x k
    unfold setP
    split
    · rw [List.length_append, List.length_singleton]; omega
    · rw [List.length_set]; omega
theorem setP_get (l : List Int) (a : Nat) (h : a ≤ l.length) (x : Int) : ∀ k j : Nat, (setP l a k x)[j]? = if a ≤ j ∧ j < a + k then some x else l[j]?
  | 0, j => by
    rw [if_neg (by omega)]
    rfl
  | k + 1, j => by
    have ih := setP_get l a h x k j
    have hl := setP_length l a h x k
    unfold setP
    split
    · rename_i he
      by_cases hj : j = a + k
      · subst hj
        rw [List.getElem?_append_right (by omega), if_pos (by omega), ← he, Nat.sub_self]
        rfl
      · by_cases hlt : j < (setP l a k x).length
        · rw [List.getElem?_append_left hlt, ih]
          by_cases hc : a ≤ j ∧ j < a + k
          · rw [if_pos hc, if_pos (by omega)]
          · rw [if_neg hc, if_neg (by omega)]
        · rw [List.getElem?_eq_none (by rw [List.length_append, List.length_singleton]; omega), if_neg (by omega), List.getElem?_eq_none (by omega)]
    · rename_i he
      by_cases hj : j = a + k
      · subst hj
        rw [List.getElem?_set_self (by omega), if_pos (by omega)]
      · rw [List.getElem?_set_ne (by omega), ih]
        by_cases hc : a ≤ j ∧ j < a + k
        · rw [if_pos hc, if_pos (by omega)]
        · rw [if_neg hc, if_neg (by omega)]

/-- What a page's number says. -/
def Who1 (S : PS) (k x : Int) : Prop := (x = -1 ∧ S.F k) ∨ (0 ≤ x ∧ S.H x k) ∨ (x = -2 ∧ ¬ S.F k ∧ ∀ t, ¬ S.H t k)
def WhoS (S : PS) (l : List Int) : Prop := (l.length : Int) = S.pages ∧ ∀ (k : Nat) x, l[k]? = some x → Who1 S k x
section
variable {S : PS} {l : List Int}
theorem Who1.free (hok : S.Ok) {k x : Int} (h : Who1 S k x) : x = -1 ↔ S.F k := by
  rcases h with ⟨h1, h2⟩ | ⟨h1, h2⟩ | ⟨h1, h2, h3⟩
  · exact ⟨fun _ => h2, fun _ => h1⟩
  · exact ⟨fun e => by omega, fun h => absurd h (hok.apart _ _ h2)⟩
  · exact ⟨fun e => by omega, fun h => absurd h h2⟩
theorem Who1.held (hok : S.Ok) {k x : Int} (h : Who1 S k x) {t : Int} (ht : 0 ≤ t) : x = t ↔ S.H t k := by
  rcases h with ⟨h1, h2⟩ | ⟨h1, h2⟩ | ⟨h1, h2, h3⟩
  · exact ⟨fun e => by omega, fun h => absurd h2 (hok.apart _ _ h)⟩
  · exact ⟨fun e => e ▸ h2, fun h => hok.one _ _ _ h2 h⟩
  · exact ⟨fun e => by omega, fun h => absurd h (h3 t)⟩
theorem Who1.some (hok : S.Ok) {k x : Int} (h : Who1 S k x) : 0 ≤ x ↔ ∃ t, S.H t k := by
  rcases h with ⟨h1, h2⟩ | ⟨h1, h2⟩ | ⟨h1, h2, h3⟩
  · exact ⟨fun e => by omega, fun ⟨t, h⟩ => absurd h2 (hok.apart _ _ h)⟩
  · exact ⟨fun _ => ⟨_, h2⟩, fun _ => h1⟩
  · exact ⟨fun e => by omega, fun ⟨t, h⟩ => absurd h (h3 t)⟩
theorem Who1.used (hok : S.Ok) {k x : Int} (h : Who1 S k x) : x = -2 ↔ ¬ S.F k ∧ ∀ t, ¬ S.H t k := by
  rcases h with ⟨h1, h2⟩ | ⟨h1, h2⟩ | ⟨h1, h2, h3⟩
  · exact ⟨fun e => by omega, fun h => absurd h2 h.1⟩
  · exact ⟨fun e => by omega, fun h => absurd h2 (h.2 _)⟩
  · exact ⟨fun _ => ⟨h2, h3⟩, fun _ => h1⟩
theorem WhoS.at_ (h : WhoS S l) {k : Nat} (hk : k < l.length) : ∃ x, l[k]? = .some x ∧ Who1 S k x := ⟨l[k], List.getElem?_eq_getElem hk, h.2 k _ (List.getElem?_eq_getElem hk)⟩
/-- A set that is changed at a run's pages. -/
theorem WhoS.set_ (h : WhoS S l) {T : PS} {a m : Nat} {x : Int} (ha : a ≤ l.length) (hp : (max l.length (a + m) : Nat) = T.pages)
    (hin : ∀ k : Nat, a ≤ k → k < a + m → Who1 T k x) (hout : ∀ (k : Nat) y, ¬ (a ≤ k ∧ k < a + m) → l[k]? = .some y → Who1 S k y → Who1 T k y) : WhoS T (setP l a m x) := by
  refine ⟨by rw [setP_length l a ha]; exact hp, fun k y hy => ?_⟩
  rw [setP_get l a ha] at hy
  by_cases hk : a ≤ k ∧ k < a + m
  · rw [if_pos hk] at hy
    cases hy
    exact hin k hk.1 hk.2
  · rw [if_neg hk] at hy
    exact hout k y hk hy (h.2 k y hy)
theorem who_took (h : WhoS S l) (hok : S.Ok) {a m : Nat} (hp : a + m ≤ l.length) (hf : ∀ k : Nat, a ≤ k → k < a + m → S.F k) : WhoS (TookS S a m) (setP l a m (-2)) :=
  h.set_ (by omega) (by rw [Nat.max_eq_left hp]; exact h.1)
    (fun k h1 h2 => .inr (.inr ⟨rfl, fun k' => k'.2 ⟨by show (a : Int) ≤ k; omega, by show (k : Int) < (a : Int) + (m : Int); omega⟩, fun t ht => hok.apart t k ht (hf k h1 h2)⟩))
    (fun k y hk hy hw => by
      have hn : ¬ within ((a : Int), (m : Int)) k := fun hin => hk (by have h1 := hin.1; have h2 := hin.2; simp only at h1 h2; omega)
      rcases hw with ⟨h1, h2⟩ | h | ⟨h1, h2, h3⟩
      · exact .inl ⟨h1, h2, hn⟩
      · exact .inr (.inl h)
      · exact .inr (.inr ⟨h1, fun h => h2 h.1, h3⟩))
theorem who_grew (h : WhoS S l) (hok : S.Ok) {a m : Nat} (hta : IsTail S a) (hp : l.length ≤ a + m) : WhoS (GrewS S a m) (setP l a m (-2)) := by
  obtain ⟨k1, k2, k3, k4⟩ := hta
  have hl := h.1
  have ha : a ≤ l.length := by omega
  refine h.set_ ha (by rw [Nat.max_eq_right hp]; show ((a + m : Nat) : Int) = (a : Int) + (m : Int); omega) (fun k h1 h2 => .inr (.inr ⟨rfl, fun k' => ?_, fun t ht => ?_⟩)) (fun k y hk hy hw => ?_)
  · have := k'.2
    omega
  · have h3 := (hok.held t k ht).2.2
    exact hok.apart t k ht (k1 k (by omega) h3)
  · have hlt : k < l.length := (List.getElem?_eq_some_iff.1 hy).1
    rcases hw with ⟨h1, h2⟩ | h | ⟨h1, h2, h3⟩
    · exact .inl ⟨h1, h2, by omega⟩
    · exact .inr (.inl h)
    · exact .inr (.inr ⟨h1, fun h => h2 h.1, h3⟩)
theorem who_grown (h : WhoS S l) (hok : S.Ok) {m : Nat} : WhoS { S with pages := S.pages + m } (setP l l.length m (-2)) := by
  have hl := h.1
  refine h.set_ (Nat.le_refl _) (by rw [Nat.max_eq_right (by omega)]; show ((l.length + m : Nat) : Int) = S.pages + (m : Int); omega) (fun k h1 h2 => .inr (.inr ⟨rfl, fun k' => ?_, fun t ht => ?_⟩)) (fun k y hk hy hw => hw)
  · have := (hok.free k k').2
    omega
  · have := (hok.held t k ht).2.2
    omega
theorem who_gave (h : WhoS S l) (hok : S.Ok) {a m : Nat} {t : Int} (ht : 0 ≤ t) (hp : a + m ≤ l.length) (hu : Unused S ((a : Int), (m : Int))) : WhoS (GaveS S t ((a : Int), (m : Int))) (setP l a m t) :=
  h.set_ (by omega) (by rw [Nat.max_eq_left hp]; exact h.1)
    (fun k h1 h2 => .inr (.inl ⟨ht, .inr ⟨rfl, by show (a : Int) ≤ k; omega, by show (k : Int) < (a : Int) + (m : Int); omega⟩⟩))
    (fun k y hk hy hw => by
      have hn : ¬ within ((a : Int), (m : Int)) k := fun hin => hk (by have h1 := hin.1; have h2 := hin.2; simp only at h1 h2; omega)
      rcases hw with h | ⟨h1, h2⟩ | ⟨h1, h2, h3⟩
      · exact .inl h
      · exact .inr (.inl ⟨h1, .inl h2⟩)
      · exact .inr (.inr ⟨h1, h2, fun u hu => by
          rcases hu with hu | ⟨_, hu⟩
          · exact h3 u hu
          · exact hn hu⟩))
def stlP (t o x : Int) : Int := if 0 ≤ x ∧ x < t - 1 ∧ x ≤ o then -1 else x
theorem who_settled (h : WhoS S l) (hok : S.Ok) (t o : Int) : WhoS (SettledS S (min (max t 0 - 2) o)) (l.map (stlP t o)) := by
  refine ⟨by rw [List.length_map]; exact h.1, fun k y hy => ?_⟩
  rw [List.getElem?_map] at hy
  cases hx : l[k]? with
  | none => rw [hx] at hy; cases hy
  | some x =>
    rw [hx] at hy
    simp only [Option.map_some, Option.some.injEq] at hy
    subst hy
    unfold stlP
    rcases h.2 k x hx with ⟨h1, h2⟩ | ⟨h1, h2⟩ | ⟨h1, h2, h3⟩
    · rw [if_neg (by omega)]
      exact .inl ⟨h1, .inl h2⟩
    · by_cases hc : 0 ≤ x ∧ x < t - 1 ∧ x ≤ o
      · rw [if_pos hc]
        exact .inl ⟨rfl, .inr ⟨x, by omega, h2⟩⟩
      · rw [if_neg hc]
        exact .inr (.inl ⟨h1, by omega, h2⟩)
    · rw [if_neg (by omega)]
      refine .inr (.inr ⟨h1, fun k' => ?_, fun u hu => h3 u hu.2⟩)
      rcases k' with k' | ⟨u, _, hu⟩
      · exact h2 k'
      · exact h3 u hu
end
end Go.Proofs.YtmadlckladohbaaGreat

/-
  The document's pool in memory; set.
-/
set_option linter.unusedVariables false
namespace Go.Proofs.YtmadlckladohbaaGreat
open Go.RowKit Go.Shelf

/-- A slice value that holds these numbers. -/
def Wh (w : World) (v : Value) (l : List Int) : Prop := ∃ A c, v = .slice A l.length c ∧ (A = none → l.length = 0 ∧ c = 0) ∧ ∀ ad, A = some ad → ∃ b off, ad = ⟨b, off, none⟩ ∧ b < w.heap.size ∧ ∀ j u, (ic l)[j]? = some u → w.cell? ⟨b, off + j, none⟩ = some u
section
variable {w w' : World} {v : Value} {l : List Int}
theorem Wh.later (h : Wh w v l) (ho : Only (w.heap.size ≤ ·) w w') : Wh w' v l := by
  obtain ⟨A, c, e, h1, h2⟩ := h
  refine ⟨A, c, e, h1, fun ad he => ?_⟩
  obtain ⟨b, off, e2, hb, hc⟩ := h2 ad he
  exact ⟨b, off, e2, Nat.lt_of_lt_of_le hb ho.size, fun j u hu => (ho.cell (p := ⟨b, off + j, none⟩) (Nat.not_le.2 hb)).trans (hc j u hu)⟩
theorem Wh.form (h : Wh w v l) : ∃ A n c, v = .slice A n c := by
  obtain ⟨A, c, e, _⟩ := h
  exact ⟨A, _, c, e⟩
theorem Wh.at_ (h : Wh w v l) {k : Nat} (hk : k < l.length) : ∃ b off c x, v = .slice (some ⟨b, off, none⟩) l.length c ∧ l[k]? = some x ∧ w.cell? ⟨b, off + k, none⟩ = some (.int .i64 x) := by
  obtain ⟨A, c, e, h1, h2⟩ := h
  cases A with
  | none => have := h1 rfl; omega
  | some ad =>
    obtain ⟨b, off, rfl, hb, hc⟩ := h2 ad rfl
    refine ⟨b, off, c, l[k], e, List.getElem?_eq_getElem hk, hc k _ ?_⟩
    rw [ic, List.getElem?_map, List.getElem?_eq_getElem hk]
    rfl
theorem own_wh {B n : Nat} (h : w.ownsRow B 3 1 v n (ic l)) (hn : n = l.length) (ho : Only (fun k => k < B ∨ w.heap.size ≤ k) w w') : Wh w' v l := by
  rcases Joins.ownsRow_forms h with ⟨rfl, rfl⟩ | ⟨g, cap, rfl⟩
  · exact ⟨none, 0, by rw [← hn], fun _ => ⟨hn.symm, rfl⟩, fun ad e => by cases e⟩
  · have hlt := World.ownsRow.lt h g rfl
    refine ⟨some ⟨g, 0, none⟩, cap, by rw [hn], fun e => (by cases e), fun ad e => ⟨g, 0, (Option.some.inj e).symm, Nat.lt_of_lt_of_le hlt.2 ho.size, fun j u hu => ?_⟩⟩
    have hj : j < n := by
      have := (List.getElem?_eq_some_iff.1 hu).1
      rwa [ic, List.length_map, ← hn] at this
    rw [Nat.zero_add, ho.cell (p := ⟨g, j, none⟩) (by rintro (h' | h') <;> simp only at h' <;> omega), h.cellAt _ (by omega)]
    exact hu
theorem load_pool {q : Nat} {x : Value} {lim : Int} (h : Blk w q 39 [x, .int .i64 lim]) : (loadVar 39 ⟨q, 0, none⟩).run Tryz.prog w = .ok (.agg #[x, .int .i64 lim]) w := by
  have hl := run_loadCells_list (P := Tryz.prog) w ⟨q, 0, none⟩ [x, .int .i64 lim] (fun j z hz => by rw [Addr.add_lit, h.cell, Nat.zero_add]; exact hz)
  simp only [List.length_cons, List.length_nil] at hl
  simp [loadVar, hl]
theorem iown_set {B g n cap : Nat} {xs : List Value} (h : w.ownsRow B 3 1 (.slice (some ⟨g, 0, none⟩) n cap) n xs) (i : Nat) (u : Value) :
    (w.setCell ⟨g, i, none⟩ u).ownsRow B 3 1 (.slice (some ⟨g, 0, none⟩) n cap) n (xs.set i u) := by
  obtain ⟨h1, h2⟩ := h
  refine ⟨by rw [List.length_set]; exact h1, ?_⟩
  rcases h2 with ⟨e, _⟩ | ⟨g', cap', cur, e, hb, hg, hn, hm, hs, ht⟩
  · cases e
  · simp only [Value.slice.injEq, Option.some.injEq, Addr.mk.injEq, and_true, true_and] at e
    obtain ⟨rfl, rfl⟩ := e
    refine .inr ⟨g, cap, (cur.toList.set i u).toArray, rfl, hb, ?_, hn, hm, by simpa using hs, ?_⟩
    · have := Blk.set_ (w := w) (g := g) (t := 3) (cs := cur.toList) (by unfold Blk; simpa using hg) i u
      exact this
    · rw [← ht]
      simp [List.take_set]
theorem ic_len (l : List Int) : (ic l).length = l.length := by rw [ic, List.length_map]
theorem ic_set (l : List Int) (i : Nat) (x : Int) : (ic l).set i (.int .i64 x) = ic (l.set i x) := by
  unfold ic
  rw [List.map_set]
end
/-- The document's pool comes back. -/
def GaveP (w : World) (lim : Int) (l : List Int) (e : Ending) (w' : World) : Prop := (∃ v, e = .returned (.agg #[v, .int .i64 lim]) ∧ Wh w' v l) ∧ Only (w.heap.size ≤ ·) w w'

set_option maxRecDepth 100000 in
set_option maxHeartbeats 6400000 in
theorem rset_c (w : World) (v : Value) (lim x : Int) (a m : Nat) (l : List Int) (h : Wh w v l) (ha : a ≤ l.length) (hb : a + m ≤ 32768) (hl : l.length ≤ 32768) :
    Calls Tryz.prog 36 #[.agg #[v, .int .i64 lim], .int .i64 a, .int .i64 m, .int .i64 x] w (GaveP w lim (setP l a m x)) := by
  obtain ⟨i0, hi0, hz0, hz1, hz2⟩ := info_parts infoI
  have HI := Lib.hid (And.intro hi0 (And.intro hz0 (And.intro hz1 hz2)))
  clear hi0 hz0 hz1 hz2
  obtain ⟨A, c, rfl, hA, hsrc⟩ := h
  obtain ⟨n, hn⟩ : ∃ n, n = l.length := ⟨_, rfl⟩
  rw [← hn] at ha hl hA ⊢
  obtain ⟨w2, hw2⟩ : ∃ w2, w2 = (w.alloc (.cells #[.slice A n c, .int .i64 lim] 39)).alloc (.cells #[.slice none 0 0, .int .i64 0] 39) := ⟨_, rfl⟩
  obtain ⟨b1, hb1⟩ : ∃ b1, b1 = w.heap.size := ⟨_, rfl⟩
  obtain ⟨b2, hb2⟩ : ∃ b2, b2 = w.heap.size + 1 := ⟨_, rfl⟩
  have HB1 : Hid (Blk w2 b1 39 [.slice A n c, .int .i64 lim]) := Lib.hid (by
    rw [hw2, hb1]
    exact (Blk.new w _ [.slice A n c, .int .i64 lim]).alloc _)
  have HB2 : Hid (Blk w2 b2 39 [.slice none 0 0, .int .i64 0]) := Lib.hid (by
    rw [hw2, hb2]
    have := Blk.new (w.alloc (.cells #[.slice A n c, .int .i64 lim] 39)) 39 [.slice none 0 0, .int .i64 0]
    rwa [show (w.alloc (.cells #[.slice A n c, .int .i64 lim] 39)).heap.size = w.heap.size + 1 by simp] at this)
  have ho2 : Only (w.heap.size ≤ ·) w w2 := by rw [hw2]; exact ((Only.refl _ w).alloc (fun _ h => h) _).alloc (fun _ h => h) _
  have HO := Lib.hid ho2
  obtain ⟨B, hB⟩ : ∃ B, B = w2.heap.size := ⟨_, rfl⟩
  have hb3 : w.heap.size ≤ b1 ∧ b1 < B ∧ w.heap.size ≤ b2 ∧ b2 < B ∧ w.heap.size ≤ B ∧ b1 ≠ b2 := by
    have h1 := HB1.out.lt
    have h2 := HB2.out.lt
    omega
  have HBN := Lib.hid hb3
  have HBB : Hid (B = b2 + 1) := Lib.hid (by rw [hB, hb2, hw2]; simp)
  have HBZ := Lib.hid hB
  have HEQ : Hid (w2 = (w.alloc (.cells #[.slice A n c, .int .i64 lim] 39)).alloc (.cells #[.slice none 0 0, .int .i64 0] 39) ∧ b1 = w.heap.size ∧ b2 = w.heap.size + 1) := Lib.hid ⟨hw2, hb1, hb2⟩
  have HSRC : Hid ((A = none → n = 0 ∧ c = 0) ∧ ∀ W, Only (w.heap.size ≤ ·) w W → ∀ ad, A = some ad → ∀ j u, (ic l)[j]? = some u → W.cell? (ad.add j) = some u) := Lib.hid ⟨hA, fun W hW ad he j u hu => by
    obtain ⟨b, off, rfl, hbl, hc⟩ := hsrc ad he
    rw [Addr.add_lit]
    exact (hW.cell (p := ⟨b, off + j, none⟩) (Nat.not_le.2 hbl)).trans (hc j u hu)⟩
  have HN := Lib.hid hn
  have HE0 : Hid ((w2.alloc (.cells #[] 3)).ownsRow B 3 1 (.slice (some ⟨w2.heap.size, 0, none⟩) 0 0) 0 []) := Lib.hid (World.ownsRow_made (size := 1) (base := B) (e := 3) w2 #[] 0 (by omega) (by simp [maxLen]) (by simp))
  have HOE : Hid (Only (w.heap.size ≤ ·) w (w2.alloc (.cells #[] 3))) := Lib.hid (ho2.alloc (fun _ h => h) _)
  have HB1E := Lib.hid (HB1.out.alloc (.cells #[] 3))
  have HB2E := Lib.hid (HB2.out.alloc (.cells #[] 3))
  have HBE : Hid (B ≤ (w2.alloc (.cells #[] 3)).heap.size) := Lib.hid (by simp; omega)
  clear hsrc hA hn hw2 hb1 hb2 ho2 hB
  go_enter Tryz.func36, Tryz.ntmps36
  go_upto_region 1 with (fail)
  rw [← HEQ.out.1, ← HEQ.out.2.2, ← HEQ.out.2.1]
  obtain ⟨q0, q1⟩ := box_two HB1.out
  obtain ⟨r0, r1⟩ := box_two HB1E.out
  go_wp2_with (at_builtin; refine wpList_append_src _ rfl (.tmp 11) (.tmp 13) 37 rfl B 3 i0 z0 1 8 Tryz.underlying37 HI.out.1 HI.out.2.1 HI.out.2.2.1 HI.out.2.2.2 (by rfl) (by omega) _ 0 _ rfl HE0.out A n c (ic l) rfl HSRC.out.1 (by rw [ic, List.length_map, ← HN.out, Nat.mul_one]) (HSRC.out.2 _ HOE.out) (ic_one _) (by simp only [maxLen]; omega) (by omega) HBE.out ?_; intro v4 w4 ho4 hg4; have HW4 : Hid (w4.ownsRow B 3 1 v4 n (ic l)) := Lib.hid (by have := ho4; simpa using this); have HB14 := Lib.hid (HB1E.out.grown hg4 (own_ne HE0.out HB1E.out (by decide))); have HB24 := Lib.hid (HB2E.out.grown hg4 (own_ne HE0.out HB2E.out (by decide))); have HO4 := Lib.hid (HOE.out.grown hg4 (fun _ h => h) (fun g hg => by have h1 := (World.ownsRow.lt HE0.out g hg).1; have h2 := HBN.out; omega)); clear ho4 hg4)
  go_loopw [9, 10] (fun s i wr => ∃ (q N : Nat) (V : Value), a ≤ q ∧ q ≤ a + m ∧ q ≤ N ∧ N ≤ 32768 ∧ s = V ∧ i = .int .i64 (q : Int) ∧ Hid (N = (setP l a (q - a) x).length) ∧ Hid (wr.ownsRow B 3 1 V N (ic (setP l a (q - a) x))) ∧ Hid (Blk wr b1 39 [.slice A n c, .int .i64 lim]) ∧ Hid (Blk wr b2 39 [.slice none 0 0, .int .i64 0]) ∧ Hid (Only (w.heap.size ≤ ·) w wr)) (fun _ i _ => a + m - (intOf i).toNat)
  case atStart => exact ⟨a, n, v4, Nat.le_refl _, by omega, ha, hl, rfl, rfl, Lib.hid (by rw [Nat.sub_self]; exact HN.out), Lib.hid (by rw [Nat.sub_self]; exact HW4.out), HB14, HB24, HO4⟩
  case round =>
    obtain ⟨q, N, V, hq1, hq2, hqN, hN, rfl, rfl, HNL, HW, HB1, HB2, HO⟩ := hrel
    have aw : IntKind.i64.wrap ((a : Int) + (m : Int)) = (a : Int) + (m : Int) := IntWalk.i64_in _ (by omega)
    obtain ⟨A5, c5, rfl⟩ := own_form HW.out
    by_cases hlt : q < a + m
    · have hlt' : (q : Int) < (a : Int) + (m : Int) := by omega
      have HSUC : Hid (setP l a (q + 1 - a) x = if q = N then setP l a (q - a) x ++ [x] else (setP l a (q - a) x).set q x) := Lib.hid (by
        rw [show q + 1 - a = q - a + 1 by omega, setP_succ, show a + (q - a) = q by omega, ← HNL.out])
      by_cases hqe : q = N
      · subst hqe
        have HBL : Hid (Blk (wr.alloc (.cells #[.int .i64 x] 3)) wr.heap.size 3 [.int .i64 x]) := Blk.new wr _ _
        have HSU : Hid (ic (setP l a (q + 1 - a) x) = ic (setP l a (q - a) x) ++ ic [x]) := Lib.hid (by rw [HSUC.out, if_pos rfl, ic_append])
        have HLE : Hid ((setP l a (q + 1 - a) x).length = q + 1) := Lib.hid (by rw [HSUC.out, if_pos rfl, List.length_append, ← HNL.out]; rfl)
        go_wp2_with (at_builtin; refine wpList_append_own _ rfl (.tmp 27) (.tmp 29) 37 rfl B 3 i0 z0 1 8 Tryz.underlying37 HI.out.1 HI.out.2.1 HI.out.2.2.1 HI.out.2.2.2 (by rfl) (by omega) _ q _ rfl (World.ownsRow.alloc HW.out _) ⟨wr.heap.size, 0, none⟩ 1 1 (ic [x]) rfl rfl (fun j u hu => by rw [Addr.add_lit, HBL.out.cell, Nat.zero_add]; exact hu) (ic_one _) (by simp only [maxLen]; omega) (by omega) (by have h1 := HB2.out.lt; have h2 := HBB.out; simp; omega) ?_; intro v5 w5 ho5 hg5 _; obtain ⟨g5, cap5, rfl⟩ := ownsRow_succ ho5; have HW5 : Hid (w5.ownsRow B 3 1 (.slice (some ⟨g5, 0, none⟩) (q + 1) cap5) (q + 1) (ic (setP l a (q + 1 - a) x))) := Lib.hid (by rw [HSU.out]; exact ho5); have HO5 := Lib.hid ((HO.out.alloc (fun _ h => h) (.cells #[.int .i64 x] 3)).grown hg5 (fun _ h => h) (fun g hg => by have h1 := (World.ownsRow.lt HW.out g hg).1; have h2 := HBN.out; omega)); have HB15 := Lib.hid ((HB1.out.alloc (.cells #[.int .i64 x] 3)).grown hg5 (own_ne HW.out HB1.out (by decide))); have HB25 := Lib.hid ((HB2.out.alloc (.cells #[.int .i64 x] 3)).grown hg5 (own_ne HW.out HB2.out (by decide))); have hlt5 := World.ownsRow.lt HW5.out g5 rfl; have HG5 := Lib.hid hlt5; have hx5 : (ic (setP l a (q + 1 - a) x))[q]? = some (.int .i64 x) := (by rw [HSU.out, List.getElem?_append_right (by rw [ic_len, ← HNL.out]; exact Nat.le_refl _), ic_len, ← HNL.out, Nat.sub_self]; rfl); have hc5 := (HW5.out.cellAt q (by omega)).trans hx5; have hf5 := HW5.out.frozenAt q; have HX5 := Lib.hid hx5; clear ho5 hg5 hlt5 hx5)
        have HIDE : Hid ((ic (setP l a (q + 1 - a) x)).set q (.int .i64 x) = ic (setP l a (q + 1 - a) x)) := Lib.hid (by
          obtain ⟨h1, h2⟩ := List.getElem?_eq_some_iff.1 HX5.out
          rw [← h2]
          exact List.set_getElem_self h1)
        go_roundw
        case rel => exact ⟨q + 1, q + 1, _, by omega, by omega, Nat.le_refl _, by omega, rfl, by go_num, Lib.hid HLE.out.symm, Lib.hid (by have := iown_set HW5.out q (.int .i64 x); rwa [HIDE.out] at this), Lib.hid (HB15.out.far (p := ⟨g5, q, none⟩) (by have h1 := HG5.out; have h2 := HBN.out; simp only; omega) _), Lib.hid (HB25.out.far (p := ⟨g5, q, none⟩) (by have h1 := HG5.out; have h2 := HBN.out; simp only; omega) _), Lib.hid (HO5.out.setCell (p := ⟨g5, q, none⟩) (by have h1 := HG5.out; have h2 := HBN.out; simp only; omega) _)⟩
        case measure => simp [intOf]; omega
      · have hqe' : ¬ (q : Int) = (N : Int) := by omega
        have hlt2 : (q : Int) < (N : Int) := by omega
        have HSU : Hid (setP l a (q + 1 - a) x = (setP l a (q - a) x).set q x) := Lib.hid (by rw [HSUC.out, if_neg hqe])
        obtain ⟨g5, cap5, e5, hg1, hg2⟩ := World.ownsRow.form HW.out (by omega)
        simp only [Value.slice.injEq, true_and] at e5
        obtain ⟨rfl, rfl⟩ := e5
        obtain ⟨y, hy⟩ : ∃ y, (setP l a (q - a) x)[q]? = some y := ⟨_, List.getElem?_eq_getElem (by rw [← HNL.out]; omega)⟩
        have hc5 : wr.cell? ⟨g5, q, none⟩ = some (.int .i64 y) := by rw [HW.out.cellAt _ (by omega), ic, List.getElem?_map, hy]; rfl
        have hf5 := HW.out.frozenAt q
        have HG5 := Lib.hid (And.intro hg1 hg2)
        clear hy hg1 hg2
        go_wp2
        go_roundw
        case rel => exact ⟨q + 1, N, _, by omega, by omega, by omega, by omega, rfl, by go_num, Lib.hid (by rw [HSU.out, List.length_set]; exact HNL.out), Lib.hid (by have := iown_set HW.out q (.int .i64 x); rwa [ic_set, ← HSU.out] at this), Lib.hid (HB1.out.far (p := ⟨g5, q, none⟩) (by have h1 := HG5.out; have h2 := HBN.out; simp only; omega) _), Lib.hid (HB2.out.far (p := ⟨g5, q, none⟩) (by have h1 := HG5.out; have h2 := HBN.out; simp only; omega) _), Lib.hid (HO.out.setCell (p := ⟨g5, q, none⟩) (by have h1 := HG5.out; have h2 := HBN.out; simp only; omega) _)⟩
        case measure => simp [intOf]; omega
    · obtain rfl : q = a + m := by omega
      have hkm : ¬ ((a : Int) + (m : Int)) < (a : Int) + (m : Int) := by omega
      have hkm2 : ¬ ((a + m : Nat) : Int) < (a : Int) + (m : Int) := by omega
      rw [Nat.add_sub_cancel_left] at HNL HW
      obtain ⟨q0, q1⟩ := box_two HB1.out
      obtain ⟨r0, r1⟩ := box_two HB2.out
      have f0 := HB1.out.frozen 0
      have g0 := HB2.out.frozen 0
      have g1 := HB2.out.frozen 1
      have HF1 : Hid (Blk (((wr.setCell ⟨b1, 0, none⟩ (.slice A5 N c5)).setCell ⟨b2, 0, none⟩ (.slice A5 N c5)).setCell ⟨b2, 1, none⟩ (.int .i64 lim)) b2 39 [.slice A5 N c5, .int .i64 lim]) := Lib.hid (((HB2.out.far (p := ⟨b1, 0, none⟩) (fun e => HBN.out.2.2.2.2.2 e.symm) _).set_ 0 _).set_ 1 _)
      have HF2 : Hid (Only (fun k => k < B ∨ wr.heap.size ≤ k) wr (((wr.setCell ⟨b1, 0, none⟩ (.slice A5 N c5)).setCell ⟨b2, 0, none⟩ (.slice A5 N c5)).setCell ⟨b2, 1, none⟩ (.int .i64 lim))) := Lib.hid ((((Only.refl _ wr).setCell (p := ⟨b1, 0, none⟩) (.inl HBN.out.2.1) _).setCell (p := ⟨b2, 0, none⟩) (.inl HBN.out.2.2.2.1) _).setCell (p := ⟨b2, 1, none⟩) (.inl HBN.out.2.2.2.1) _)
      have HF3 : Hid (Only (w.heap.size ≤ ·) w (((wr.setCell ⟨b1, 0, none⟩ (.slice A5 N c5)).setCell ⟨b2, 0, none⟩ (.slice A5 N c5)).setCell ⟨b2, 1, none⟩ (.int .i64 lim))) := Lib.hid (((HO.out.setCell (p := ⟨b1, 0, none⟩) HBN.out.1 _).setCell (p := ⟨b2, 0, none⟩) HBN.out.2.2.1 _).setCell (p := ⟨b2, 1, none⟩) HBN.out.2.2.1 _)
      go_wp2_with (fail)
      exact bodyPost_ret (v := .agg #[.slice A5 N c5, .int .i64 lim]) (results_cell rfl rfl (load_pool HF1.out)) rfl ⟨⟨_, rfl, own_wh HW.out HNL.out HF2.out⟩, HF3.out⟩
end Go.Proofs.YtmadlckladohbaaGreat

/-
  The document's pool: Grow.
-/
set_option linter.unusedVariables false
namespace Go.Proofs.YtmadlckladohbaaGreat
open Go.RowKit Go.Shelf

theorem results_cell3 {fn : Func} {P : Program} {p q r : Tmp} {ty : TypeId} {tmps : Array Value} {w : World} {a : Addr} {v x y : Value} (h : fn.results = #[.cell p ty, .tmp q, .tmp r]) (ha : tmps.getD p undef = .pointer (some a)) (hx : tmps.getD q undef = x) (hy : tmps.getD r undef = y) (hl : (loadVar ty a).run P w = .ok v w) :
    (results fn tmps).run P w = .ok (.tuple #[v, x, y]) w := by
  rw [Array.getD_eq_getD_getElem?] at ha hx hy
  simp only [results, h]
  simp [ha, hx, hy, asAddr, hl]
theorem results_cell2 {fn : Func} {P : Program} {p q : Tmp} {ty : TypeId} {tmps : Array Value} {w : World} {a : Addr} {v x : Value} (h : fn.results = #[.cell p ty, .tmp q]) (ha : tmps.getD p undef = .pointer (some a)) (hx : tmps.getD q undef = x) (hl : (loadVar ty a).run P w = .ok v w) :
    (results fn tmps).run P w = .ok (.tuple #[v, x]) w := by
  rw [Array.getD_eq_getD_getElem?] at ha hx
  simp only [results, h]
  simp [ha, hx, asAddr, hl]
/-- Numbers stay where only a block is written that held a slice ahead. -/
theorem Wh.off {w w' : World} {v : Value} {l : List Int} {b : Nat} {t : TypeId} {x z : Value} (h : Wh w v l) (hz : Blk w b t [x, z]) (hi : ∀ k y, x ≠ .int k y) (ho : Only (fun k => k = b) w w') (hlen : 2 ≤ l.length ∨ l = []) : Wh w' v l := by
  obtain ⟨A, c, e, h1, h2⟩ := h
  refine ⟨A, c, e, h1, fun ad he => ?_⟩
  obtain ⟨b', off, e2, hb, hc⟩ := h2 ad he
  refine ⟨b', off, e2, Nat.lt_of_lt_of_le hb ho.size, fun j u hu => ?_⟩
  by_cases hbb : b' = b
  · exfalso
    rcases hlen with hlen | rfl
    · subst hbb
      have e0 : (ic l)[0]? = some (.int .i64 l[0]) := by rw [ic, List.getElem?_map, List.getElem?_eq_getElem (by omega)]; rfl
      have e1 : (ic l)[1]? = some (.int .i64 l[1]) := by rw [ic, List.getElem?_map, List.getElem?_eq_getElem (by omega)]; rfl
      have k0 := hc 0 _ e0
      have k1 := hc 1 _ e1
      rw [hz.cell] at k0 k1
      rcases off with _ | _ | off
      · exact hi _ _ (by simpa using k0)
      · simp at k1
      · simp at k0
    · simp [ic] at hu
  · exact (ho.cell (p := ⟨b', off + j, none⟩) hbb).trans (hc j u hu)
theorem Wh.form_n {w : World} {v : Value} {l : List Int} (h : Wh w v l) {n : Nat} (hn : l.length = n) : ∃ A c, v = .slice A n c := by
  obtain ⟨A, c, e, _⟩ := h
  exact ⟨A, c, by rw [e, hn]⟩
/-- The document's pool comes back, with a number and an error. -/
def GaveT (w : World) (lim : Int) (l : List Int) (x y : Int) (e : Ending) (w' : World) : Prop := (∃ v, e = .returned (.tuple #[.agg #[v, .int .i64 lim], .int .i64 x, .int .i64 y]) ∧ Wh w' v l) ∧ Only (w.heap.size ≤ ·) w w'

set_option maxRecDepth 100000 in
set_option maxHeartbeats 6400000 in
theorem rgrow_c (w : World) (v : Value) (lim m : Int) (l : List Int) (h : Wh w v l) (hl : l.length ≤ 16384) (hlim : lim ≤ 16384) (h2 : 2 ≤ l.length) :
    Calls Tryz.prog 16 #[.agg #[v, .int .i64 lim], .int .i64 m] w (GaveT w lim (if m < 1 then l else if lim - l.length < m then l else setP l l.length m.toNat (-2)) (if m < 1 then 0 else if lim - l.length < m then 0 else l.length) (if m < 1 then 1 else if lim - l.length < m then 12 else 0)) := by
  obtain ⟨A, c, rfl, hA, hsrc⟩ := h
  have HV0 : Hid (Wh w (.slice A l.length c) l) := Lib.hid ⟨A, c, rfl, hA, hsrc⟩
  obtain ⟨n, hn⟩ : ∃ n, n = l.length := ⟨_, rfl⟩
  rw [← hn] at HV0 hl ⊢
  obtain ⟨w2, hw2⟩ : ∃ w2, w2 = (w.alloc (.cells #[.slice A n c, .int .i64 lim] 39)).alloc (.cells #[.slice none 0 0, .int .i64 0] 39) := ⟨_, rfl⟩
  obtain ⟨b1, hb1⟩ : ∃ b1, b1 = w.heap.size := ⟨_, rfl⟩
  obtain ⟨b2, hb2⟩ : ∃ b2, b2 = w.heap.size + 1 := ⟨_, rfl⟩
  have HB1 : Hid (Blk w2 b1 39 [.slice A n c, .int .i64 lim]) := Lib.hid (by
    rw [hw2, hb1]
    exact (Blk.new w _ [.slice A n c, .int .i64 lim]).alloc _)
  have HB2 : Hid (Blk w2 b2 39 [.slice none 0 0, .int .i64 0]) := Lib.hid (by
    rw [hw2, hb2]
    have := Blk.new (w.alloc (.cells #[.slice A n c, .int .i64 lim] 39)) 39 [.slice none 0 0, .int .i64 0]
    rwa [show (w.alloc (.cells #[.slice A n c, .int .i64 lim] 39)).heap.size = w.heap.size + 1 by simp] at this)
  have ho2 : Only (w.heap.size ≤ ·) w w2 := by rw [hw2]; exact ((Only.refl _ w).alloc (fun _ h => h) _).alloc (fun _ h => h) _
  have HO := Lib.hid ho2
  have HV := Lib.hid (HV0.out.later ho2)
  have HBN : Hid (w.heap.size ≤ b1 ∧ w.heap.size ≤ b2 ∧ b1 ≠ b2) := Lib.hid (by omega)
  have HEQ : Hid (w2 = (w.alloc (.cells #[.slice A n c, .int .i64 lim] 39)).alloc (.cells #[.slice none 0 0, .int .i64 0] 39) ∧ b1 = w.heap.size ∧ b2 = w.heap.size + 1) := Lib.hid ⟨hw2, hb1, hb2⟩
  have HN := Lib.hid hn
  clear hsrc hA hn hw2 hb1 hb2 ho2
  rw [← HN.out] at h2
  have HVB := Lib.hid (HV.out.later (Only.refl _ _))
  have H2 : Hid (2 ≤ l.length ∨ l = []) := Lib.hid (.inl (by rw [← HN.out]; exact h2))
  by_cases h1 : m < 1
  · rw [if_pos h1, if_pos h1, if_pos h1]
    go_enter Tryz.func16, Tryz.ntmps16
    go_upto_region 1 with (fail)
    rw [← HEQ.out.1, ← HEQ.out.2.2, ← HEQ.out.2.1]
    obtain ⟨q0, q1⟩ := box_two HB1.out
    obtain ⟨r0, r1⟩ := box_two HB2.out
    have g0 := HB2.out.frozen 0
    have g1 := HB2.out.frozen 1
    have HF1 : Hid (Blk ((w2.setCell ⟨b2, 0, none⟩ (.slice A n c)).setCell ⟨b2, 1, none⟩ (.int .i64 lim)) b2 39 [(.slice A n c), .int .i64 lim]) := Lib.hid ((HB2.out.set_ 0 _).set_ 1 _)
    have HF2 : Hid (Only (fun k => k = b2) w2 ((w2.setCell ⟨b2, 0, none⟩ (.slice A n c)).setCell ⟨b2, 1, none⟩ (.int .i64 lim))) := Lib.hid (((Only.refl (fun k => k = b2) w2).setCell (p := ⟨b2, 0, none⟩) rfl _).setCell (p := ⟨b2, 1, none⟩) rfl _)
    have HF3 : Hid (Only (w.heap.size ≤ ·) w ((w2.setCell ⟨b2, 0, none⟩ (.slice A n c)).setCell ⟨b2, 1, none⟩ (.int .i64 lim))) := Lib.hid ((HO.out.setCell (p := ⟨b2, 0, none⟩) HBN.out.2.1 _).setCell (p := ⟨b2, 1, none⟩) HBN.out.2.1 _)
    go_wp2_with (fail)
    exact bodyPost_ret (v := .tuple #[.agg #[.slice A n c, .int .i64 lim], .int .i64 0, .int .i64 1]) (results_cell3 rfl rfl rfl rfl (load_pool HF1.out)) rfl ⟨⟨_, rfl, HV.out.off HB2.out (fun _ _ => by simp) HF2.out H2.out⟩, HF3.out⟩
  · rw [if_neg h1, if_neg h1, if_neg h1]
    have hw1 : IntKind.i64.wrap ((n : Int) + m) = (n : Int) + m ∨ lim < m := by
      by_cases hq : lim < m
      · exact .inr hq
      · exact .inl (IntWalk.i64_in _ (by omega))
    by_cases hf : lim - (n : Int) < m
    · rw [if_pos hf, if_pos hf, if_pos hf]
      by_cases hq : lim < m
      · clear hw1
        go_enter Tryz.func16, Tryz.ntmps16
        go_upto_region 1 with (fail)
        rw [← HEQ.out.1, ← HEQ.out.2.2, ← HEQ.out.2.1]
        obtain ⟨q0, q1⟩ := box_two HB1.out
        obtain ⟨r0, r1⟩ := box_two HB2.out
        have g0 := HB2.out.frozen 0
        have g1 := HB2.out.frozen 1
        have HF1 : Hid (Blk ((w2.setCell ⟨b2, 0, none⟩ (.slice A n c)).setCell ⟨b2, 1, none⟩ (.int .i64 lim)) b2 39 [(.slice A n c), .int .i64 lim]) := Lib.hid ((HB2.out.set_ 0 _).set_ 1 _)
        have HF2 : Hid (Only (fun k => k = b2) w2 ((w2.setCell ⟨b2, 0, none⟩ (.slice A n c)).setCell ⟨b2, 1, none⟩ (.int .i64 lim))) := Lib.hid (((Only.refl (fun k => k = b2) w2).setCell (p := ⟨b2, 0, none⟩) rfl _).setCell (p := ⟨b2, 1, none⟩) rfl _)
        have HF3 : Hid (Only (w.heap.size ≤ ·) w ((w2.setCell ⟨b2, 0, none⟩ (.slice A n c)).setCell ⟨b2, 1, none⟩ (.int .i64 lim))) := Lib.hid ((HO.out.setCell (p := ⟨b2, 0, none⟩) HBN.out.2.1 _).setCell (p := ⟨b2, 1, none⟩) HBN.out.2.1 _)
        go_wp2_with (fail)
        exact bodyPost_ret (v := .tuple #[.agg #[.slice A n c, .int .i64 lim], .int .i64 0, .int .i64 12]) (results_cell3 rfl rfl rfl rfl (load_pool HF1.out)) rfl ⟨⟨_, rfl, HV.out.off HB2.out (fun _ _ => by simp) HF2.out H2.out⟩, HF3.out⟩
      · have hs : lim < (n : Int) + m := by omega
        have hw := hw1.resolve_right hq
        clear hw1
        go_enter Tryz.func16, Tryz.ntmps16
        go_upto_region 1 with (fail)
        rw [← HEQ.out.1, ← HEQ.out.2.2, ← HEQ.out.2.1]
        obtain ⟨q0, q1⟩ := box_two HB1.out
        obtain ⟨r0, r1⟩ := box_two HB2.out
        have g0 := HB2.out.frozen 0
        have g1 := HB2.out.frozen 1
        have HF1 : Hid (Blk ((w2.setCell ⟨b2, 0, none⟩ (.slice A n c)).setCell ⟨b2, 1, none⟩ (.int .i64 lim)) b2 39 [(.slice A n c), .int .i64 lim]) := Lib.hid ((HB2.out.set_ 0 _).set_ 1 _)
        have HF2 : Hid (Only (fun k => k = b2) w2 ((w2.setCell ⟨b2, 0, none⟩ (.slice A n c)).setCell ⟨b2, 1, none⟩ (.int .i64 lim))) := Lib.hid (((Only.refl (fun k => k = b2) w2).setCell (p := ⟨b2, 0, none⟩) rfl _).setCell (p := ⟨b2, 1, none⟩) rfl _)
        have HF3 : Hid (Only (w.heap.size ≤ ·) w ((w2.setCell ⟨b2, 0, none⟩ (.slice A n c)).setCell ⟨b2, 1, none⟩ (.int .i64 lim))) := Lib.hid ((HO.out.setCell (p := ⟨b2, 0, none⟩) HBN.out.2.1 _).setCell (p := ⟨b2, 1, none⟩) HBN.out.2.1 _)
        go_wp2_with (fail)
        exact bodyPost_ret (v := .tuple #[.agg #[.slice A n c, .int .i64 lim], .int .i64 0, .int .i64 12]) (results_cell3 rfl rfl rfl rfl (load_pool HF1.out)) rfl ⟨⟨_, rfl, HV.out.off HB2.out (fun _ _ => by simp) HF2.out H2.out⟩, HF3.out⟩
    · rw [if_neg hf, if_neg hf, if_neg hf]
      have hq : ¬ lim < m := by omega
      have hs : ¬ lim < (n : Int) + m := by omega
      have hw := hw1.resolve_right hq
      obtain ⟨k, rfl⟩ : ∃ k : Nat, m = k := ⟨m.toNat, by omega⟩
      rw [Int.toNat_natCast]
      have HSE : Hid (∀ W, Only (w2.heap.size ≤ ·) w2 W → Calls Tryz.prog 36 #[.agg #[.slice A n c, .int .i64 lim], .int .i64 (n : Int), .int .i64 (k : Int), .int .i64 (-2)] W (GaveP W lim (setP l n k (-2)))) := Lib.hid fun W hW => rset_c W _ lim (-2) n k l (HV.out.later hW) (by rw [HN.out]; exact Nat.le_refl _) (by omega) (by rw [← HN.out]; omega)
      clear hw1
      go_enter Tryz.func16, Tryz.ntmps16
      go_upto_region 1 with (fail)
      rw [← HEQ.out.1, ← HEQ.out.2.2, ← HEQ.out.2.1]
      obtain ⟨q0, q1⟩ := box_two HB1.out
      obtain ⟨r0, r1⟩ := box_two HB2.out
      have g0 := HB2.out.frozen 0
      have g1 := HB2.out.frozen 1
      go_wp2_with (go_at_call 36; (with_reducible refine (HSE.out _ (Only.refl _ _)).mono ?_); rintro e w5 ⟨⟨v5, rfl, hv5⟩, ho5⟩; obtain ⟨A5, N5, c5, rfl⟩ := hv5.form; have HV5 := Lib.hid hv5; have HB25 := Lib.hid (HB2.out.later ho5); have HO5 := Lib.hid (on_new HO.out ho5); have HOL5 := Lib.hid ho5; have r50 := (box_two HB25.out).1; have r51 := (box_two HB25.out).2; have g50 := HB25.out.frozen 0; have g51 := HB25.out.frozen 1; clear hv5 ho5)
      have HF1 : Hid (Blk ((w5.setCell ⟨b2, 0, none⟩ (.slice A5 N5 c5)).setCell ⟨b2, 1, none⟩ (.int .i64 lim)) b2 39 [(.slice A5 N5 c5), .int .i64 lim]) := Lib.hid ((HB25.out.set_ 0 _).set_ 1 _)
      have HF2 : Hid (Only (fun k => k = b2) w5 ((w5.setCell ⟨b2, 0, none⟩ (.slice A5 N5 c5)).setCell ⟨b2, 1, none⟩ (.int .i64 lim))) := Lib.hid (((Only.refl (fun k => k = b2) w5).setCell (p := ⟨b2, 0, none⟩) rfl _).setCell (p := ⟨b2, 1, none⟩) rfl _)
      have HF3 : Hid (Only (w.heap.size ≤ ·) w ((w5.setCell ⟨b2, 0, none⟩ (.slice A5 N5 c5)).setCell ⟨b2, 1, none⟩ (.int .i64 lim))) := Lib.hid ((HO5.out.setCell (p := ⟨b2, 0, none⟩) HBN.out.2.1 _).setCell (p := ⟨b2, 1, none⟩) HBN.out.2.1 _)
      exact bodyPost_ret (v := .tuple #[.agg #[.slice A5 N5 c5, .int .i64 lim], .int .i64 (n : Int), .int .i64 0]) (results_cell3 rfl rfl rfl rfl (load_pool HF1.out)) rfl ⟨⟨_, rfl, HV5.out.off HB25.out (fun _ _ => by simp) HF2.out (.inl (by rw [setP_length _ _ (by rw [HN.out]; exact Nat.le_refl _)]; omega))⟩, HF3.out⟩
end Go.Proofs.YtmadlckladohbaaGreat

/-
  The document's pool: Runs.
-/
set_option linter.unusedVariables false
namespace Go.Proofs.YtmadlckladohbaaGreat
open Go.RowKit Go.Shelf

theorem bown {w : World} {B : Nat} {v : Value} {f : Nat → Bool} {m : Nat} (hm : 0 < m) (h : w.ownsRow B 4 1 v m (bf f m)) : ∃ g c rest, v = .slice (some ⟨g, 0, none⟩) m c ∧ B ≤ g ∧ Blk w g 4 (bf f m ++ rest) := by
  rcases h.2 with ⟨_, hz⟩ | ⟨g, cap, cur, e, hb, hg, hc, hm', hs, ht⟩
  · omega
  · refine ⟨g, cap, cur.toList.drop m, e, hb, ?_⟩
    unfold Blk
    have : bf f m = cur.toList.take m := by simpa using ht.symm
    rw [this, List.take_append_drop]
    exact hg
theorem bf_one (f : Nat → Bool) (m : Nat) : ∀ u ∈ bf f m, u.oneCell' = true := by
  intro u hu
  obtain ⟨x, _, rfl⟩ := List.mem_map.1 hu
  rfl
theorem bf_snoc (f : Nat → Bool) (m : Nat) : bf f (m + 1) = bf f m ++ [.bool (f m)] := by simp [bf, List.range_succ]
theorem b_one (b : Bool) : ∀ u ∈ [Value.bool b], u.oneCell' = true := by
  intro u hu
  simp at hu
  subst hu
  rfl
/-- A row of the document's runs comes back. -/
def RunsSays (w : World) (S : Int → Prop) (e : Ending) (w' : World) : Prop := (∃ A n c u, e = .returned (.slice A n c) ∧ Row w' (.slice A n c) u ∧ IsRow u S) ∧ Only (w.heap.size ≤ ·) w w'
theorem runs_says {W : World} {g c m : Nat} {f : Nat → Bool} {rest : List Value} {S : Int → Prop} (h : Blk W g 4 (bf f m ++ rest)) (hm : m ≤ 32768) (hS : ∀ p, Bit f m p ↔ S p) : Calls Tryz.prog 54 #[.slice (some ⟨g, 0, none⟩) m c] W (RunsSays W S) :=
  (Runs_c W g c m f rest h hm).mono fun e w' ⟨v, e1, h, ho⟩ => by
    obtain ⟨A, n, c', rfl⟩ := h.row.form
    exact ⟨⟨A, n, c', _, e1, h.row, (runsOf_row f m hm).congr hS⟩, ho⟩
def whoB (t x : Int) : Bool := decide (x = t) || (decide (t = -3) && decide (0 ≤ x))
def whoF (l : List Int) (b : Int → Bool) (k : Nat) : Bool := b (l.getD k 0)
theorem whoF_at {l : List Int} {b : Int → Bool} {k : Nat} {x : Int} (h : l[k]? = some x) : whoF l b k = b x := by
  unfold whoF
  rw [List.getD_eq_getElem?_getD, h]
  rfl
theorem whoF_bit {l : List Int} {b : Int → Bool} {S : Int → Prop} (h : ∀ (k : Nat) x, l[k]? = some x → (b x = true ↔ S k)) (hr : ∀ p, S p → 0 ≤ p ∧ p < l.length) (p : Int) : Bit (whoF l b) l.length p ↔ S p := by
  constructor
  · rintro ⟨q, h1, rfl, h3⟩
    have hx : l[q]? = some l[q] := List.getElem?_eq_getElem h1
    rw [whoF_at hx] at h3
    exact (h q _ hx).1 h3
  · intro hp
    obtain ⟨h1, h2⟩ := hr p hp
    obtain ⟨q, rfl⟩ : ∃ q : Nat, p = q := ⟨p.toNat, by omega⟩
    have hx : l[q]? = some l[q] := List.getElem?_eq_getElem (by omega)
    exact ⟨q, by omega, rfl, by rw [whoF_at hx]; exact (h q _ hx).2 hp⟩

set_option maxRecDepth 100000 in
set_option maxHeartbeats 6400000 in
theorem rruns_c (w : World) (v : Value) (lim t : Int) (l : List Int) (S : Int → Prop) (h : Wh w v l) (hl : l.length ≤ 16384) (hp : 0 < l.length) (hS : ∀ p, Bit (whoF l (whoB t)) l.length p ↔ S p) :
    Calls Tryz.prog 32 #[.agg #[v, .int .i64 lim], .int .i64 t] w (RunsSays w S) := by
  obtain ⟨A, c, rfl, hA, hsrc⟩ := h
  have HV0 : Hid (Wh w (.slice A l.length c) l) := Lib.hid ⟨A, c, rfl, hA, hsrc⟩
  obtain ⟨n, hn⟩ : ∃ n, n = l.length := ⟨_, rfl⟩
  rw [← hn] at HV0 hl hp ⊢
  obtain ⟨iB, hi0, hz0, hz1, hz2⟩ := info_parts infoB
  have HI := Lib.hid (And.intro hi0 (And.intro hz0 (And.intro hz1 hz2)))
  obtain ⟨w2, hw2⟩ : ∃ w2, w2 = w.alloc (.cells #[.slice A n c, .int .i64 lim] 39) := ⟨_, rfl⟩
  obtain ⟨b1, hb1⟩ : ∃ b1, b1 = w.heap.size := ⟨_, rfl⟩
  obtain ⟨B, hB⟩ : ∃ B, B = w2.heap.size := ⟨_, rfl⟩
  have HB1 : Hid (Blk w2 b1 39 [.slice A n c, .int .i64 lim]) := Lib.hid (by rw [hw2, hb1]; exact Blk.new w _ [.slice A n c, .int .i64 lim])
  have HBB : Hid (B = b1 + 1) := Lib.hid (by rw [hB, hb1, hw2]; simp)
  have HBN : Hid (w.heap.size ≤ b1) := Lib.hid (by omega)
  have ho2 : Only (w.heap.size ≤ ·) w w2 := by rw [hw2]; exact (Only.refl _ w).alloc (fun _ h => h) _
  have HO := Lib.hid ho2
  have HV := HV0
  have HEQ : Hid (w2 = w.alloc (.cells #[.slice A n c, .int .i64 lim] 39) ∧ b1 = w.heap.size) := Lib.hid ⟨hw2, hb1⟩
  have HN := Lib.hid hn
  have HSB := Lib.hid hS
  clear hsrc hA hn hw2 hb1 ho2 hB hi0 hz0 hz1 hz2 hS
  go_enter Tryz.func32, Tryz.ntmps32
  go_upto_region 1 with (fail)
  rw [← HEQ.out.1, ← HEQ.out.2]
  go_wp2_with (fail)
  go_loopg [5, 6] n (fun gk0 s i wr => ∃ (k : Nat) (V : Value), gk0 = n - k ∧ k ≤ n ∧ s = V ∧ i = .int .i64 (k : Int) ∧ Hid (wr.ownsRow B 4 1 V k (bf (whoF l (whoB t)) k)) ∧ Hid (Blk wr b1 39 [.slice A n c, .int .i64 lim]) ∧ Hid (Only (w.heap.size ≤ ·) w wr))
  case atStart => exact ⟨0, _, rfl, Nat.zero_le _, rfl, rfl, Lib.hid (World.ownsRow_nil _ _ _ _), HB1, HO⟩
  case round =>
    obtain ⟨k, V, rfl, hk, rfl, rfl, HW, HB1, HO⟩ := hrel
    obtain ⟨A5, c5, rfl⟩ := own_form HW.out
    obtain ⟨q0, q1⟩ := box_two HB1.out
    by_cases hlt : k < n
    · obtain ⟨gx, off, c6, x, e6, hx, hc⟩ := (HV.out.later HO.out).at_ (k := k) (by rw [← HN.out]; exact hlt)
      simp only [Value.slice.injEq] at e6
      obtain ⟨rfl, e7, rfl⟩ := e6
      clear e7
      have hlt' : (k : Int) < (n : Int) := by omega
      have HFX : Hid (whoF l (whoB t) k = (whoB t) x) := Lib.hid (whoF_at hx)
      clear hx
      by_cases d1 : x = t
      ·
        have HBV : Hid ((whoB t) x = true) := Lib.hid (by simp [whoB, d1])
        have HBL : Hid (Blk (wr.alloc (.cells #[.bool true] 4)) wr.heap.size 4 [.bool true]) := Blk.new wr _ _
        have HSN : Hid (bf (whoF l (whoB t)) (k + 1) = bf (whoF l (whoB t)) k ++ [.bool true]) := Lib.hid (by rw [bf_snoc, HFX.out, HBV.out])
        go_wp2_with (at_builtin; refine wpList_append_own _ rfl (.tmp 14) (.tmp 34) 93 rfl B 4 iB zB 1 1 Tryz.underlying93 HI.out.1 HI.out.2.1 HI.out.2.2.1 HI.out.2.2.2 (by rfl) (by omega) _ k _ rfl (World.ownsRow.alloc HW.out _) ⟨wr.heap.size, 0, none⟩ 1 1 [.bool true] rfl rfl (fun j u hu => by rw [Addr.add_lit, HBL.out.cell, Nat.zero_add]; exact hu) (b_one _) (by simp only [maxLen]; omega) (by omega) (by have h1 := HB1.out.lt; have h2 := HBB.out; simp; omega) ?_; intro v5 w5 ho5 hg5 _; have HW5 := Lib.hid ho5; have HO5 := Lib.hid ((HO.out.alloc (fun _ h => h) (.cells #[.bool true] 4)).grown hg5 (fun _ h => h) (fun g hg => by have h1 := (World.ownsRow.lt HW.out g hg).1; have h2 := HBN.out; have h3 := HBB.out; omega)); have HB15 := Lib.hid ((HB1.out.alloc (.cells #[.bool true] 4)).grown hg5 (own_ne HW.out HB1.out (by decide))); clear ho5 hg5)
        go_roundg (n - (k + 1))
        case rel => exact ⟨k + 1, _, rfl, by omega, rfl, by go_num, Lib.hid (by rw [HSN.out]; exact HW5.out), HB15, HO5⟩
        case measure => omega
      ·
        have hb1 : (x == t) = false := beq_eq_false_iff_ne.2 d1
        by_cases d2 : t = -3
        ·
          have hb2 : (t == -3) = true := beq_iff_eq.2 d2
          have D2 := Lib.hid d2
          clear d2
          by_cases d3 : 0 ≤ x
          ·
            have HBV : Hid ((whoB t) x = true) := Lib.hid (by simp [whoB, D2.out, d3])
            have HBL : Hid (Blk (wr.alloc (.cells #[.bool true] 4)) wr.heap.size 4 [.bool true]) := Blk.new wr _ _
            have HSN : Hid (bf (whoF l (whoB t)) (k + 1) = bf (whoF l (whoB t)) k ++ [.bool true]) := Lib.hid (by rw [bf_snoc, HFX.out, HBV.out])
            go_wp2_with (at_builtin; refine wpList_append_own _ rfl (.tmp 14) (.tmp 34) 93 rfl B 4 iB zB 1 1 Tryz.underlying93 HI.out.1 HI.out.2.1 HI.out.2.2.1 HI.out.2.2.2 (by rfl) (by omega) _ k _ rfl (World.ownsRow.alloc HW.out _) ⟨wr.heap.size, 0, none⟩ 1 1 [.bool true] rfl rfl (fun j u hu => by rw [Addr.add_lit, HBL.out.cell, Nat.zero_add]; exact hu) (b_one _) (by simp only [maxLen]; omega) (by omega) (by have h1 := HB1.out.lt; have h2 := HBB.out; simp; omega) ?_; intro v5 w5 ho5 hg5 _; have HW5 := Lib.hid ho5; have HO5 := Lib.hid ((HO.out.alloc (fun _ h => h) (.cells #[.bool true] 4)).grown hg5 (fun _ h => h) (fun g hg => by have h1 := (World.ownsRow.lt HW.out g hg).1; have h2 := HBN.out; have h3 := HBB.out; omega)); have HB15 := Lib.hid ((HB1.out.alloc (.cells #[.bool true] 4)).grown hg5 (own_ne HW.out HB1.out (by decide))); clear ho5 hg5)
            go_roundg (n - (k + 1))
            case rel => exact ⟨k + 1, _, rfl, by omega, rfl, by go_num, Lib.hid (by rw [HSN.out]; exact HW5.out), HB15, HO5⟩
            case measure => omega
          ·
            have HBV : Hid ((whoB t) x = false) := Lib.hid (by simp [whoB, d1, d3])
            have HBL : Hid (Blk (wr.alloc (.cells #[.bool false] 4)) wr.heap.size 4 [.bool false]) := Blk.new wr _ _
            have HSN : Hid (bf (whoF l (whoB t)) (k + 1) = bf (whoF l (whoB t)) k ++ [.bool false]) := Lib.hid (by rw [bf_snoc, HFX.out, HBV.out])
            go_wp2_with (at_builtin; refine wpList_append_own _ rfl (.tmp 14) (.tmp 34) 93 rfl B 4 iB zB 1 1 Tryz.underlying93 HI.out.1 HI.out.2.1 HI.out.2.2.1 HI.out.2.2.2 (by rfl) (by omega) _ k _ rfl (World.ownsRow.alloc HW.out _) ⟨wr.heap.size, 0, none⟩ 1 1 [.bool false] rfl rfl (fun j u hu => by rw [Addr.add_lit, HBL.out.cell, Nat.zero_add]; exact hu) (b_one _) (by simp only [maxLen]; omega) (by omega) (by have h1 := HB1.out.lt; have h2 := HBB.out; simp; omega) ?_; intro v5 w5 ho5 hg5 _; have HW5 := Lib.hid ho5; have HO5 := Lib.hid ((HO.out.alloc (fun _ h => h) (.cells #[.bool false] 4)).grown hg5 (fun _ h => h) (fun g hg => by have h1 := (World.ownsRow.lt HW.out g hg).1; have h2 := HBN.out; have h3 := HBB.out; omega)); have HB15 := Lib.hid ((HB1.out.alloc (.cells #[.bool false] 4)).grown hg5 (own_ne HW.out HB1.out (by decide))); clear ho5 hg5)
            go_roundg (n - (k + 1))
            case rel => exact ⟨k + 1, _, rfl, by omega, rfl, by go_num, Lib.hid (by rw [HSN.out]; exact HW5.out), HB15, HO5⟩
            case measure => omega
        ·
          have hb3 : (t == -3) = false := beq_eq_false_iff_ne.2 d2
          have HBV : Hid ((whoB t) x = false) := Lib.hid (by simp [whoB, d1, d2])
          have HBL : Hid (Blk (wr.alloc (.cells #[.bool false] 4)) wr.heap.size 4 [.bool false]) := Blk.new wr _ _
          have HSN : Hid (bf (whoF l (whoB t)) (k + 1) = bf (whoF l (whoB t)) k ++ [.bool false]) := Lib.hid (by rw [bf_snoc, HFX.out, HBV.out])
          go_wp2_with (at_builtin; refine wpList_append_own _ rfl (.tmp 14) (.tmp 34) 93 rfl B 4 iB zB 1 1 Tryz.underlying93 HI.out.1 HI.out.2.1 HI.out.2.2.1 HI.out.2.2.2 (by rfl) (by omega) _ k _ rfl (World.ownsRow.alloc HW.out _) ⟨wr.heap.size, 0, none⟩ 1 1 [.bool false] rfl rfl (fun j u hu => by rw [Addr.add_lit, HBL.out.cell, Nat.zero_add]; exact hu) (b_one _) (by simp only [maxLen]; omega) (by omega) (by have h1 := HB1.out.lt; have h2 := HBB.out; simp; omega) ?_; intro v5 w5 ho5 hg5 _; have HW5 := Lib.hid ho5; have HO5 := Lib.hid ((HO.out.alloc (fun _ h => h) (.cells #[.bool false] 4)).grown hg5 (fun _ h => h) (fun g hg => by have h1 := (World.ownsRow.lt HW.out g hg).1; have h2 := HBN.out; have h3 := HBB.out; omega)); have HB15 := Lib.hid ((HB1.out.alloc (.cells #[.bool false] 4)).grown hg5 (own_ne HW.out HB1.out (by decide))); clear ho5 hg5)
          go_roundg (n - (k + 1))
          case rel => exact ⟨k + 1, _, rfl, by omega, rfl, by go_num, Lib.hid (by rw [HSN.out]; exact HW5.out), HB15, HO5⟩
          case measure => omega
    · obtain rfl : k = n := by omega
      have hkm : ¬ (k : Int) < (k : Int) := by omega
      obtain ⟨g7, c7, rest, e7, hg7, hb7⟩ := bown hp HW.out
      simp only [Value.slice.injEq, true_and] at e7
      obtain ⟨rfl, rfl⟩ := e7
      have HB7 := Lib.hid hb7
      clear hb7
      go_wp2_with (go_at_call 54; (with_reducible refine (runs_says (S := S) HB7.out (by omega) (fun p => by rw [HN.out]; exact HSB.out p)).mono ?_); rintro e w8 ⟨⟨A8, n8, c8, u8, rfl, hr8, hi8⟩, ho8⟩; have HR8 := Lib.hid (And.intro hr8 hi8); have HO8 := Lib.hid (on_new HO.out ho8); clear hr8 hi8 ho8)
      go_ret
      exact ⟨⟨_, _, _, _, rfl, HR8.out.1, HR8.out.2⟩, HO8.out⟩
end Go.Proofs.YtmadlckladohbaaGreat

/-
  The document's pool: State.
-/
set_option linter.unusedVariables false
namespace Go.Proofs.YtmadlckladohbaaGreat
open Go.RowKit Go.Shelf

theorem load_st {w : World} {q : Nat} {A B : Option Addr} {n c m d : Nat} (h : Blk w q 24 [.slice A n c, .slice B m d]) : (loadVar 24 ⟨q, 0, none⟩).run Tryz.prog w = .ok (.agg #[.slice A n c, .slice B m d]) w := by
  have hl := run_loadCells_list (P := Tryz.prog) w ⟨q, 0, none⟩ [.slice A n c, .slice B m d] (fun j z hz => by rw [Addr.add_lit, h.cell, Nat.zero_add]; exact hz)
  simp only [List.length_cons, List.length_nil] at hl
  simp [loadVar, hl]
theorem row_off {w : World} {v : Value} {l : List R} {g : Nat} {t : TypeId} {x y : Value} (h : Row w v l) (hb : Blk w g t [x, y]) (hx : ∀ k z, x ≠ .int k z) (hy : ∀ k z, y ≠ .int k z) : Off g v l := fun hn b off n c e hbg => by
  obtain ⟨A, c', e', hs, _⟩ := h
  obtain ⟨b', off', e2, _, hc⟩ := hs hn
  rw [e', e2] at e
  simp only [Value.slice.injEq, Option.some.injEq, Addr.mk.injEq, and_true] at e
  obtain ⟨⟨rfl, rfl⟩, _⟩ := e
  subst hbg
  have hz : l[0]? = some l[0] := List.getElem?_eq_getElem hn
  have k0 := hc 0 _ (by have := rc_get0 hz; simpa using this)
  rw [hb.cell] at k0
  rcases off' with _ | _ | off'
  · exact hx _ _ (by simpa using k0)
  · exact hy _ _ (by simpa using k0)
  · simp at k0
theorem no_row {S : Int → Prop} (h : ∀ q, ¬ S q) : IsRow [] S := ⟨rfl, fun q => ⟨fun hq => by simp [inn] at hq, fun hq => absurd hq (h q)⟩⟩
def staB (t x : Int) : Bool := decide (-2 < x) && (decide (x ≠ t) || decide (t < 0))
/-- A state of the document's comes back. -/
def StSays (w : World) (SA SB : Int → Prop) (e : Ending) (w' : World) : Prop := (∃ A n c B m d a b, e = .returned (.agg #[.slice A n c, .slice B m d]) ∧ Row w' (.slice A n c) a ∧ Row w' (.slice B m d) b ∧ IsRow a SA ∧ IsRow b SB) ∧ Only (w.heap.size ≤ ·) w w'

set_option maxRecDepth 100000 in
set_option maxHeartbeats 6400000 in
theorem rstate_c (w : World) (v : Value) (lim t : Int) (l : List Int) (SA SB : Int → Prop) (h : Wh w v l) (hl : l.length ≤ 16384) (hp : 0 < l.length) (hSA : ∀ p, Bit (whoF l (staB t)) l.length p ↔ SA p) (hSB : 0 ≤ t → ∀ p, Bit (whoF l (whoB t)) l.length p ↔ SB p) (hS0 : t < 0 → ∀ p, ¬ SB p) :
    Calls Tryz.prog 35 #[.agg #[v, .int .i64 lim], .int .i64 t] w (StSays w SA SB) := by
  obtain ⟨A, c, rfl, hA, hsrc⟩ := h
  have HV0 : Hid (Wh w (.slice A l.length c) l) := Lib.hid ⟨A, c, rfl, hA, hsrc⟩
  obtain ⟨n, hn⟩ : ∃ n, n = l.length := ⟨_, rfl⟩
  rw [← hn] at HV0 hl hp ⊢
  obtain ⟨iB, hi0, hz0, hz1, hz2⟩ := info_parts infoB
  have HI := Lib.hid (And.intro hi0 (And.intro hz0 (And.intro hz1 hz2)))
  obtain ⟨w2, hw2⟩ : ∃ w2, w2 = (w.alloc (.cells #[.slice A n c, .int .i64 lim] 39)).alloc (.cells #[.slice none 0 0, .slice none 0 0] 24) := ⟨_, rfl⟩
  obtain ⟨b1, hb1⟩ : ∃ b1, b1 = w.heap.size := ⟨_, rfl⟩
  obtain ⟨b2, hb2⟩ : ∃ b2, b2 = w.heap.size + 1 := ⟨_, rfl⟩
  obtain ⟨B, hB⟩ : ∃ B, B = w2.heap.size := ⟨_, rfl⟩
  have HB1 : Hid (Blk w2 b1 39 [.slice A n c, .int .i64 lim]) := Lib.hid (by rw [hw2, hb1]; exact (Blk.new w _ [.slice A n c, .int .i64 lim]).alloc _)
  have HB2 : Hid (Blk w2 b2 24 [.slice none 0 0, .slice none 0 0]) := Lib.hid (by
    rw [hw2, hb2]
    have := Blk.new (w.alloc (.cells #[.slice A n c, .int .i64 lim] 39)) 24 [.slice none 0 0, .slice none 0 0]
    rwa [show (w.alloc (.cells #[.slice A n c, .int .i64 lim] 39)).heap.size = w.heap.size + 1 by simp] at this)
  have HBB : Hid (B = b2 + 1) := Lib.hid (by rw [hB, hb2, hw2]; simp)
  have HBN : Hid (w.heap.size ≤ b1 ∧ w.heap.size ≤ b2) := Lib.hid (by omega)
  have ho2 : Only (w.heap.size ≤ ·) w w2 := by rw [hw2]; exact ((Only.refl _ w).alloc (fun _ h => h) _).alloc (fun _ h => h) _
  have HO := Lib.hid ho2
  have HV := HV0
  have HEQ : Hid (w2 = (w.alloc (.cells #[.slice A n c, .int .i64 lim] 39)).alloc (.cells #[.slice none 0 0, .slice none 0 0] 24) ∧ b1 = w.heap.size ∧ b2 = w.heap.size + 1) := Lib.hid ⟨hw2, hb1, hb2⟩
  have HN := Lib.hid hn
  have HSA := Lib.hid hSA
  have HSB := Lib.hid hSB
  have HS0 := Lib.hid hS0
  have HLP : Hid (l.length ≤ 16384 ∧ 0 < l.length) := Lib.hid (by rw [← hn]; exact ⟨hl, hp⟩)
  clear hsrc hA hn hw2 hb1 ho2 hB hi0 hz0 hz1 hz2 hSA hSB hS0 hb2
  go_enter Tryz.func35, Tryz.ntmps35
  go_upto_region 1 with (fail)
  rw [← HEQ.out.1, ← HEQ.out.2.2, ← HEQ.out.2.1]
  go_wp2_with (fail)
  go_loopg [5, 6] n (fun gk0 s i wr => ∃ (k : Nat) (V : Value), gk0 = n - k ∧ k ≤ n ∧ s = V ∧ i = .int .i64 (k : Int) ∧ Hid (wr.ownsRow B 4 1 V k (bf (whoF l (staB t)) k)) ∧ Hid (Blk wr b1 39 [.slice A n c, .int .i64 lim]) ∧ Hid (Blk wr b2 24 [.slice none 0 0, .slice none 0 0]) ∧ Hid (Only (w.heap.size ≤ ·) w wr))
  case atStart => exact ⟨0, _, rfl, Nat.zero_le _, rfl, rfl, Lib.hid (World.ownsRow_nil _ _ _ _), HB1, HB2, HO⟩
  case round =>
    obtain ⟨k, V, rfl, hk, rfl, rfl, HW, HB1, HB2, HO⟩ := hrel
    obtain ⟨A5, c5, rfl⟩ := own_form HW.out
    obtain ⟨q0, q1⟩ := box_two HB1.out
    by_cases hlt : k < n
    · obtain ⟨gx, off, c6, x, e6, hx, hc⟩ := (HV.out.later HO.out).at_ (k := k) (by rw [← HN.out]; exact hlt)
      simp only [Value.slice.injEq] at e6
      obtain ⟨rfl, e7, rfl⟩ := e6
      clear e7
      have hlt' : (k : Int) < (n : Int) := by omega
      have HFX : Hid (whoF l (staB t) k = (staB t) x) := Lib.hid (whoF_at hx)
      clear hx
      by_cases d1 : -2 < x
      ·
        by_cases d2 : x = t
        ·
          have hb2 : (x == t) = true := beq_iff_eq.2 d2
          have hb3 : (x != t) = false := by simp [d2]
          have D2 := Lib.hid d2
          clear d2
          by_cases d3 : t < 0
          ·
            have HBV : Hid ((staB t) x = true) := Lib.hid (by simp [staB, d1, d3])
            have HBL : Hid (Blk (wr.alloc (.cells #[.bool true] 4)) wr.heap.size 4 [.bool true]) := Blk.new wr _ _
            have HSN : Hid (bf (whoF l (staB t)) (k + 1) = bf (whoF l (staB t)) k ++ [.bool true]) := Lib.hid (by rw [bf_snoc, HFX.out, HBV.out])
            go_wp2_with (at_builtin; refine wpList_append_own _ rfl (.tmp 15) (.tmp 35) 93 rfl B 4 iB zB 1 1 Tryz.underlying93 HI.out.1 HI.out.2.1 HI.out.2.2.1 HI.out.2.2.2 (by rfl) (by omega) _ k _ rfl (World.ownsRow.alloc HW.out _) ⟨wr.heap.size, 0, none⟩ 1 1 [.bool true] rfl rfl (fun j u hu => by rw [Addr.add_lit, HBL.out.cell, Nat.zero_add]; exact hu) (b_one _) (by simp only [maxLen]; omega) (by omega) (by have h1 := HB2.out.lt; have h2 := HBB.out; simp; omega) ?_; intro v5 w5 ho5 hg5 _; have HW5 := Lib.hid ho5; have HO5 := Lib.hid ((HO.out.alloc (fun _ h => h) (.cells #[.bool true] 4)).grown hg5 (fun _ h => h) (fun g hg => by have h1 := (World.ownsRow.lt HW.out g hg).1; have h2 := HBN.out; have h3 := HBB.out; omega)); have HB15 := Lib.hid ((HB1.out.alloc (.cells #[.bool true] 4)).grown hg5 (own_ne HW.out HB1.out (by decide))); have HB25 := Lib.hid ((HB2.out.alloc (.cells #[.bool true] 4)).grown hg5 (own_ne HW.out HB2.out (by decide))); clear ho5 hg5)
            go_roundg (n - (k + 1))
            case rel => exact ⟨k + 1, _, rfl, by omega, rfl, by go_num, Lib.hid (by rw [HSN.out]; exact HW5.out), HB15, HB25, HO5⟩
            case measure => omega
          ·
            have HBV : Hid ((staB t) x = false) := Lib.hid (by simp [staB, D2.out, d3])
            have HBL : Hid (Blk (wr.alloc (.cells #[.bool false] 4)) wr.heap.size 4 [.bool false]) := Blk.new wr _ _
            have HSN : Hid (bf (whoF l (staB t)) (k + 1) = bf (whoF l (staB t)) k ++ [.bool false]) := Lib.hid (by rw [bf_snoc, HFX.out, HBV.out])
            go_wp2_with (at_builtin; refine wpList_append_own _ rfl (.tmp 15) (.tmp 35) 93 rfl B 4 iB zB 1 1 Tryz.underlying93 HI.out.1 HI.out.2.1 HI.out.2.2.1 HI.out.2.2.2 (by rfl) (by omega) _ k _ rfl (World.ownsRow.alloc HW.out _) ⟨wr.heap.size, 0, none⟩ 1 1 [.bool false] rfl rfl (fun j u hu => by rw [Addr.add_lit, HBL.out.cell, Nat.zero_add]; exact hu) (b_one _) (by simp only [maxLen]; omega) (by omega) (by have h1 := HB2.out.lt; have h2 := HBB.out; simp; omega) ?_; intro v5 w5 ho5 hg5 _; have HW5 := Lib.hid ho5; have HO5 := Lib.hid ((HO.out.alloc (fun _ h => h) (.cells #[.bool false] 4)).grown hg5 (fun _ h => h) (fun g hg => by have h1 := (World.ownsRow.lt HW.out g hg).1; have h2 := HBN.out; have h3 := HBB.out; omega)); have HB15 := Lib.hid ((HB1.out.alloc (.cells #[.bool false] 4)).grown hg5 (own_ne HW.out HB1.out (by decide))); have HB25 := Lib.hid ((HB2.out.alloc (.cells #[.bool false] 4)).grown hg5 (own_ne HW.out HB2.out (by decide))); clear ho5 hg5)
            go_roundg (n - (k + 1))
            case rel => exact ⟨k + 1, _, rfl, by omega, rfl, by go_num, Lib.hid (by rw [HSN.out]; exact HW5.out), HB15, HB25, HO5⟩
            case measure => omega
        ·
          have hb2 : (x == t) = false := beq_eq_false_iff_ne.2 d2
          have hb3 : (x != t) = true := by simp [d2]
          have HBV : Hid ((staB t) x = true) := Lib.hid (by simp [staB, d1, d2])
          have HBL : Hid (Blk (wr.alloc (.cells #[.bool true] 4)) wr.heap.size 4 [.bool true]) := Blk.new wr _ _
          have HSN : Hid (bf (whoF l (staB t)) (k + 1) = bf (whoF l (staB t)) k ++ [.bool true]) := Lib.hid (by rw [bf_snoc, HFX.out, HBV.out])
          go_wp2_with (at_builtin; refine wpList_append_own _ rfl (.tmp 15) (.tmp 35) 93 rfl B 4 iB zB 1 1 Tryz.underlying93 HI.out.1 HI.out.2.1 HI.out.2.2.1 HI.out.2.2.2 (by rfl) (by omega) _ k _ rfl (World.ownsRow.alloc HW.out _) ⟨wr.heap.size, 0, none⟩ 1 1 [.bool true] rfl rfl (fun j u hu => by rw [Addr.add_lit, HBL.out.cell, Nat.zero_add]; exact hu) (b_one _) (by simp only [maxLen]; omega) (by omega) (by have h1 := HB2.out.lt; have h2 := HBB.out; simp; omega) ?_; intro v5 w5 ho5 hg5 _; have HW5 := Lib.hid ho5; have HO5 := Lib.hid ((HO.out.alloc (fun _ h => h) (.cells #[.bool true] 4)).grown hg5 (fun _ h => h) (fun g hg => by have h1 := (World.ownsRow.lt HW.out g hg).1; have h2 := HBN.out; have h3 := HBB.out; omega)); have HB15 := Lib.hid ((HB1.out.alloc (.cells #[.bool true] 4)).grown hg5 (own_ne HW.out HB1.out (by decide))); have HB25 := Lib.hid ((HB2.out.alloc (.cells #[.bool true] 4)).grown hg5 (own_ne HW.out HB2.out (by decide))); clear ho5 hg5)
          go_roundg (n - (k + 1))
          case rel => exact ⟨k + 1, _, rfl, by omega, rfl, by go_num, Lib.hid (by rw [HSN.out]; exact HW5.out), HB15, HB25, HO5⟩
          case measure => omega
      ·
        have HBV : Hid ((staB t) x = false) := Lib.hid (by simp [staB, d1])
        have HBL : Hid (Blk (wr.alloc (.cells #[.bool false] 4)) wr.heap.size 4 [.bool false]) := Blk.new wr _ _
        have HSN : Hid (bf (whoF l (staB t)) (k + 1) = bf (whoF l (staB t)) k ++ [.bool false]) := Lib.hid (by rw [bf_snoc, HFX.out, HBV.out])
        go_wp2_with (at_builtin; refine wpList_append_own _ rfl (.tmp 15) (.tmp 35) 93 rfl B 4 iB zB 1 1 Tryz.underlying93 HI.out.1 HI.out.2.1 HI.out.2.2.1 HI.out.2.2.2 (by rfl) (by omega) _ k _ rfl (World.ownsRow.alloc HW.out _) ⟨wr.heap.size, 0, none⟩ 1 1 [.bool false] rfl rfl (fun j u hu => by rw [Addr.add_lit, HBL.out.cell, Nat.zero_add]; exact hu) (b_one _) (by simp only [maxLen]; omega) (by omega) (by have h1 := HB2.out.lt; have h2 := HBB.out; simp; omega) ?_; intro v5 w5 ho5 hg5 _; have HW5 := Lib.hid ho5; have HO5 := Lib.hid ((HO.out.alloc (fun _ h => h) (.cells #[.bool false] 4)).grown hg5 (fun _ h => h) (fun g hg => by have h1 := (World.ownsRow.lt HW.out g hg).1; have h2 := HBN.out; have h3 := HBB.out; omega)); have HB15 := Lib.hid ((HB1.out.alloc (.cells #[.bool false] 4)).grown hg5 (own_ne HW.out HB1.out (by decide))); have HB25 := Lib.hid ((HB2.out.alloc (.cells #[.bool false] 4)).grown hg5 (own_ne HW.out HB2.out (by decide))); clear ho5 hg5)
        go_roundg (n - (k + 1))
        case rel => exact ⟨k + 1, _, rfl, by omega, rfl, by go_num, Lib.hid (by rw [HSN.out]; exact HW5.out), HB15, HB25, HO5⟩
        case measure => omega
    · obtain rfl : k = n := by omega
      have hkm : ¬ (k : Int) < (k : Int) := by omega
      obtain ⟨g7, c7, rest, e7, hg7, hb7⟩ := bown hp HW.out
      simp only [Value.slice.injEq, true_and] at e7
      obtain ⟨rfl, rfl⟩ := e7
      have HB7 := Lib.hid hb7
      clear hb7
      by_cases ht : t < 0
      · have HS9 : Hid (∀ p, ¬ SB p) := Lib.hid (HS0.out ht)
        go_wp2_with (go_at_call 54; (with_reducible refine (runs_says (S := SA) HB7.out (by omega) (fun p => by rw [HN.out]; exact HSA.out p)).mono ?_); rintro e w8 ⟨⟨A8, n8, c8, u8, rfl, hr8, hi8⟩, ho8⟩; have HO8 := Lib.hid (on_new HO.out ho8); have HB18 := Lib.hid (HB1.out.later ho8); have HB28 := Lib.hid (HB2.out.later ho8); have HR8 := Lib.hid hr8; have HI8 := Lib.hid hi8; have HN9 : Hid (Only (w8.heap.size ≤ ·) w8 (w8.alloc (.cells #[.slice A8 n8 c8, .slice none 0 0] 24))) := Lib.hid ((Only.refl _ w8).alloc (fun _ h => h) _); have HB39 : Hid (Blk (w8.alloc (.cells #[.slice A8 n8 c8, .slice none 0 0] 24)) w8.heap.size 24 [.slice A8 n8 c8, .slice none 0 0]) := Lib.hid (Blk.new w8 _ [.slice A8 n8 c8, .slice none 0 0]); have HB19 := Lib.hid (HB18.out.later HN9.out); have HB29 := Lib.hid (HB28.out.later HN9.out); have HR9 := Lib.hid (HR8.out.later HN9.out); have HO9 := Lib.hid (on_new HO8.out HN9.out); obtain ⟨q90, q91⟩ := box_two HB19.out; obtain ⟨r90, r91⟩ := box_two HB29.out; obtain ⟨s90, s91⟩ := box_two HB39.out; have g90 := HB29.out.frozen 0; have g91 := HB29.out.frozen 1; have f91 := HB39.out.frozen 1; clear hr8 hi8 ho8)
        have HF1 : Hid (Blk (((w8.alloc (.cells #[.slice A8 n8 c8, .slice none 0 0] 24)).setCell ⟨b2, 0, none⟩ (.slice A8 n8 c8)).setCell ⟨b2, 1, none⟩ (.slice none 0 0)) b2 24 [.slice A8 n8 c8, .slice none 0 0]) := Lib.hid ((HB29.out.set_ 0 _).set_ 1 _)
        have HF2 : Hid (Only (fun k => k = b2) (w8.alloc (.cells #[.slice A8 n8 c8, .slice none 0 0] 24)) (((w8.alloc (.cells #[.slice A8 n8 c8, .slice none 0 0] 24)).setCell ⟨b2, 0, none⟩ (.slice A8 n8 c8)).setCell ⟨b2, 1, none⟩ (.slice none 0 0))) := Lib.hid (((Only.refl (fun k => k = b2) (w8.alloc (.cells #[.slice A8 n8 c8, .slice none 0 0] 24))).setCell (p := ⟨b2, 0, none⟩) rfl _).setCell (p := ⟨b2, 1, none⟩) rfl _)
        have HF3 : Hid (Only (w.heap.size ≤ ·) w (((w8.alloc (.cells #[.slice A8 n8 c8, .slice none 0 0] 24)).setCell ⟨b2, 0, none⟩ (.slice A8 n8 c8)).setCell ⟨b2, 1, none⟩ (.slice none 0 0))) := Lib.hid ((HO9.out.setCell (p := ⟨b2, 0, none⟩) HBN.out.2 _).setCell (p := ⟨b2, 1, none⟩) HBN.out.2 _)
        exact bodyPost_ret (v := .agg #[.slice A8 n8 c8, .slice none 0 0]) (results_cell rfl rfl (load_st HF1.out)) rfl ⟨⟨_, _, _, _, _, _, _, _, rfl, HR9.out.past HF2.out (fun k hk => .inr (.inl (hk ▸ row_off HR9.out HB29.out (fun _ _ => by simp) (fun _ _ => by simp)))), Row.nil_ _, HI8.out, no_row HS9.out⟩, HF3.out⟩
      · have HSBT := Lib.hid (HSB.out (by omega))
        go_wp2_with (first
          | (go_at_call 54; (with_reducible refine (runs_says (S := SA) HB7.out (by omega) (fun p => by rw [HN.out]; exact HSA.out p)).mono ?_); rintro e w8 ⟨⟨A8, n8, c8, u8, rfl, hr8, hi8⟩, ho8⟩; have HO8 := Lib.hid (on_new HO.out ho8); have HB18 := Lib.hid (HB1.out.later ho8); have HB28 := Lib.hid (HB2.out.later ho8); have HR8 := Lib.hid hr8; have HI8 := Lib.hid hi8; have HN9 : Hid (Only (w8.heap.size ≤ ·) w8 (w8.alloc (.cells #[.slice A8 n8 c8, .slice none 0 0] 24))) := Lib.hid ((Only.refl _ w8).alloc (fun _ h => h) _); have HB39 : Hid (Blk (w8.alloc (.cells #[.slice A8 n8 c8, .slice none 0 0] 24)) w8.heap.size 24 [.slice A8 n8 c8, .slice none 0 0]) := Lib.hid (Blk.new w8 _ [.slice A8 n8 c8, .slice none 0 0]); have HB19 := Lib.hid (HB18.out.later HN9.out); have HB29 := Lib.hid (HB28.out.later HN9.out); have HR9 := Lib.hid (HR8.out.later HN9.out); have HO9 := Lib.hid (on_new HO8.out HN9.out); obtain ⟨q90, q91⟩ := box_two HB19.out; obtain ⟨r90, r91⟩ := box_two HB29.out; obtain ⟨s90, s91⟩ := box_two HB39.out; have g90 := HB29.out.frozen 0; have g91 := HB29.out.frozen 1; have f91 := HB39.out.frozen 1; clear hr8 hi8 ho8)
          | (go_at_call 32; (with_reducible refine (rruns_c (w8.alloc (.cells #[.slice A8 n8 c8, .slice none 0 0] 24)) _ lim t l SB (HV.out.later HO9.out) HLP.out.1 HLP.out.2 HSBT.out).mono ?_); rintro e w10 ⟨⟨A10, n10, c10, u10, rfl, hr10, hi10⟩, ho10⟩; have HR10 := Lib.hid hr10; have HI10 := Lib.hid hi10; have HRA := Lib.hid (HR9.out.later ho10); have HB210 := Lib.hid (HB29.out.later ho10); have HB310 := Lib.hid (HB39.out.later ho10); have HO10 := Lib.hid (on_new HO9.out ho10); obtain ⟨r100, r101⟩ := box_two HB210.out; obtain ⟨s100, s101⟩ := box_two HB310.out; have g100 := HB210.out.frozen 0; have g101 := HB210.out.frozen 1; have f101 := HB310.out.frozen 1; have hn1 : ¬ b2 = w8.heap.size := (by have := HB28.out.lt; omega); have hn2 : ¬ w8.heap.size = b2 := (fun e => hn1 e.symm); have HN1 := Lib.hid hn1; clear hr10 hi10 ho10))
        obtain ⟨w11, hw11⟩ : ∃ w11, w11 = w10.setCell ⟨w8.heap.size, 1, none⟩ (.slice A10 n10 c10) := ⟨_, rfl⟩
        have HO11a : Hid (Only (fun k => k = w8.heap.size) w10 w11) := Lib.hid (by rw [hw11]; exact (Only.refl (fun k => k = w8.heap.size) w10).setCell (p := ⟨w8.heap.size, 1, none⟩) rfl _)
        have HB211 : Hid (Blk w11 b2 24 [.slice none 0 0, .slice none 0 0]) := Lib.hid (by rw [hw11]; exact HB210.out.far (p := ⟨w8.heap.size, 1, none⟩) HN1.out _)
        have HO11 : Hid (Only (w.heap.size ≤ ·) w w11) := Lib.hid (by rw [hw11]; exact HO10.out.setCell (p := ⟨w8.heap.size, 1, none⟩) (by show w.heap.size ≤ w8.heap.size; exact HO8.out.size) _)
        have HRA11 := Lib.hid (HRA.out.past HO11a.out (fun k hk => .inr (.inl (hk ▸ row_off HRA.out HB310.out (fun _ _ => by simp) (fun _ _ => by simp)))))
        have HRB11 := Lib.hid (HR10.out.past HO11a.out (fun k hk => .inr (.inl (hk ▸ row_off HR10.out HB310.out (fun _ _ => by simp) (fun _ _ => by simp)))))
        rw [← hw11]
        clear hw11
        have HF1 : Hid (Blk ((w11.setCell ⟨b2, 0, none⟩ (.slice A8 n8 c8)).setCell ⟨b2, 1, none⟩ (.slice A10 n10 c10)) b2 24 [.slice A8 n8 c8, .slice A10 n10 c10]) := Lib.hid ((HB211.out.set_ 0 _).set_ 1 _)
        have HF2 : Hid (Only (fun k => k = b2) w11 ((w11.setCell ⟨b2, 0, none⟩ (.slice A8 n8 c8)).setCell ⟨b2, 1, none⟩ (.slice A10 n10 c10))) := Lib.hid (((Only.refl (fun k => k = b2) w11).setCell (p := ⟨b2, 0, none⟩) rfl _).setCell (p := ⟨b2, 1, none⟩) rfl _)
        have HF3 : Hid (Only (w.heap.size ≤ ·) w ((w11.setCell ⟨b2, 0, none⟩ (.slice A8 n8 c8)).setCell ⟨b2, 1, none⟩ (.slice A10 n10 c10))) := Lib.hid ((HO11.out.setCell (p := ⟨b2, 0, none⟩) HBN.out.2 _).setCell (p := ⟨b2, 1, none⟩) HBN.out.2 _)
        exact bodyPost_ret (v := .agg #[.slice A8 n8 c8, .slice A10 n10 c10]) (results_cell rfl rfl (load_st HF1.out)) rfl ⟨⟨_, _, _, _, _, _, _, _, rfl, HRA11.out.past HF2.out (fun k hk => .inr (.inl (hk ▸ row_off HRA11.out HB211.out (fun _ _ => by simp) (fun _ _ => by simp)))), HRB11.out.past HF2.out (fun k hk => .inr (.inl (hk ▸ row_off HRB11.out HB211.out (fun _ _ => by simp) (fun _ _ => by simp)))), HI8.out, HI10.out⟩, HF3.out⟩
end Go.Proofs.YtmadlckladohbaaGreat

/-
  The document's pool: Settle.
-/
set_option linter.unusedVariables false
namespace Go.Proofs.YtmadlckladohbaaGreat
open Go.RowKit Go.Shelf

theorem setP_one {l : List Int} {k : Nat} (hk : k < l.length) (x : Int) : setP l k 1 x = l.set k x := by
  rw [setP_succ]
  show (if k + 0 = l.length then l ++ [x] else l.set (k + 0) x) = _
  rw [if_neg (by omega)]
  rfl
def stlK (l : List Int) (t o : Int) (k : Nat) : List Int := (l.take k).map (stlP t o) ++ l.drop k
section
variable {l : List Int} {t o : Int} {k : Nat}
theorem stlK_zero : stlK l t o 0 = l := by simp [stlK]
theorem stlK_all : stlK l t o l.length = l.map (stlP t o) := by simp [stlK]
theorem stlK_len (hk : k ≤ l.length) : (stlK l t o k).length = l.length := by
  unfold stlK
  rw [List.length_append, List.length_map, List.length_take, List.length_drop]
  omega
theorem stlK_at {x : Int} (h : l[k]? = some x) : (stlK l t o k)[k]? = some x := by
  have hk := (List.getElem?_eq_some_iff.1 h).1
  unfold stlK
  rw [List.getElem?_append_right (by rw [List.length_map, List.length_take]; omega), List.length_map, List.length_take, List.getElem?_drop, show k + (k - min k l.length) = k by omega]
  exact h
theorem stlK_succ {x : Int} (h : l[k]? = some x) : stlK l t o (k + 1) = (stlK l t o k).set k (stlP t o x) := by
  have hk := (List.getElem?_eq_some_iff.1 h).1
  have hd : l.drop k = x :: l.drop (k + 1) := by
    rw [List.drop_eq_getElem_cons hk]
    congr 1
    exact (List.getElem?_eq_some_iff.1 h).2
  unfold stlK
  rw [hd, List.set_append_right _ _ (by rw [List.length_map, List.length_take]; omega), List.length_map, List.length_take, show k - min k l.length = 0 by omega, List.set_cons_zero, List.take_add_one, h, List.map_append]
  simp
theorem stlK_stay {x : Int} (h : l[k]? = some x) (e : stlP t o x = x) : stlK l t o (k + 1) = stlK l t o k := by
  rw [stlK_succ h, e]
  obtain ⟨h1, h2⟩ := List.getElem?_eq_some_iff.1 (stlK_at (t := t) (o := o) h)
  conv => lhs; arg 3; rw [← h2]
  exact List.set_getElem_self h1
end

set_option maxRecDepth 100000 in
set_option maxHeartbeats 6400000 in
theorem rsettle_c (w : World) (v : Value) (lim t o : Int) (l : List Int) (h : Wh w v l) (hl : l.length ≤ 16384) (h2 : 2 ≤ l.length) (ht : 0 ≤ t ∧ t ≤ 9223372036854775807) :
    Calls Tryz.prog 15 #[.agg #[v, .int .i64 lim], .int .i64 t, .int .i64 o] w (GaveP w lim (l.map (stlP t o))) := by
  obtain ⟨A, c, rfl, hA, hsrc⟩ := h
  have HV0 : Hid (Wh w (.slice A l.length c) l) := Lib.hid ⟨A, c, rfl, hA, hsrc⟩
  obtain ⟨n, hn⟩ : ∃ n, n = l.length := ⟨_, rfl⟩
  rw [← hn] at HV0 hl ⊢
  obtain ⟨w2, hw2⟩ : ∃ w2, w2 = (w.alloc (.cells #[.slice A n c, .int .i64 lim] 39)).alloc (.cells #[.slice none 0 0, .int .i64 0] 39) := ⟨_, rfl⟩
  obtain ⟨b1, hb1⟩ : ∃ b1, b1 = w.heap.size := ⟨_, rfl⟩
  obtain ⟨b2, hb2⟩ : ∃ b2, b2 = w.heap.size + 1 := ⟨_, rfl⟩
  have HB1 : Hid (Blk w2 b1 39 [.slice A n c, .int .i64 lim]) := Lib.hid (by
    rw [hw2, hb1]
    exact (Blk.new w _ [.slice A n c, .int .i64 lim]).alloc _)
  have HB2 : Hid (Blk w2 b2 39 [.slice none 0 0, .int .i64 0]) := Lib.hid (by
    rw [hw2, hb2]
    have := Blk.new (w.alloc (.cells #[.slice A n c, .int .i64 lim] 39)) 39 [.slice none 0 0, .int .i64 0]
    rwa [show (w.alloc (.cells #[.slice A n c, .int .i64 lim] 39)).heap.size = w.heap.size + 1 by simp] at this)
  have ho2 : Only (w.heap.size ≤ ·) w w2 := by rw [hw2]; exact ((Only.refl _ w).alloc (fun _ h => h) _).alloc (fun _ h => h) _
  have HO := Lib.hid ho2
  have HV := Lib.hid (HV0.out.later ho2)
  have HBN : Hid (w.heap.size ≤ b1 ∧ w.heap.size ≤ b2 ∧ b1 ≠ b2) := Lib.hid (by omega)
  have HEQ : Hid (w2 = (w.alloc (.cells #[.slice A n c, .int .i64 lim] 39)).alloc (.cells #[.slice none 0 0, .int .i64 0] 39) ∧ b1 = w.heap.size ∧ b2 = w.heap.size + 1) := Lib.hid ⟨hw2, hb1, hb2⟩
  have HN := Lib.hid hn
  clear hsrc hA hn hw2 hb1 hb2 ho2
  obtain ⟨ht1, ht2⟩ := ht
  have H2 : Hid (∀ k, k ≤ n → 2 ≤ (stlK l t o k).length ∨ stlK l t o k = []) := Lib.hid fun k hk => .inl (by rw [stlK_len (by rw [← HN.out]; exact hk)]; exact h2)
  clear h2
  go_enter Tryz.func15, Tryz.ntmps15
  go_upto_region 1 with (fail)
  rw [← HEQ.out.1, ← HEQ.out.2.2, ← HEQ.out.2.1]
  go_wp2_with (fail)
  go_loopg [7] n (fun gk0 i wr => ∃ (k : Nat) (A4 : Option Addr) (c4 : Nat), gk0 = n - k ∧ k ≤ n ∧ i = .int .i64 (k : Int) ∧ Hid (Wh wr (.slice A4 n c4) (stlK l t o k)) ∧ Hid (Blk wr b1 39 [.slice A4 n c4, .int .i64 lim]) ∧ Hid (Blk wr b2 39 [.slice none 0 0, .int .i64 0]) ∧ Hid (Only (w.heap.size ≤ ·) w wr))
  case atStart => exact ⟨0, A, c, rfl, Nat.zero_le _, rfl, Lib.hid (by rw [stlK_zero]; exact HV.out), HB1, HB2, HO⟩
  case round =>
    obtain ⟨k, A4, c4, rfl, hk, rfl, HV4, HB1, HB2, HO⟩ := hrel
    obtain ⟨q0, q1⟩ := box_two HB1.out
    by_cases hlt : k < n
    · have HLK : Hid ((stlK l t o k).length = n) := Lib.hid (by rw [stlK_len (by rw [← HN.out]; exact hk)]; exact HN.out.symm)
      obtain ⟨x, hx0⟩ : ∃ x, l[k]? = some x := ⟨_, List.getElem?_eq_getElem (by rw [← HN.out]; exact hlt)⟩
      have HX := Lib.hid hx0
      obtain ⟨gx, off, c6, x', e6, hx, hc⟩ := HV4.out.at_ (k := k) (by rw [HLK.out]; exact hlt)
      rw [stlK_at hx0] at hx
      obtain rfl : x = x' := by injection hx
      simp only [Value.slice.injEq] at e6
      obtain ⟨rfl, e7, rfl⟩ := e6
      clear e7 hx hx0
      have hlt' : (k : Int) < (n : Int) := by omega
      by_cases d1 : 0 ≤ x
      · by_cases d2 : x < t - 1
        · by_cases d3 : x ≤ o
          ·
            have HST : Hid (setP (stlK l t o k) k 1 (-1) = stlK l t o (k + 1)) := Lib.hid (by rw [setP_one (by rw [HLK.out]; exact hlt), stlK_succ HX.out]; unfold stlP; rw [if_pos ⟨d1, d2, d3⟩])
            have HSE : Hid (Calls Tryz.prog 36 #[.agg #[.slice (some ⟨gx, off, none⟩) n c4, .int .i64 lim], .int .i64 (k : Int), .int .i64 1, .int .i64 (-1)] wr (GaveP wr lim (stlK l t o (k + 1)))) := Lib.hid (by
              have := rset_c wr _ lim (-1) k 1 _ HV4.out (by rw [HLK.out]; omega) (by omega) (by rw [HLK.out]; omega)
              rw [HST.out] at this
              exact this)
            have HLK1 : Hid ((stlK l t o (k + 1)).length = n) := Lib.hid (by rw [stlK_len (by rw [← HN.out]; omega)]; exact HN.out.symm)
            go_wp2_with (go_at_call 36; (with_reducible refine HSE.out.mono ?_); rintro e w5 ⟨⟨v5, rfl, hv5⟩, ho5⟩; obtain ⟨A5, c5, rfl⟩ := hv5.form_n HLK1.out; have HV5 := Lib.hid hv5; have HB15 := Lib.hid (HB1.out.later ho5); have HB25 := Lib.hid (HB2.out.later ho5); have HO5 := Lib.hid (on_new HO.out ho5); have r50 := (box_two HB15.out).1; have r51 := (box_two HB15.out).2; have g50 := HB15.out.frozen 0; have g51 := HB15.out.frozen 1; clear hv5 ho5)
            have HF2 : Hid (Only (fun k => k = b1) w5 ((w5.setCell ⟨b1, 0, none⟩ (.slice A5 n c5)).setCell ⟨b1, 1, none⟩ (.int .i64 lim))) := Lib.hid (((Only.refl (fun k => k = b1) w5).setCell (p := ⟨b1, 0, none⟩) rfl _).setCell (p := ⟨b1, 1, none⟩) rfl _)
            go_roundg (n - (k + 1))
            case measure => omega
            case rel => exact ⟨k + 1, A5, c5, rfl, by omega, by go_num, Lib.hid (HV5.out.off HB15.out (fun _ _ => by simp) HF2.out (H2.out _ (by omega))), Lib.hid ((HB15.out.set_ 0 _).set_ 1 _), Lib.hid ((HB25.out.far (p := ⟨b1, 0, none⟩) (fun e => HBN.out.2.2 e.symm) _).far (p := ⟨b1, 1, none⟩) (fun e => HBN.out.2.2 e.symm) _), Lib.hid ((HO5.out.setCell (p := ⟨b1, 0, none⟩) HBN.out.1 _).setCell (p := ⟨b1, 1, none⟩) HBN.out.1 _)⟩
          ·
            have HST : Hid (stlK l t o (k + 1) = stlK l t o k) := Lib.hid (stlK_stay HX.out (by unfold stlP; rw [if_neg (by omega)]))
            go_wp2_with (fail)
            go_roundg (n - (k + 1))
            case measure => omega
            case rel => exact ⟨k + 1, _, _, rfl, by omega, by go_num, Lib.hid (by rw [HST.out]; exact HV4.out), HB1, HB2, HO⟩
        ·
          have HST : Hid (stlK l t o (k + 1) = stlK l t o k) := Lib.hid (stlK_stay HX.out (by unfold stlP; rw [if_neg (by omega)]))
          go_wp2_with (fail)
          go_roundg (n - (k + 1))
          case measure => omega
          case rel => exact ⟨k + 1, _, _, rfl, by omega, by go_num, Lib.hid (by rw [HST.out]; exact HV4.out), HB1, HB2, HO⟩
      ·
        have HST : Hid (stlK l t o (k + 1) = stlK l t o k) := Lib.hid (stlK_stay HX.out (by unfold stlP; rw [if_neg (by omega)]))
        go_wp2_with (fail)
        go_roundg (n - (k + 1))
        case measure => omega
        case rel => exact ⟨k + 1, _, _, rfl, by omega, by go_num, Lib.hid (by rw [HST.out]; exact HV4.out), HB1, HB2, HO⟩
    · obtain rfl : k = n := by omega
      have hkm : ¬ (k : Int) < (k : Int) := by omega
      obtain ⟨r0, r1⟩ := box_two HB2.out
      have g0 := HB2.out.frozen 0
      have g1 := HB2.out.frozen 1
      have HF1 : Hid (Blk ((wr.setCell ⟨b2, 0, none⟩ (.slice A4 k c4)).setCell ⟨b2, 1, none⟩ (.int .i64 lim)) b2 39 [(.slice A4 k c4), .int .i64 lim]) := Lib.hid ((HB2.out.set_ 0 _).set_ 1 _)
      have HF2 : Hid (Only (fun k => k = b2) wr ((wr.setCell ⟨b2, 0, none⟩ (.slice A4 k c4)).setCell ⟨b2, 1, none⟩ (.int .i64 lim))) := Lib.hid (((Only.refl (fun k => k = b2) wr).setCell (p := ⟨b2, 0, none⟩) rfl _).setCell (p := ⟨b2, 1, none⟩) rfl _)
      have HF3 : Hid (Only (w.heap.size ≤ ·) w ((wr.setCell ⟨b2, 0, none⟩ (.slice A4 k c4)).setCell ⟨b2, 1, none⟩ (.int .i64 lim))) := Lib.hid ((HO.out.setCell (p := ⟨b2, 0, none⟩) HBN.out.2.1 _).setCell (p := ⟨b2, 1, none⟩) HBN.out.2.1 _)
      have HVE : Hid (Wh wr (.slice A4 k c4) (l.map (stlP t o))) := Lib.hid (by have := HV4.out; rw [HN.out, stlK_all] at this; rw [HN.out]; exact this)
      have HLE : Hid (2 ≤ (l.map (stlP t o)).length ∨ l.map (stlP t o) = []) := Lib.hid (by have := H2.out k (Nat.le_refl _); rw [HN.out, stlK_all] at this; exact this)
      go_wp2_with (fail)
      exact bodyPost_ret (v := .agg #[.slice A4 k c4, .int .i64 lim]) (results_cell rfl rfl (load_pool HF1.out)) rfl ⟨⟨_, rfl, HVE.out.off HB2.out (fun _ _ => by simp) HF2.out HLE.out⟩, HF3.out⟩
end Go.Proofs.YtmadlckladohbaaGreat
