/-
  Trees, as plain data: what All's answer says of them.
-/
import Derived.Test.YtnjhpjpeeehagaaTgt
import Derived.Test.YtnjhpjpeeehagaaTev
import Derived.Test.YtnjhpjpeeehagaaTkq
set_option linter.unusedVariables false
namespace Go.Proofs.Ytnjhpjpeeehagaa
open Go.RowKit

theorem cmp_le_lt {a b c : Bytes} (h1 : cmp a b ≤ 0) (h2 : cmp b c < 0) : cmp a c < 0 := by
  rcases Int.lt_or_eq_of_le h1 with h | h
  · exact cmp_lt h h2
  · rw [cmp_eq_zero h]; exact h2
theorem cmp_lt_le {a b c : Bytes} (h1 : cmp a b < 0) (h2 : cmp b c ≤ 0) : cmp a c < 0 := by
  rcases Int.lt_or_eq_of_le h2 with h | h
  · exact cmp_lt h1 h
  · rw [← cmp_eq_zero h]; exact h1
theorem cmp_not_lt {a b : Bytes} (h : ¬ cmp a b < 0) : cmp b a ≤ 0 := by
  have := cmp_flip a b
  omega
/-- A key is in a span. -/
def InS (sp : Sn) (k : Bytes) : Prop := cmp sp.1 k ≤ 0 ∧ ∀ h, sp.2 = some h → cmp k h < 0
theorem hasS_iff (sp : Sn) (k : Bytes) : hasS sp k = true ↔ InS sp k := by
  unfold hasS InS
  have := cmp_flip sp.1 k
  rw [Bool.and_eq_true, decide_eq_true_eq]
  constructor
  · rintro ⟨h1, h2⟩
    refine ⟨by omega, fun h hh => ?_⟩
    rw [hh] at h2
    simpa using h2
  · rintro ⟨h1, h2⟩
    refine ⟨by omega, ?_⟩
    cases hs : sp.2 with
    | none => rfl
    | some h => simpa using h2 h hs
/-- Items rise. -/
def Srt (l : List It) : Prop := l.Pairwise fun a b => cmp a.1 b.1 < 0
def kd (ks : List Kd) (k : Nat) : Kd := ks.getD k ([], 0)
theorem kd_get {ks : List Kd} {k : Nat} (h : k < ks.length) : ks[k]? = some (kd ks k) := by
  unfold kd
  rw [List.getD_eq_getElem?_getD, List.getElem?_eq_getElem h]
  rfl
/-- A branch's Keys, from the second on, rise in a span. -/
def KeysR (sp : Sn) (ks : List Kd) : Prop := (∀ k, 1 ≤ k → k < ks.length → InS sp (kd ks k).1) ∧ ∀ i j, 1 ≤ i → i < j → j < ks.length → cmp (kd ks i).1 (kd ks j).1 < 0
theorem rises_pair {sp : Sn} {l : List Bytes} (h : RisesP sp l) : ∀ (j i : Nat) (a b : Bytes), i < j → l[i]? = some a → l[j]? = some b → cmp a b < 0
  | 0, i, a, b, hij, _, _ => by omega
  | j + 1, i, a, b, hij, ha, hb => by
    have hj : j < l.length := by have := (List.getElem?_eq_some_iff.1 hb).1; omega
    have h1 := (h (j + 1) b hb).2 l[j] (by omega) (by rw [Nat.add_sub_cancel]; exact List.getElem?_eq_getElem hj)
    rcases Nat.lt_or_ge i j with h2 | h2
    · exact cmp_lt (rises_pair h j i a _ h2 ha (List.getElem?_eq_getElem hj)) h1
    · obtain rfl : i = j := by omega
      rw [List.getElem?_eq_getElem hj] at ha
      cases ha
      exact h1
theorem rises_iff {sp : Sn} {l : List Bytes} : RisesP sp l ↔ (∀ k ∈ l, InS sp k) ∧ l.Pairwise fun a b => cmp a b < 0 := by
  constructor
  · intro h
    refine ⟨fun k hk => ?_, ?_⟩
    · obtain ⟨i, hi⟩ := List.getElem?_of_mem hk
      exact (hasS_iff sp k).1 (h i k hi).1
    · rw [List.pairwise_iff_getElem]
      intro i j hi hj hij
      exact rises_pair h j i _ _ hij (List.getElem?_eq_getElem hi) (List.getElem?_eq_getElem hj)
  · rintro ⟨h1, h2⟩ k y hy
    refine ⟨(hasS_iff sp y).2 (h1 y (List.mem_of_getElem? hy)), fun q hk hq => ?_⟩
    obtain ⟨a1, a2⟩ := List.getElem?_eq_some_iff.1 hy
    obtain ⟨b1, b2⟩ := List.getElem?_eq_some_iff.1 hq
    rw [← a2, ← b2]
    exact (List.pairwise_iff_getElem.1 h2) (k - 1) k b1 a1 (by omega)
theorem keysR_of {sp : Sn} {ks : List Kd} (h : RisesP sp ((ks.drop 1).map (·.1))) : KeysR sp ks := by
  have hg : ∀ k, 1 ≤ k → k < ks.length → ((ks.drop 1).map (·.1))[k - 1]? = some (kd ks k).1 := fun k h1 h2 => by
    rw [List.getElem?_map, List.getElem?_drop, show 1 + (k - 1) = k by omega, kd_get h2]
    rfl
  exact ⟨fun k h1 h2 => (hasS_iff _ _).1 (h (k - 1) _ (hg k h1 h2)).1, fun i j h1 h2 h3 => rises_pair h (j - 1) (i - 1) _ _ (by omega) (hg i h1 (by omega)) (hg j (by omega) h3)⟩
theorem keysR_to {sp : Sn} {ks : List Kd} (h : KeysR sp ks) : RisesP sp ((ks.drop 1).map (·.1)) := by
  have hg : ∀ k y, ((ks.drop 1).map (·.1))[k]? = some y → 1 + k < ks.length ∧ y = (kd ks (1 + k)).1 := fun k y hy => by
    rw [List.getElem?_map, List.getElem?_drop] at hy
    have hl : 1 + k < ks.length := by
      rcases Nat.lt_or_ge (1 + k) ks.length with h | h
      · exact h
      · rw [List.getElem?_eq_none h] at hy; cases hy
    rw [kd_get hl] at hy
    cases hy
    exact ⟨hl, rfl⟩
  intro k y hy
  obtain ⟨h1, rfl⟩ := hg k y hy
  refine ⟨(hasS_iff _ _).2 (h.1 _ (by omega) h1), fun q hk hq => ?_⟩
  obtain ⟨h2, rfl⟩ := hg _ q hq
  exact h.2 _ _ (by omega) (by omega) h1
theorem under_1 (sp : Sn) (ks : List Kd) (k : Nat) : (underP sp ks k).1 = if 0 < k then (kd ks k).1 else sp.1 := rfl
theorem under_2 (sp : Sn) (ks : List Kd) (k : Nat) : (underP sp ks k).2 = if k + 1 < ks.length then some (kd ks (k + 1)).1 else sp.2 := rfl
/-- Under a kid, it is under the branch. -/
theorem under_in {sp : Sn} {ks : List Kd} (h : KeysR sp ks) {k : Nat} (hk : k < ks.length) {y : Bytes} (hy : InS (underP sp ks k) y) : InS sp y := by
  obtain ⟨h1, h2⟩ := hy
  rw [under_1] at h1
  rw [under_2] at h2
  constructor
  · by_cases h0 : 0 < k
    · rw [if_pos h0] at h1
      exact cmp_trans _ _ _ (h.1 k h0 hk).1 h1
    · rw [if_neg h0] at h1
      exact h1
  · intro b hb
    by_cases h3 : k + 1 < ks.length
    · rw [if_pos h3] at h2
      exact cmp_lt (h2 _ rfl) ((h.1 (k + 1) (by omega) h3).2 b hb)
    · rw [if_neg h3] at h2
      exact h2 b hb
/-- Under one kid alone. -/
theorem under_one {sp : Sn} {ks : List Kd} (h : KeysR sp ks) {i j : Nat} (hi : i < ks.length) (hj : j < ks.length) {y : Bytes} (h1 : InS (underP sp ks i) y) (h2 : InS (underP sp ks j) y) : i = j := by
  have key : ∀ a b : Nat, a < b → b < ks.length → InS (underP sp ks a) y → InS (underP sp ks b) y → False := by
    intro a b hab hb ha hbb
    have e1 := ha.2
    have e2 := hbb.1
    rw [under_2, if_pos (by omega)] at e1
    rw [under_1, if_pos (by omega)] at e2
    have e3 := e1 _ rfl
    have e4 : cmp (kd ks (a + 1)).1 (kd ks b).1 ≤ 0 := by
      rcases Nat.lt_or_ge (a + 1) b with h3 | h3
      · exact Int.le_of_lt (h.2 _ _ (by omega) h3 hb)
      · rw [show a + 1 = b by omega, cmp_self]
        exact Int.le_refl _
    have e5 := cmp_lt_le e3 (cmp_trans _ _ _ e4 e2)
    rw [cmp_self] at e5
    omega
  rcases Nat.lt_trichotomy i j with h3 | h3 | h3
  · exact (key i j h3 hj h1 h2).elim
  · exact h3
  · exact (key j i h3 hi h2 h1).elim
theorem side_spec (ks : List Kd) (key : Bytes) : ∀ n, 0 < n → n ≤ ks.length → (sideN ks key n = 0 ∨ cmp (kd ks (sideN ks key n)).1 key ≤ 0) ∧ ∀ j, sideN ks key n < j → j < n → ¬ cmp (kd ks j).1 key ≤ 0
  | 0, h, _ => by omega
  | n + 1, _, hl => by
    unfold sideN
    by_cases hc : 0 < n ∧ ∃ y, ks[n]? = some y ∧ cmp y.1 key ≤ 0
    · rw [if_pos hc]
      obtain ⟨y, hy, h1⟩ := hc.2
      rw [kd_get (by omega)] at hy
      cases hy
      exact ⟨.inr h1, fun j h2 h3 => by omega⟩
    · rw [if_neg hc]
      rcases Nat.eq_zero_or_pos n with rfl | hn
      · exact ⟨.inl rfl, fun j h2 h3 => by have : sideN ks key 0 = 0 := rfl; omega⟩
      · obtain ⟨h1, h2⟩ := side_spec ks key n hn (by omega)
        refine ⟨h1, fun j h3 h4 => ?_⟩
        rcases Nat.lt_or_ge j n with h5 | h5
        · exact h2 j h3 h5
        · obtain rfl : j = n := by omega
          exact fun h6 => hc ⟨hn, _, kd_get (by omega), h6⟩
/-- The kid that is chosen is the one under which the key is. -/
theorem side_under {sp : Sn} {ks : List Kd} {key : Bytes} (h0 : 0 < ks.length) (hk : InS sp key) : InS (underP sp ks (sideN ks key ks.length)) key := by
  obtain ⟨h1, h2⟩ := side_spec ks key ks.length h0 (Nat.le_refl _)
  constructor
  · rw [under_1]
    split
    · rename_i h3
      rcases h1 with h1 | h1
      · omega
      · exact h1
    · exact hk.1
  · intro b hb
    rw [under_2] at hb
    split at hb
    · rename_i h3
      cases hb
      have := h2 (sideN ks key ks.length + 1) (by omega) h3
      have := cmp_flip (kd ks (sideN ks key ks.length + 1)).1 key
      omega
    · exact hk.2 b hb

/-- Kids from one on, so many: their segments, and their numbers. -/
def KidsR (g : Int → Sn → List It → List Int → Prop) (ks : List Kd) (sp : Sn) : Nat → Nat → List It → List Int → Prop
  | _, 0, seg, refs => seg = [] ∧ refs = []
  | k, m + 1, seg, refs => ∃ s1 r1 s2 r2, g (kd ks k).2 (underP sp ks k) s1 r1 ∧ KidsR g ks sp (k + 1) m s2 r2 ∧ seg = s1 ++ s2 ∧ refs = r1 ++ r2
/-- A subtree of so many floors, in a span; ne: its leaves have items. -/
def SubT (l : List Nm) : Bool → Nat → Int → Sn → List It → List Int → Prop
  | _, 0, _, _, _, _ => False
  | ne, h + 1, ref, sp, seg, refs => ∃ x, nodeP l ref = some x ∧
    ((h = 0 ∧ x.leaf = true ∧ x.kds = [] ∧ RisesP sp (x.its.map (·.1)) ∧ (ne = true → x.its ≠ []) ∧ seg = x.its ∧ refs = [ref]) ∨
     (x.leaf = false ∧ x.its = [] ∧ 1 < x.kds.length ∧ RisesP sp ((x.kds.drop 1).map (·.1)) ∧ ∃ rs, KidsR (SubT l true h) x.kds sp 0 x.kds.length seg rs ∧ refs = ref :: rs))
theorem KidsR.list {g : Int → Sn → List It → List Int → Prop} {ks : List Kd} {sp : Sn} : ∀ {m k : Nat} {seg : List It} {refs : List Int}, KidsR g ks sp k m seg refs → ∃ segs : List (List It), segs.length = m ∧ seg = segs.flatten ∧ ∀ j s, segs[j]? = some s → ∃ r, g (kd ks (k + j)).2 (underP sp ks (k + j)) s r
  | 0, k, seg, refs, h => ⟨[], rfl, h.1, fun j s hs => by simp at hs⟩
  | m + 1, k, seg, refs, ⟨s1, r1, s2, r2, h1, h2, e1, e2⟩ => by
    obtain ⟨segs, h3, h4, h5⟩ := KidsR.list h2
    refine ⟨s1 :: segs, by rw [List.length_cons, h3], by rw [e1, h4]; rfl, fun j s hs => ?_⟩
    cases j with
    | zero =>
      simp at hs
      subst hs
      exact ⟨r1, h1⟩
    | succ j =>
      obtain ⟨r, hr⟩ := h5 j s (by simpa using hs)
      rw [show k + 1 + j = k + (j + 1) by omega] at hr
      exact ⟨r, hr⟩
/-- What kids, each of which has it so, have together. -/
theorem KidsR.sorted {g : Int → Sn → List It → List Int → Prop} {ks : List Kd} {sp : Sn} (hK : KeysR sp ks) (hg : ∀ r u s rs, g r u s rs → (∀ y ∈ s, InS u y.1) ∧ Srt s) : ∀ {m k : Nat} {seg : List It} {refs : List Int}, k + m = ks.length → KidsR g ks sp k m seg refs → (∀ y ∈ seg, InS sp y.1 ∧ (0 < k → cmp (kd ks k).1 y.1 ≤ 0)) ∧ Srt seg
  | 0, k, seg, refs, hk, h => by rw [h.1]; exact ⟨fun y hy => by simp at hy, List.Pairwise.nil⟩
  | m + 1, k, seg, refs, hk, ⟨s1, r1, s2, r2, h1, h2, e1, e2⟩ => by
    obtain ⟨a1, a2⟩ := hg _ _ _ _ h1
    obtain ⟨b1, b2⟩ := KidsR.sorted hK hg (by omega) h2
    subst e1
    refine ⟨fun y hy => ?_, List.pairwise_append.2 ⟨a2, b2, fun a ha b hb => ?_⟩⟩
    · rcases List.mem_append.1 hy with hy | hy
      · refine ⟨under_in hK (by omega) (a1 y hy), fun h0 => ?_⟩
        have := (a1 y hy).1
        rwa [under_1, if_pos h0] at this
      · refine ⟨(b1 y hy).1, fun h0 => ?_⟩
        have h3 := (b1 y hy).2 (by omega)
        rcases Nat.lt_or_ge (k + 1) ks.length with h4 | h4
        · exact cmp_trans _ _ _ (Int.le_of_lt (hK.2 k (k + 1) h0 (by omega) h4)) h3
        · obtain rfl : m = 0 := by omega
          rw [h2.1] at hy
          simp at hy
    · rcases Nat.lt_or_ge (k + 1) ks.length with h4 | h4
      · have h5 := (a1 a ha).2
        rw [under_2, if_pos h4] at h5
        exact cmp_lt_le (h5 _ rfl) ((b1 b hb).2 (by omega))
      · obtain rfl : m = 0 := by omega
        rw [h2.1] at hb
        simp at hb
theorem SubT.sorted {l : List Nm} : ∀ {h : Nat} {ne : Bool} {ref : Int} {sp : Sn} {seg : List It} {refs : List Int}, SubT l ne h ref sp seg refs → (∀ y ∈ seg, InS sp y.1) ∧ Srt seg
  | 0, ne, ref, sp, seg, refs, h => h.elim
  | h + 1, ne, ref, sp, seg, refs, ⟨x, hx, .inl ⟨_, _, _, h1, _, e1, _⟩⟩ => by
    subst e1
    obtain ⟨h2, h3⟩ := rises_iff.1 h1
    exact ⟨fun y hy => h2 _ (List.mem_map_of_mem hy), by rw [List.pairwise_map] at h3; exact h3⟩
  | h + 1, ne, ref, sp, seg, refs, ⟨x, hx, .inr ⟨_, _, h0, h1, rs, h2, _⟩⟩ => by
    obtain ⟨h3, h4⟩ := KidsR.sorted (keysR_of h1) (fun r u s rs hs => SubT.sorted hs) (by omega) h2
    exact ⟨fun y hy => (h3 y hy).1, h4⟩

theorem hasP_iff {l : List It} {key : Bytes} : hasP l key = true ↔ ∃ y ∈ l, y.1 = key := by
  unfold hasP
  rw [List.any_eq_true]
  constructor
  · rintro ⟨y, hy, h⟩
    exact ⟨y, hy, cmp_eq_zero (by simpa using h)⟩
  · rintro ⟨y, hy, rfl⟩
    exact ⟨y, hy, by rw [cmp_self]; rfl⟩
/-- In rising items, the place that is found is that of the key. -/
theorem find_get {l : List It} (hs : Srt l) {y : It} (hy : y ∈ l) : l[findP l y.1]? = some y := by
  obtain ⟨i, hi⟩ := List.getElem?_of_mem hy
  obtain ⟨hl, e⟩ := List.getElem?_eq_some_iff.1 hi
  have hp := List.pairwise_iff_getElem.1 hs
  have : findP l y.1 = i := by
    unfold findP
    refine countP_first (by omega) (fun k z hk hz => ?_) (fun k z hk hz => ?_)
    · obtain ⟨hkl, ez⟩ := List.getElem?_eq_some_iff.1 hz
      have h1 := hp k i hkl hl hk
      rw [ez, e] at h1
      simp only [decide_eq_true_eq]
      exact h1
    · obtain ⟨hkl, ez⟩ := List.getElem?_eq_some_iff.1 hz
      rcases Nat.lt_or_ge i k with h2 | h2
      · have h1 := hp i k hl hkl h2
        rw [ez, e] at h1
        have := cmp_flip y.1 z.1
        simp only [decide_eq_false_iff_not]
        omega
      · obtain rfl : i = k := by omega
        rw [hi] at hz
        cases hz
        rw [cmp_self]
        rfl
  rw [this, hi]
theorem srt_rise {l : List It} (hs : Srt l) : RiseI l := fun k y z h1 h2 => by
  obtain ⟨a1, rfl⟩ := List.getElem?_eq_some_iff.1 h1
  obtain ⟨b1, rfl⟩ := List.getElem?_eq_some_iff.1 h2
  exact (List.pairwise_iff_getElem.1 hs) k (k + 1) a1 b1 (by omega)
/-- Downward to a key: the leaf has just the items of that key that there are. -/
theorem SubT.down {l : List Nm} {key : Bytes} : ∀ {h : Nat} {ne : Bool} {ref : Int} {sp : Sn} {seg : List It} {refs : List Int} {left : Nat}, SubT l ne h ref sp seg refs → InS sp key → h ≤ left →
    ∃ (path : List Sp) (s : Sp), downP l (chP key) left ref = (0, path) ∧ path.getLast? = some s ∧ Srt s.2.1.its ∧ (∀ y : It, y.1 = key → (y ∈ s.2.1.its ↔ y ∈ seg))
  | 0, ne, ref, sp, seg, refs, left, h, _, _ => h.elim
  | h + 1, ne, ref, sp, seg, refs, left, hT, hk, hl => by
    obtain ⟨left, rfl⟩ : ∃ k, left = k + 1 := ⟨left - 1, by omega⟩
    have hsrt := hT.sorted
    obtain ⟨x, hx, ⟨_, h1, h2, h3, _, e1, _⟩ | ⟨h1, h2, h3, h4, rs, h5, _⟩⟩ := hT
    · subst e1
      exact ⟨_, _, down_leaf hx h1, rfl, hsrt.2, fun y _ => Iff.rfl⟩
    · have hKR := keysR_of h4
      have hkk : chP key x = sideN x.kds key x.kds.length := by unfold chP; rw [if_neg (by rw [h1]; decide)]
      have hlt := sideN_le x.kds key x.kds.length (by omega)
      rw [← hkk] at hlt
      have hun := side_under (ks := x.kds) (by omega) hk
      rw [← hkk] at hun
      obtain ⟨segs, g1, g2, g3⟩ := h5.list
      obtain ⟨s, hs⟩ : ∃ s, segs[chP key x]? = some s := ⟨_, List.getElem?_eq_getElem (by omega)⟩
      obtain ⟨r, hr⟩ := g3 _ s hs
      rw [Nat.zero_add] at hr
      obtain ⟨path, sp', d1, d2, d3, d4⟩ := SubT.down hr hun (show h ≤ left by omega)
      have hkr : kidRef x (chP key x) = (kd x.kds (chP key x)).2 := by unfold kidRef; rw [kd_get hlt]; rfl
      refine ⟨(ref, x, (chP key x : Int)) :: path, sp', ?_, ?_, d3, fun y hy => (d4 y hy).trans ⟨fun h => ?_, fun h => ?_⟩⟩
      · rw [downP, hx]
        simp only
        rw [if_neg (fun e => by rw [e.2] at h3; simp at h3), if_neg (by rw [h1]; decide), hkr, d1, if_pos rfl]
      · rw [List.getLast?_cons, d2]
        rfl
      · rw [g2]
        exact List.mem_flatten.2 ⟨s, List.mem_of_getElem? hs, h⟩
      · rw [g2] at h
        obtain ⟨t, ht, hyt⟩ := List.mem_flatten.1 h
        obtain ⟨j, hj⟩ := List.getElem?_of_mem ht
        have hjl : j < x.kds.length := by have := (List.getElem?_eq_some_iff.1 hj).1; omega
        obtain ⟨r', hr'⟩ := g3 j t hj
        rw [Nat.zero_add] at hr'
        have hin := (hr'.sorted.1 y hyt)
        rw [hy] at hin
        have := under_one hKR hjl hlt hin hun
        subst this
        rw [hs] at hj
        cases hj
        exact hyt
/-- Get finds just its items. -/
theorem SubT.get {l : List Nm} {key : Bytes} {h : Nat} {ne : Bool} {ref : Int} {seg : List It} {refs : List Int} (hT : SubT l ne h ref ([], none) seg refs) (hh : h ≤ 12) :
    ∃ o, getP l key ref = (0, o) ∧ ∀ y : It, o = some y ↔ (y ∈ seg ∧ y.1 = key) := by
  have hin : InS ([], none) key := ⟨by have := cmp_nil key; have := cmp_flip key []; simp only at this ⊢; omega, fun h e => nomatch e⟩
  obtain ⟨path, s, h1, h2, h3, h4⟩ := hT.down hin hh
  refine ⟨if hasP s.2.1.its key = true then s.2.1.its[findP s.2.1.its key]? else none, ?_, fun y => ?_⟩
  · unfold getP
    rw [h1, if_pos rfl, h2]
    rfl
  · constructor
    · intro h
      split at h
      · rename_i h5
        obtain ⟨z, hz, e⟩ := hasP_iff.1 h5
        subst e
        rw [find_get h3 hz] at h
        cases h
        exact ⟨(h4 _ rfl).1 hz, rfl⟩
      · cases h
    · rintro ⟨hy, rfl⟩
      have hm := (h4 y rfl).2 hy
      rw [if_pos (hasP_iff.2 ⟨y, hm, rfl⟩)]
      exact find_get h3 hm
/-- Whatever is reached has its subtree. -/
theorem SubT.vis {l : List Nm} {h : Nat} {ne : Bool} {root : Int} {sp : Sn} {seg : List It} {refs : List Int} (hT : SubT l ne h root sp seg refs) {ref : Int} (hv : Vis l root ref) : ∃ h ne sp seg refs, SubT l ne h ref sp seg refs := by
  induction hv with
  | root => exact ⟨_, _, _, _, _, hT⟩
  | @kid r x y hv hx hl hy ih =>
    obtain ⟨h, ne, sp, seg, refs, hS⟩ := ih
    cases h with
    | zero => exact hS.elim
    | succ h =>
      obtain ⟨z, hz, ⟨_, h1, _⟩ | ⟨_, _, _, _, rs, h5, _⟩⟩ := hS
      · rw [hx] at hz
        cases hz
        rw [hl] at h1
        cases h1
      · rw [hx] at hz
        cases hz
        obtain ⟨segs, g1, g2, g3⟩ := h5.list
        obtain ⟨j, hj⟩ := List.getElem?_of_mem hy
        have hjl := (List.getElem?_eq_some_iff.1 hj).1
        rw [kd_get hjl] at hj
        obtain ⟨rr, hr⟩ := g3 j _ (List.getElem?_eq_getElem (by omega))
        rw [Nat.zero_add] at hr
        cases hj
        exact ⟨_, _, _, _, _, hr⟩
theorem SubT.ok {l : List Nm} {h : Nat} {ne : Bool} {root : Int} {sp : Sn} {seg : List It} {refs : List Int} (hT : SubT l ne h root sp seg refs) : ∀ ref x, Vis l root ref → nodeP l ref = some x → okP x := fun ref x hv hx hlf => by
  obtain ⟨h, ne, sp, seg, refs, hS⟩ := hT.vis hv
  cases h with
  | zero => exact hS.elim
  | succ h =>
    have hs := hS.sorted
    obtain ⟨z, hz, ⟨_, h1, _, _, _, e, _⟩ | ⟨h1, _⟩⟩ := hS
    · rw [hx] at hz
      cases hz
      subst e
      exact srt_rise hs.2
    · rw [hx] at hz
      cases hz
      rw [hlf] at h1
      cases h1
end Go.Proofs.Ytnjhpjpeeehagaa
