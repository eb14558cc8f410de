/-
  The document's choices are the program's; its keys are the program's.
-/
import Derived.Test.YtnjhpjpeeehagaaTrk
import Derived.Test.YtnjhpjpeeehagaaTpt
import Derived.Test.YtnjhpjpeeehagaaTsv
set_option linter.unusedVariables false
namespace Go.Proofs.Ytnjhpjpeeehagaa
open Go.RowKit

theorem side_last (key : Bytes) (l : List Kd) : ∀ k, k ≤ l.length → sideN l key k = lastP key l k
  | 0, _ => rfl
  | k + 1, h => by
    have ih := side_last key l k (by omega)
    have hx : l[k]? = some l[k] := List.getElem?_eq_getElem (by omega)
    rw [sideN, lastP, List.getD_eq_getElem?_getD, hx, Option.getD_some, ih]
    by_cases hk : 0 < k ∧ cmp (l[k]'(by omega)).1 key ≤ 0
    · rw [if_pos ⟨hk.1, _, rfl, hk.2⟩, if_pos ⟨hk.1, hk.2⟩]
    · rw [if_neg (fun ⟨h1, y, h2, h3⟩ => hk ⟨h1, by cases h2; exact h3⟩), if_neg (fun h => hk ⟨h.1, h.2⟩)]
theorem ch_find (key : Bytes) (x : Nd) : chP key x = dchP 0 key x := by
  unfold chP dchP
  rw [if_neg (show ¬ ((0 : Int) = 2) by decide), if_neg (show ¬ ((0 : Int) = 1) by decide), side_last key x.kds _ (Nat.le_refl _)]
  by_cases hl : x.leaf = true
  · rw [if_pos hl, if_pos hl]
    exact List.countP_eq_length_filter
  · rw [if_neg hl, if_neg hl]
theorem ch_first (x : Nd) : chE false x = dchP 1 [] x := rfl
theorem ch_last (x : Nd) : chE true x = dchP 2 [] x := by
  unfold chE dchP many
  rw [if_neg (by decide), if_pos rfl]
  split <;> rfl
theorem cmp_nil (k : Bytes) : 0 ≤ cmp k [] := by
  cases k <;> simp [cmp, Lib.compareBytes]
theorem cmp_pos {a b : Bytes} : 0 < cmp a b ↔ cmp b a < 0 := by
  rw [cmp_flip a b]
  omega
/-- Every key is in the span; each is above the one ahead, the first one above that. -/
theorem keys_tail {hi : Option Bytes} {sp : Sn} (hhi : sp.2 = hi) : ∀ (ks : List Bytes) (a : Bytes), 0 ≤ cmp a sp.1 → (KeysP hi (some a) false ks ↔ RisesP sp ks ∧ ∀ y, ks[0]? = some y → cmp a y < 0)
  | [], a, ha => ⟨fun _ => ⟨fun k y h => by simp at h, fun y h => by simp at h⟩, fun _ => trivial⟩
  | k :: r, a, ha => by
    have hok : okK (some a) false hi k ↔ cmp a k < 0 ∧ ∀ h, sp.2 = some h → cmp k h < 0 := by
      unfold okK
      rw [← hhi]
      constructor
      · rintro ⟨h1, h2⟩
        have h3 := h1 a rfl
        have h4 := cmp_range k a
        refine ⟨cmp_pos.1 (by rcases h4 with h | h | h; exact absurd (.inl (by omega)) h3; exact absurd (.inr ⟨h, rfl⟩) h3; omega), fun h hh => by have := h2 h hh; omega⟩
      · rintro ⟨h1, h2⟩
        have h3 := cmp_pos.2 h1
        exact ⟨fun b hb => by cases hb; rintro (h | ⟨h, _⟩) <;> omega, fun h hh => by have := h2 h hh; omega⟩
    have hsp : cmp a k < 0 → (hasS sp k = true ↔ ∀ h, sp.2 = some h → cmp k h < 0) := fun h1 => by
      have h0 : 0 ≤ cmp k sp.1 := by
        have h2 := cmp_trans sp.1 a k (by have := cmp_flip a sp.1; omega) (by omega)
        have := cmp_flip sp.1 k
        omega
      unfold hasS
      cases hs : sp.2 with
      | none => simp [h0]
      | some h => simp [h0]
    rw [KeysP, hok]
    constructor
    · rintro ⟨⟨h1, h2⟩, h3⟩
      have hk := (hsp h1).2 h2
      have hk0 : 0 ≤ cmp k sp.1 := by
        unfold hasS at hk
        simp at hk
        exact hk.1
      obtain ⟨h4, h5⟩ := (keys_tail hhi r k hk0).1 h3
      refine ⟨fun j y hy => ?_, fun y hy => by simp at hy; subst hy; exact h1⟩
      cases j with
      | zero =>
        simp at hy
        subst hy
        exact ⟨hk, fun q hq => by omega⟩
      | succ j =>
        simp at hy
        refine ⟨(h4 j y hy).1, fun q _ hq => ?_⟩
        cases j with
        | zero =>
          simp at hq
          subst hq
          exact h5 y hy
        | succ j =>
          simp at hq
          exact (h4 (j + 1) y hy).2 q (by omega) (by simpa using hq)
    · rintro ⟨h1, h2⟩
      have hak := h2 k rfl
      have hk := (h1 0 k rfl).1
      have hk0 : 0 ≤ cmp k sp.1 := by
        unfold hasS at hk
        simp at hk
        exact hk.1
      refine ⟨⟨hak, (hsp hak).1 hk⟩, (keys_tail hhi r k hk0).2 ⟨fun j y hy => ⟨(h1 (j + 1) y (by simpa using hy)).1, fun q hj hq => (h1 (j + 1) y (by simpa using hy)).2 q (by omega) (by cases j with | zero => omega | succ j => simpa using hq)⟩, fun y hy => (h1 1 y (by simpa using hy)).2 k (by omega) rfl⟩⟩
theorem keys_rises {hi lo : Option Bytes} {sp : Sn} (hlo : sp.1 = lo.getD []) (hhi : sp.2 = hi) (ks : List Bytes) : KeysP hi lo true ks ↔ RisesP sp ks := by
  cases ks with
  | nil => exact ⟨fun _ k y h => by simp at h, fun _ => trivial⟩
  | cons k r =>
    have hok : okK lo true hi k ↔ hasS sp k = true := by
      unfold okK hasS
      rw [hlo, ← hhi]
      cases lo with
      | none =>
        have := cmp_nil k
        cases hs : sp.2 with
        | none => simp [this]
        | some h => simp [this]
      | some b =>
        cases hs : sp.2 with
        | none => simp
        | some h => simp
    rw [KeysP, hok]
    constructor
    · rintro ⟨h1, h2⟩
      have hk0 : 0 ≤ cmp k sp.1 := by
        unfold hasS at h1
        simp at h1
        exact h1.1
      obtain ⟨h4, h5⟩ := (keys_tail hhi r k hk0).1 h2
      intro j y hy
      cases j with
      | zero =>
        simp at hy
        subst hy
        exact ⟨h1, fun q hq => by omega⟩
      | succ j =>
        simp at hy
        refine ⟨(h4 j y hy).1, fun q _ hq => ?_⟩
        cases j with
        | zero =>
          simp at hq
          subst hq
          exact h5 y hy
        | succ j =>
          simp at hq
          exact (h4 (j + 1) y hy).2 q (by omega) (by simpa using hq)
    · intro h1
      have hk := (h1 0 k rfl).1
      have hk0 : 0 ≤ cmp k sp.1 := by
        unfold hasS at hk
        simp at hk
        exact hk.1
      exact ⟨hk, (keys_tail hhi r k hk0).2 ⟨fun j y hy => ⟨(h1 (j + 1) y (by simpa using hy)).1, fun q hj hq => (h1 (j + 1) y (by simpa using hy)).2 q (by omega) (by cases j with | zero => omega | succ j => simpa using hq)⟩, fun y hy => (h1 1 y (by simpa using hy)).2 k (by omega) rfl⟩⟩
end Go.Proofs.Ytnjhpjpeeehagaa
