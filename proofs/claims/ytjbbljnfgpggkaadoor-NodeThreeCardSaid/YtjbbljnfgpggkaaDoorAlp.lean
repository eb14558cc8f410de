/-
  What the laws' own leaf and branch are: plain facts.
-/
import Derived.Test.YtjbbljnfgpggkaaDoorFnd
import Derived.Test.YtjbbljnfgpggkaaDoorPln
import Derived.Test.YtjbbljnfgpggkaaDoorKid
set_option linter.unusedVariables false
namespace Go.Proofs.YtjbbljnfgpggkaaDoor
open Go.RowKit

def akey (k : Nat) : Bytes := [97, 98, 99, 100, UInt8.ofNat (48 + k)]
def aval : Bytes := List.replicate 31 0
def ait (k : Nat) : It := (akey k, aval, 0, 0)
def aits (k : Nat) : List It := (List.range k).map ait
theorem aits_length (k : Nat) : (aits k).length = k := by simp [aits]
theorem aits_get {k i : Nat} (h : i < k) : (aits k)[i]? = some (ait i) := by simp [aits, h]
theorem aits_succ (k : Nat) : aits (k + 1) = aits k ++ [ait k] := by simp [aits, List.range_succ]
theorem akey_less : ∀ k, k < 7 → ∀ i, i < k → cmp (akey i) (akey k) < 0 := by decide
theorem akey_more : ∀ k, k < 7 → ∀ i, i < 7 → k < i → 0 < cmp (akey i) (akey k) := by decide
theorem found_next {k i : Nat} {b : Bool} (hk : k < 7) (h : Found (aits k) (akey k) i b) : i = k ∧ b = false := by
  obtain ⟨h1, h2, h3, h4⟩ := h
  rw [aits_length] at h1 h3
  have hi : i = k := by
    rcases h3 with h3 | ⟨y, h3, h5⟩
    · exact h3
    · have hlt := (List.getElem?_eq_some_iff.1 h3).1
      rw [aits_length] at hlt
      rw [aits_get hlt] at h3
      cases h3
      have := akey_less k hk i hlt
      exact absurd h5 (by show ¬ 0 ≤ cmp (akey i) (akey k); omega)
  subst hi
  refine ⟨rfl, ?_⟩
  rw [← Bool.not_eq_true]
  intro hb
  obtain ⟨y, hy, _⟩ := h4.1 hb
  have := (List.getElem?_eq_some_iff.1 hy).1
  rw [aits_length] at this
  omega
theorem with_next (k : Nat) : (aits k).take k ++ ([ait k] ++ (aits k).drop (k + if false = true then 1 else 0)) = aits (k + 1) := by
  rw [aits_succ, List.take_of_length_le (by rw [aits_length]; exact Nat.le_refl _), List.drop_eq_nil_of_le (by rw [aits_length]; simp)]
  rfl
theorem found_three {i : Nat} {b : Bool} (h : Found (aits 7) (akey 3) i b) : i = 3 ∧ b = true := by
  obtain ⟨h1, h2, h3, h4⟩ := h
  rw [aits_length] at h1 h3
  have hi : i = 3 := by
    have a1 : ¬ i < 3 := fun hlt => by
      rcases h3 with h3 | ⟨y, h3, h5⟩
      · omega
      · rw [aits_get (by omega)] at h3
        cases h3
        have := akey_less 3 (by omega) i hlt
        exact absurd h5 (by show ¬ 0 ≤ cmp (akey i) (akey 3); omega)
    have a2 : ¬ 3 < i := fun hlt => by
      rcases h2 with h2 | ⟨y, h2, h5⟩
      · omega
      · rw [aits_get (by omega)] at h2
        cases h2
        by_cases e : i - 1 = 3
        · rw [e] at h5
          have : cmp (akey 3) (akey 3) = 0 := cmp_self _
          exact absurd h5 (by show ¬ cmp (akey 3) (akey 3) < 0; omega)
        · have := akey_more 3 (by omega) (i - 1) (by omega) (by omega)
          exact absurd h5 (by show ¬ cmp (akey (i - 1)) (akey 3) < 0; omega)
    omega
  subst hi
  exact ⟨rfl, h4.2 ⟨ait 3, aits_get (by omega), cmp_self _⟩⟩

def alf : Nd := ⟨true, aits 7, []⟩
def abr : Nd := ⟨false, [], [([], 2), ([109], 3)]⟩
theorem alf_rms : rms 1 alf = [40, 40, 40, 40, 40, 40, 40] := by decide
theorem alf_room : nrm 1 alf = 280 := by unfold nrm; rw [alf_rms]; rfl
theorem alf_fit : nfit 1 alf = false := by unfold nfit; rw [alf_room]; decide
theorem alf_mid : IsMid (rms 1 alf) 4 := by
  rw [alf_rms]
  refine ⟨by omega, by decide, fun j h1 h2 => ?_, .inl (by decide)⟩
  have : j = 1 ∨ j = 2 ∨ j = 3 := by omega
  rcases this with rfl | rfl | rfl <;> decide
def alps : List Pt := [([], ⟨true, aits 4, []⟩), (akey 4, ⟨true, (aits 7).drop 4, []⟩)]
theorem alf_cuts {l : List Pt} (h : Cuts 1 [] alf l) : l = alps := by
  refine h.uniq (Cuts.cut [] alf 4 [([], fstN 4 alf)] [(keyN 4 alf, sndN 4 alf)] alf_fit (by decide) alf_mid (Cuts.one _ _ (.inl ?_)) (Cuts.one _ _ (.inl ?_)))
  · decide
  · decide
theorem alf_small : Small alf := by
  refine ⟨by decide, by decide, ?_, ?_⟩
  · intro i hi
    simp only [alf, aits, List.mem_map, List.mem_range] at hi
    obtain ⟨k, _, rfl⟩ := hi
    exact ⟨by show 5 ≤ 1000; omega, by show (List.replicate 31 (0 : UInt8)).length ≤ 10000; simp⟩
  · simp [alf]
theorem abr_small : Small abr := by
  refine ⟨by decide, by decide, by simp [abr], ?_⟩
  intro i hi
  simp only [abr, List.mem_cons, List.not_mem_nil, or_false] at hi
  rcases hi with rfl | rfl <;> simp
theorem abr_ok : ∀ k y, abr.kds[k]? = some y → KidOk 2 k y := by
  intro k y hy
  match k, hy with
  | 0, hy => cases hy; exact ⟨by decide, by decide, fun _ => rfl, fun h => absurd rfl h⟩
  | 1, hy => cases hy; exact ⟨by decide, by decide, fun h => by omega, fun _ => by decide⟩
  | k + 2, hy => simp [abr] at hy
theorem abr_rise : ∀ k y z, abr.kds[k]? = some y → abr.kds[k + 1]? = some z → cmp y.1 z.1 < 0 := by
  intro k y z hy hz
  match k, hy, hz with
  | 0, hy, hz => cases hy; cases hz; decide
  | k + 1, hy, hz => simp [abr] at hz
theorem abr_fit : nfit 2 abr = true := by decide
theorem abr_low : decide (3 * nrm 1 abr < tr 1 248 240 240) = true := by decide
theorem alf_join : joinN ⟨true, aits 4, []⟩ ⟨true, (aits 7).drop 4, []⟩ (akey 4) = alf := by
  unfold joinN
  simp only [alf, if_true]
  exact congrArg (fun l => Nd.mk true l []) (show aits 4 ++ (aits 7).drop 4 = aits 7 by decide)
end Go.Proofs.YtjbbljnfgpggkaaDoor
