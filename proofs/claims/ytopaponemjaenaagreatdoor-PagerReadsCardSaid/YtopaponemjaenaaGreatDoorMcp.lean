/-
  Metas: the document's Choose as plain data; it tells what the program's tells. No memory here.
-/
import Derived.Test.YtopaponemjaenaaGreatDoorMdq
import Derived.Test.YtopaponemjaenaaGreatDoorMag
set_option linter.unusedVariables false
namespace Go.Proofs.YtopaponemjaenaaGreatDoor

theorem md_ok {b : Bytes} (h : mdE b = 0) : ∃ (G PH T X R P L k : Nat), mdM b = [(G : Int), PH, T, X, R, P, L] ∧ Nats G PH T X R P L k (mdX b) ∧ okL (mdM b) (mdX b).length = true ∧ encB (mdM b) (mdX b) = b := by
  have hd := (doc_iff b).1.2 h
  obtain ⟨e1, e2⟩ := (doc_iff b).2 hd
  obtain ⟨h2, h3⟩ := doc_back hd
  rw [← e1, ← e2] at h2 h3
  obtain ⟨m, hm⟩ : ∃ m, m = mdM b := ⟨_, rfl⟩
  have h7 : ∃ g ph t x r p l, m = [g, ph, t, x, r, p, l] := by rw [hm, e1]; exact ⟨_, _, _, _, _, _, _, rfl⟩
  obtain ⟨g, ph, t, x, r, p, l, rfl⟩ := h7
  have hp : okP g ph t x r p l (mdX b).length := of_decide_eq_true (by rw [← hm] at h2; exact h2)
  obtain ⟨G, PH, T, X, R, P, L, k, rfl, rfl, rfl, rfl, rfl, rfl, rfl, hN⟩ := nats_of hp
  exact ⟨G, PH, T, X, R, P, L, k, hm.symm, hN, h2, h3⟩
theorem md_no {b : Bytes} (h : mdE b ≠ 0) : mdM b = [0, 0, 0, 0, 0, 0, 0] ∧ mdX b = [] := by
  unfold mdM mdX
  rw [if_neg h, if_neg h]
  exact ⟨rfl, rfl⟩
theorem md_get {b : Bytes} (h : mdE b = 0) : ∃ k : Nat, (mdM b).getD 3 0 = (k : Int) ∧ 1 ≤ k ∧ k ≤ 2147483647 := by
  obtain ⟨G, PH, T, X, R, P, L, k, hM, hN, _⟩ := md_ok h
  exact ⟨X, by rw [hM]; rfl, hN.hX.1, hN.hX.2⟩
/-- An even number, where there is a meta. -/
def firstB (M : List Int) (e : Int) : Bool := decide (e = 0) && decide (M.getD 3 0 % 2 = 0)
def secondB (M : List Int) (e : Int) : Bool := decide (e = 0) && decide (M.getD 3 0 % 2 = 1)
/-- What the document chooses. -/
def docC (aM bM : List Int) (aX bX : Bytes) (aE bE : Int) : ChS :=
  if firstB aM aE = true ∧ (secondB bM bE = false ∨ bM.getD 3 0 < aM.getD 3 0) then ⟨aM, aX, 0, 0⟩
  else if secondB bM bE = true then ⟨bM, bX, 1, 0⟩
  else ⟨[0, 0, 0, 0, 0, 0, 0], [], -1, if aE = 93 ∨ bE = 93 then 93 else 92⟩
def whyZ (s : ChS) : Int := if 0 ≤ s.at_ then 0 else s.why
theorem sl_of {k : Nat} (h : k ≤ 2147483647) : sl (k : Int) = ((k % 2 : Nat) : Int) := and_one k (by omega)
theorem step_eq (q : Int) (hq : q = 0 ∨ q = 1) (s : ChS) (b : Bytes) (hs : s.N.getD 3 0 = 0) : chStep q s (mdM b) (mdX b) (mdE b) = if mdE b = 93 then ⟨s.N, s.X, s.at_, 93⟩ else if (decide (mdE b = 0) && decide ((mdM b).getD 3 0 % 2 = q)) = true then ⟨mdM b, mdX b, q, s.why⟩ else s := by
  unfold chStep
  by_cases h1 : mdE b = 93
  · rw [if_pos h1, if_pos h1]
  rw [if_neg h1, if_neg h1]
  by_cases h2 : mdE b = 0
  · obtain ⟨k, hk, hk1, hk2⟩ := md_get h2
    rw [hk, hs, sl_of hk2, decide_eq_true h2, Bool.true_and]
    by_cases h3 : ((k : Nat) : Int) % 2 = q
    · rw [if_pos ⟨h2, by omega, by omega⟩, if_pos (decide_eq_true h3)]
    · rw [if_neg (fun h => h3 (by have := h.2.1; omega)), if_neg (fun e => h3 (of_decide_eq_true e))]
  · rw [if_neg (fun h => h2 h.1), decide_eq_false h2, Bool.false_and, if_neg (by decide)]
theorem step_eq1 (s : ChS) (b : Bytes) (k : Nat) (hs : s.N.getD 3 0 = (k : Int)) (hk : k % 2 = 0) : chStep 1 s (mdM b) (mdX b) (mdE b) = if mdE b = 93 then ⟨s.N, s.X, s.at_, 93⟩ else if secondB (mdM b) (mdE b) = true ∧ ¬ (mdM b).getD 3 0 < (k : Int) then ⟨mdM b, mdX b, 1, s.why⟩ else s := by
  unfold chStep secondB
  by_cases h1 : mdE b = 93
  · rw [if_pos h1, if_pos h1]
  rw [if_neg h1, if_neg h1]
  by_cases h2 : mdE b = 0
  · obtain ⟨j, hj, hj1, hj2⟩ := md_get h2
    rw [hj, hs, sl_of hj2, decide_eq_true h2, Bool.true_and]
    by_cases h3 : ((j : Nat) : Int) % 2 = 1 ∧ ¬ ((j : Nat) : Int) < (k : Int)
    · rw [if_pos ⟨h2, by omega, by omega⟩, if_pos ⟨decide_eq_true h3.1, h3.2⟩]
    · rw [if_neg (fun h => h3 (by have := h.2; omega)), if_neg (fun e => h3 ⟨of_decide_eq_true e.1, e.2⟩)]
  · rw [if_neg (fun h => h2 h.1), decide_eq_false h2, Bool.false_and, if_neg (fun h => by cases h.1)]
theorem doc_choose (a b : Bytes) : (mdC a b).N = (docC (mdM a) (mdM b) (mdX a) (mdX b) (mdE a) (mdE b)).N ∧ (mdC a b).X = (docC (mdM a) (mdM b) (mdX a) (mdX b) (mdE a) (mdE b)).X
    ∧ (mdC a b).at_ = (docC (mdM a) (mdM b) (mdX a) (mdX b) (mdE a) (mdE b)).at_ ∧ whyZ (mdC a b) = whyZ (docC (mdM a) (mdM b) (mdX a) (mdX b) (mdE a) (mdE b)) := by
  have e : mdC a b = chStep 1 (chStep 0 ch0 (mdM a) (mdX a) (mdE a)) (mdM b) (mdX b) (mdE b) := rfl
  rw [e, step_eq 0 (.inl rfl) ch0 a rfl]
  have ef : (decide (mdE a = 0) && decide ((mdM a).getD 3 0 % 2 = 0)) = firstB (mdM a) (mdE a) := rfl
  rw [ef]
  unfold docC
  by_cases h1 : mdE a = 93
  · have f1 : firstB (mdM a) (mdE a) = false := by unfold firstB; rw [h1]; rfl
    rw [if_pos h1, if_neg (fun h => by rw [f1] at h; cases h.1), step_eq 1 (.inr rfl) ⟨ch0.N, ch0.X, ch0.at_, 93⟩ b rfl]
    have es : (decide (mdE b = 0) && decide ((mdM b).getD 3 0 % 2 = 1)) = secondB (mdM b) (mdE b) := rfl
    rw [es]
    by_cases h2 : mdE b = 93
    · have f2 : secondB (mdM b) (mdE b) = false := by unfold secondB; rw [h2]; rfl
      rw [if_pos h2, if_neg (by rw [f2]; decide), if_pos (.inl h1)]
      exact ⟨rfl, rfl, rfl, rfl⟩
    rw [if_neg h2]
    by_cases h3 : secondB (mdM b) (mdE b) = true
    · rw [if_pos h3, if_pos h3]
      exact ⟨rfl, rfl, rfl, rfl⟩
    · rw [if_neg h3, if_neg h3, if_pos (.inl h1)]
      exact ⟨rfl, rfl, rfl, rfl⟩
  rw [if_neg h1]
  by_cases hf : firstB (mdM a) (mdE a) = true
  · have h0 : mdE a = 0 := by unfold firstB at hf; simp only [Bool.and_eq_true, decide_eq_true_eq] at hf; exact hf.1
    have hev : (mdM a).getD 3 0 % 2 = 0 := by unfold firstB at hf; simp only [Bool.and_eq_true, decide_eq_true_eq] at hf; exact hf.2
    obtain ⟨k, hk, hk1, hk2⟩ := md_get h0
    rw [if_pos hf, step_eq1 ⟨mdM a, mdX a, 0, ch0.why⟩ b k hk (by rw [hk] at hev; omega)]
    by_cases h2 : mdE b = 93
    · have f2 : secondB (mdM b) (mdE b) = false := by unfold secondB; rw [h2]; rfl
      rw [if_pos h2, if_pos ⟨hf, .inl f2⟩]
      exact ⟨rfl, rfl, rfl, rfl⟩
    rw [if_neg h2]
    by_cases h3 : secondB (mdM b) (mdE b) = true
    · by_cases h4 : (mdM b).getD 3 0 < (k : Int)
      · rw [if_neg (fun h => h.2 h4), if_pos ⟨hf, .inr (by rw [hk]; exact h4)⟩]
        exact ⟨rfl, rfl, rfl, rfl⟩
      · rw [if_pos ⟨h3, h4⟩, if_neg (fun h => by rcases h.2 with h5 | h5; (rw [h3] at h5; cases h5); (rw [hk] at h5; exact h4 h5)), if_pos h3]
        exact ⟨rfl, rfl, rfl, rfl⟩
    · have f2 : secondB (mdM b) (mdE b) = false := by simpa using h3
      rw [if_neg (fun h => h3 h.1), if_pos ⟨hf, .inl f2⟩]
      exact ⟨rfl, rfl, rfl, rfl⟩
  · rw [if_neg hf, if_neg (fun h => hf h.1), step_eq 1 (.inr rfl) ch0 b rfl]
    have es : (decide (mdE b = 0) && decide ((mdM b).getD 3 0 % 2 = 1)) = secondB (mdM b) (mdE b) := rfl
    rw [es]
    by_cases h2 : mdE b = 93
    · have f2 : secondB (mdM b) (mdE b) = false := by unfold secondB; rw [h2]; rfl
      rw [if_pos h2, if_neg (by rw [f2]; decide), if_pos (.inr h2)]
      exact ⟨rfl, rfl, rfl, rfl⟩
    rw [if_neg h2]
    by_cases h3 : secondB (mdM b) (mdE b) = true
    · rw [if_pos h3, if_pos h3]
      exact ⟨rfl, rfl, rfl, rfl⟩
    · rw [if_neg h3, if_neg h3, if_neg (fun h => by rcases h with h | h; (exact h1 h); (exact h2 h))]
      exact ⟨rfl, rfl, rfl, rfl⟩
end Go.Proofs.YtopaponemjaenaaGreatDoor
