/-
  From All's answer to the tree, and back; the first and the last way.
-/
import Derived.Test.YtnjhpjpeeehagaaTth
import Derived.Test.YtnjhpjpeeehagaaTra
set_option linter.unusedVariables false
namespace Go.Proofs.Ytnjhpjpeeehagaa
open Go.RowKit

theorem meet_form {l : List Nm} {dp : Nat} {ref : Int} {sp : Sn} {S : Sv} {x : Nd} {S' : Sv} (h : (meetP l dp ref sp S).2 = some (x, S')) : nodeP l ref = some x ∧ FormP x dp sp ∧ evenB x dp S.dep = true ∧ ref ∉ S.refs ∧ S' = ⟨S.its ++ x.its, S.refs ++ [ref], depP x dp S.dep⟩ ∧ (meetP l dp ref sp S).1 = 0 := by
  unfold meetP at h ⊢
  split at h
  · cases h
  · rename_i h12
    rw [if_neg h12]
    cases hno : nodeP l ref with
    | none => rw [hno] at h; cases h
    | some y =>
      rw [hno] at h
      simp only at h ⊢
      split at h
      · cases h
      · rename_i hb
        cases h
        rw [if_neg hb]
        simp only [Bool.or_eq_true, not_or, decide_eq_true_eq, Bool.not_eq_true', Bool.not_eq_false] at hb
        exact ⟨rfl, (formB_iff _ _ _).1 hb.1.2, hb.2, hb.1.1, rfl, rfl⟩
/-- What a visit's good answer says. -/
def VisitT (l : List Nm) (f : Nat) (ref : Int) (sp : Sn) (S S' : Sv) : Prop :=
  ∃ h seg refs, SubT l (decide (f ≠ 12)) h ref sp seg refs ∧ S'.its = S.its ++ seg ∧ S'.refs = S.refs ++ refs ∧ S'.dep + 1 = 13 - f + h ∧ (S.dep = 0 ∨ S.dep = S'.dep) ∧ 1 ≤ h ∧ h ≤ f
theorem kids_sub {l : List Nm} {f : Nat} (hf : f < 12) (ih : ∀ ref sp S S', visitP l f ref sp S = (0, S') → VisitT l f ref sp S S') (ks : List Kd) (sp : Sn) : ∀ (m k : Nat) (S S' : Sv), 0 < m → kidsP (visitP l f) ks sp k m S = (0, S') →
    ∃ h seg refs, KidsR (SubT l true h) ks sp k m seg refs ∧ S'.its = S.its ++ seg ∧ S'.refs = S.refs ++ refs ∧ S'.dep + 1 = 13 - f + h ∧ (S.dep = 0 ∨ S.dep = S'.dep) ∧ 1 ≤ h ∧ h ≤ f
  | 0, k, S, S', h, _ => by omega
  | m + 1, k, S, S', _, h => by
    obtain ⟨R, hR⟩ : ∃ R, R = visitP l f (kd ks k).2 (underP sp ks k) S := ⟨_, rfl⟩
    have hk : kidsP (visitP l f) ks sp k (m + 1) S = if R.1 = 0 then kidsP (visitP l f) ks sp (k + 1) m R.2 else R := by rw [hR]; rfl
    rw [hk] at h
    obtain ⟨e, S1⟩ := R
    by_cases he : e = 0
    · subst he
      rw [if_pos rfl] at h
      simp only at h
      obtain ⟨h1, seg1, refs1, a1, a2, a3, a4, a5, a6, a7⟩ := ih _ _ _ _ hR.symm
      rw [decide_eq_true (by omega)] at a1
      rcases Nat.eq_zero_or_pos m with rfl | hm
      · simp only [kidsP] at h
        cases h
        exact ⟨h1, seg1, refs1, ⟨seg1, refs1, [], [], a1, ⟨rfl, rfl⟩, by simp, by simp⟩, a2, a3, a4, a5, a6, a7⟩
      · obtain ⟨h2, seg2, refs2, b1, b2, b3, b4, b5, b6, b7⟩ := kids_sub hf ih ks sp m (k + 1) S1 S' hm h
        obtain rfl : h1 = h2 := by omega
        exact ⟨h1, seg1 ++ seg2, refs1 ++ refs2, ⟨_, _, _, _, a1, b1, rfl, rfl⟩, by rw [b2, a2, List.append_assoc], by rw [b3, a3, List.append_assoc], b4, by omega, b6, b7⟩
    · rw [if_neg he] at h
      cases h
      exact absurd rfl he
theorem visit_sub {l : List Nm} : ∀ (f : Nat), f ≤ 12 → ∀ (ref : Int) (sp : Sn) (S S' : Sv), visitP l f ref sp S = (0, S') → VisitT l f ref sp S S'
  | 0, _, ref, sp, S, S', h => by
    rw [visitP] at h
    cases h
  | f + 1, hf, ref, sp, S, S', h => by
    rw [visitP] at h
    cases hm : (meetP l (12 - f) ref sp S).2 with
    | none =>
      rw [hm] at h
      simp only at h
      have := (meet_err (l := l) (dp := 12 - f) (ref := ref) (sp := sp) (S := S)).1 hm
      exact absurd (congrArg Prod.fst h) this
    | some q =>
      rw [hm] at h
      simp only at h
      obtain ⟨x, S1⟩ := q
      obtain ⟨h1, h2, h3, h4, h5, h6⟩ := meet_form hm
      simp only at h
      cases hl : x.leaf with
      | true =>
        unfold FormP at h2
        rw [if_pos hl] at h2
        obtain ⟨k1, k2, k3⟩ := h2
        rw [k1] at h
        simp only [List.length_nil, kidsP] at h
        cases h
        have hd : depP x (12 - f) S.dep = 12 - f := by
          unfold evenB at h3
          rw [hl] at h3
          simpa using h3
        refine ⟨1, x.its, [ref], ⟨x, h1, .inl ⟨rfl, hl, k1, k3, fun hne => ?_, rfl, rfl⟩⟩, by rw [h5], by rw [h5], by rw [h5]; simp only; omega, ?_, Nat.le_refl _, by omega⟩
        · rcases k2 with k2 | k2
          · exact k2
          · have := of_decide_eq_true hne
            omega
        · rw [h5]
          simp only
          unfold depP at hd ⊢
          by_cases h0 : S.dep = 0
          · exact .inl h0
          · rw [if_neg (fun e => h0 e.2)]
            exact .inr rfl
      | false =>
        unfold FormP at h2
        rw [if_neg (by rw [hl]; decide)] at h2
        obtain ⟨k1, k2, k3⟩ := h2
        have hd : depP x (12 - f) S.dep = S.dep := by unfold depP; rw [if_neg (fun e => by rw [hl] at e; cases e.1)]
        obtain ⟨hh, seg, refs, b1, b2, b3, b4, b5, b6, b7⟩ := kids_sub (by omega) (fun ref sp S S' hv => visit_sub f (by omega) ref sp S S' hv) x.kds sp x.kds.length 0 S1 S' (by omega) h
        rw [h5] at b2 b3 b5
        simp only at b2 b3 b5
        rw [hd] at b5
        rw [k1, List.append_nil] at b2
        refine ⟨hh + 1, seg, ref :: refs, ⟨x, h1, .inr ⟨hl, k1, k2, k3, refs, b1, rfl⟩⟩, b2, by rw [b3]; simp, by omega, b5, by omega, by omega⟩
/-- A tree of which All tells no error. -/
theorem all_sub {l : List Nm} {root : Int} {S : Sv} (h : allP l root = (0, S)) : ∃ hh refs, SubT l false hh root ([], none) S.its refs ∧ refs = S.refs ∧ S.dep = hh ∧ 1 ≤ hh ∧ hh ≤ 12 := by
  obtain ⟨hh, seg, refs, a1, a2, a3, a4, a5, a6, a7⟩ := visit_sub 12 (Nat.le_refl _) root ([], none) ⟨[], [], 0⟩ S h
  simp only [List.nil_append] at a2 a3
  refine ⟨hh, refs, ?_, a3.symm, by omega, a6, a7⟩
  rw [a2]
  exact a1
theorem SubT.weak {l : List Nm} {h : Nat} {ref : Int} {sp : Sn} {seg : List It} {refs : List Int} (hT : SubT l false h ref sp seg refs) (hs : seg ≠ []) : SubT l true h ref sp seg refs := by
  cases h with
  | zero => exact hT.elim
  | succ h =>
    obtain ⟨x, hx, ⟨h0, h1, h2, h3, _, e1, e2⟩ | hr⟩ := hT
    · exact ⟨x, hx, .inl ⟨h0, h1, h2, h3, fun _ => by rw [← e1]; exact hs, e1, e2⟩⟩
    · exact ⟨x, hx, .inr hr⟩
theorem kids_ends {g : Int → Sn → List It → List Int → Prop} (hg : ∀ r u s rs, g r u s rs → s ≠ []) {ks : List Kd} {sp : Sn} : ∀ {m k : Nat} {seg : List It} {refs : List Int}, 0 < m → KidsR g ks sp k m seg refs →
    (∃ s r t, g (kd ks k).2 (underP sp ks k) s r ∧ seg = s ++ t) ∧ ∃ s r t, g (kd ks (k + (m - 1))).2 (underP sp ks (k + (m - 1))) s r ∧ seg = t ++ s
  | 0, k, seg, refs, h, _ => by omega
  | m + 1, k, seg, refs, _, ⟨s1, r1, s2, r2, h1, h2, e1, e2⟩ => by
    refine ⟨⟨s1, r1, s2, h1, e1⟩, ?_⟩
    rcases Nat.eq_zero_or_pos m with rfl | hm
    · exact ⟨s1, r1, [], h1, by rw [e1, h2.1]; simp⟩
    · obtain ⟨_, s, r, t, h3, h4⟩ := kids_ends hg hm h2
      refine ⟨s, r, s1 ++ t, ?_, by rw [e1, h4, List.append_assoc]⟩
      rw [show k + (m + 1 - 1) = k + 1 + (m - 1) by omega]
      exact h3
theorem SubT.some_ {l : List Nm} : ∀ {h : Nat} {ref : Int} {sp : Sn} {seg : List It} {refs : List Int}, SubT l true h ref sp seg refs → seg ≠ []
  | 0, ref, sp, seg, refs, h => h.elim
  | h + 1, ref, sp, seg, refs, ⟨x, hx, .inl ⟨_, _, _, _, h1, e1, _⟩⟩ => by rw [e1]; exact h1 rfl
  | h + 1, ref, sp, seg, refs, ⟨x, hx, .inr ⟨_, _, h0, _, rs, h2, _⟩⟩ => by
    obtain ⟨⟨s, r, t, h3, h4⟩, _⟩ := kids_ends (fun r u s rs hs => SubT.some_ hs) (by omega) h2
    intro e
    rw [e] at h4
    exact SubT.some_ h3 (List.append_eq_nil_iff.1 h4.symm).1
theorem head_app {α : Type} {s t : List α} (h : s ≠ []) : (s ++ t).head? = s.head? := by
  cases s with
  | nil => exact absurd rfl h
  | cons x s => rfl
theorem last_app {α : Type} {s t : List α} (h : s ≠ []) : (t ++ s).getLast? = s.getLast? := by
  rw [List.getLast?_append]
  cases hs : s.getLast? with
  | none => exact absurd (List.getLast?_eq_none_iff.1 hs) h
  | some x => rfl
/-- The first way, and the last one. -/
theorem SubT.edge {l : List Nm} (last : Bool) : ∀ {h : Nat} {ref : Int} {sp : Sn} {seg : List It} {refs : List Int} {left : Nat}, SubT l true h ref sp seg refs → h ≤ left →
    ∃ (path : List Sp) (s : Sp), downP l (chE last) left ref = (0, path) ∧ path.length = h ∧ path.getLast? = some s ∧ s.2.2 = ((if last = true then s.2.1.its.length - 1 else 0 : Nat) : Int) ∧ s.2.1.its ≠ [] ∧ (if last = true then s.2.1.its.getLast? = seg.getLast? else s.2.1.its.head? = seg.head?)
  | 0, ref, sp, seg, refs, left, h, _ => h.elim
  | h + 1, ref, sp, seg, refs, left, hT, hl => by
    obtain ⟨left, rfl⟩ : ∃ k, left = k + 1 := ⟨left - 1, by omega⟩
    obtain ⟨x, hx, ⟨h0, h1, h2, h3, h4, e1, _⟩ | ⟨h1, h2, h3, h4, rs, h5, _⟩⟩ := hT
    · subst e1 h0
      refine ⟨_, _, down_leaf hx h1, rfl, rfl, ?_, h4 rfl, by split <;> rfl⟩
      show ((chE last x : Nat) : Int) = _
      unfold chE
      cases last
      · rfl
      · rw [if_neg (by decide), if_pos h1]
        rfl
    · have hlt : chE last x < x.kds.length := by
        unfold chE
        cases last
        · rw [if_pos rfl]; omega
        · rw [if_neg (by decide), if_neg (by rw [h1]; decide)]; omega
      have hkr : kidRef x (chE last x) = (kd x.kds (chE last x)).2 := by unfold kidRef; rw [kd_get hlt]; rfl
      obtain ⟨⟨s1, r1, t1, g1, g2⟩, s2, r2, t2, g3, g4⟩ := kids_ends (fun r u s rs hs => SubT.some_ hs) (show 0 < x.kds.length by omega) h5
      rw [Nat.zero_add] at g3
      obtain ⟨path, s, d1, d2, d3, d4, d5, d6⟩ : ∃ (path : List Sp) (s : Sp), downP l (chE last) left (kd x.kds (chE last x)).2 = (0, path) ∧ path.length = h ∧ path.getLast? = some s ∧ s.2.2 = ((if last = true then s.2.1.its.length - 1 else 0 : Nat) : Int) ∧ s.2.1.its ≠ [] ∧ (if last = true then s.2.1.its.getLast? = seg.getLast? else s.2.1.its.head? = seg.head?) := by
        cases last with
        | false =>
          have e0 : chE false x = 0 := rfl
          rw [e0]
          obtain ⟨path, s, d1, d2, d3, d4, d5, d6⟩ := SubT.edge false g1 (show h ≤ left by omega)
          refine ⟨path, s, d1, d2, d3, d4, d5, ?_⟩
          rw [if_neg (by decide)] at d6 ⊢
          rw [d6, g2, head_app (SubT.some_ g1)]
        | true =>
          have e0 : chE true x = x.kds.length - 1 := by unfold chE; rw [if_neg (by decide), if_neg (by rw [h1]; decide)]
          rw [e0]
          obtain ⟨path, s, d1, d2, d3, d4, d5, d6⟩ := SubT.edge true g3 (show h ≤ left by omega)
          refine ⟨path, s, d1, d2, d3, d4, d5, ?_⟩
          rw [if_pos rfl] at d6 ⊢
          rw [d6, g4, last_app (SubT.some_ g3)]
      refine ⟨(ref, x, (chE last x : Int)) :: path, s, ?_, by rw [List.length_cons, d2], ?_, d4, d5, d6⟩
      · rw [downP, hx]
        simp only
        rw [if_neg (fun e => by rw [e.2] at h3; simp at h3), if_neg (by rw [h1]; decide), hkr, d1, if_pos rfl]
      · rw [List.getLast?_cons, d3]
        rfl
end Go.Proofs.Ytnjhpjpeeehagaa
