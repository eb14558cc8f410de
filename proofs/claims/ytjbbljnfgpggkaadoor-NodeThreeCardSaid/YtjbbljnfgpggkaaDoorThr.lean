/-
  A right node of one generation, one entry more, in a greater generation: three pieces at most, and each fits.
-/
import Derived.Test.YtjbbljnfgpggkaaDoorDrt
import Derived.Test.YtjbbljnfgpggkaaDoorWit
set_option linter.unusedVariables false
namespace Go.Proofs.YtjbbljnfgpggkaaDoor
open Go.RowKit

theorem fst_rms (g : Int) (k : Nat) (x : Nd) : rms g (fstN k x) = (rms g x).take k := by
  unfold rms fstN
  cases hx : x.leaf <;> simp [List.map_take]
theorem snd_rms {g : Int} (k : Nat) {x : Nd} (he : Each 60 (rms g x)) : Each 60 (rms g (sndN k x)) ∧ (rms g (sndN k x)).sum ≤ ((rms g x).drop k).sum := by
  have hd : Each 60 ((rms g x).drop k) := fun a ha => he a (List.mem_of_mem_drop ha)
  cases hx : x.leaf
  · have e1 : rms g (sndN k x) = (headK [] (x.kds.drop k)).map (krm g) := by unfold rms sndN; simp [hx]
    have e2 : (rms g x).drop k = (x.kds.drop k).map (krm g) := by unfold rms; simp [hx, List.map_drop]
    rw [e2] at hd ⊢
    rw [e1]
    generalize x.kds.drop k = l at hd ⊢
    cases l with
    | nil => exact ⟨hd, Int.le_refl _⟩
    | cons y l =>
      obtain ⟨key, r⟩ := y
      have hk : 0 ≤ krm g ([], r) ∧ krm g ([], r) ≤ krm g (key, r) := by
        unfold krm kid
        have := trs g
        split <;> simp <;> omega
      have h1 := hd (krm g (key, r)) (by simp)
      refine ⟨fun a ha => ?_, ?_⟩
      · simp only [headK, List.map_cons, List.mem_cons] at ha
        rcases ha with rfl | ha
        · exact ⟨hk.1, by omega⟩
        · exact hd a (by simp only [List.map_cons, List.mem_cons]; exact .inr ha)
      · simp only [headK, List.map_cons, List.sum_cons]
        omega
  · have e1 : rms g (sndN k x) = (rms g x).drop k := by unfold rms sndN; simp [hx, List.map_drop]
    rw [e1]
    exact ⟨hd, Int.le_refl _⟩
theorem take_drop_sum (l : List Int) (k : Nat) : (l.take k).sum + (l.drop k).sum = l.sum := by
  rw [← List.sum_append, List.take_append_drop]
theorem nfit_of {g : Int} {x : Nd} (hg : 1 ≤ g ∧ g ≤ 3) (h : nrm g x ≤ 240) : nfit g x = true := by
  unfold nfit
  rw [decide_eq_true_eq]
  unfold tr
  split
  · omega
  · split
    · omega
    · split <;> omega
theorem nfit_few {g : Int} {x : Nd} (hg : 1 ≤ g ∧ g ≤ 3) (he : Each 60 (rms g x)) (hm : many x < 2) : nfit g x = true := by
  refine nfit_of hg ?_
  have h1 := (Each.sum (by omega) he).2
  rw [rms_length] at h1
  have h2 : (many x : Int) ≤ 1 := by omega
  have h3 : (many x : Int) * 60 ≤ 60 := by omega
  unfold nrm
  omega
theorem cut_one {g : Int} {key : Bytes} {x : Nd} {l : List Pt} (h : Cuts g key x l) (hf : nfit g x = true) : l = [(key, x)] := by
  cases h with
  | one _ _ _ => rfl
  | cut _ _ k a b h1 _ _ _ _ => rw [hf] at h1; cases h1
theorem halves60 {g : Int} {x : Nd} {k : Nat} (he : Each 60 (rms g x)) (hm : IsMid (rms g x) k) :
    2 * nrm g (fstN k x) ≤ nrm g x + 120 ∧ (2 * nrm g (sndN k x) ≤ nrm g x ∨ 2 * nrm g (sndN k x) ≤ 120) := by
  obtain ⟨m1, m2, m3, m4⟩ := hm
  have hs0 := (Each.sum (by omega) he).1
  have e1 : nrm g (fstN k x) = pre (rms g x) k := by unfold nrm; rw [fst_rms]; rfl
  have e2 := (snd_rms k he).2
  have e3 := take_drop_sum (rms g x) k
  have e4 : nrm g (sndN k x) ≤ (rms g x).sum - pre (rms g x) k := by unfold nrm pre; omega
  obtain ⟨a, ha⟩ : ∃ a, (rms g x)[k - 1]? = some a := ⟨_, List.getElem?_eq_getElem (by omega)⟩
  have hp := pre_succ ha
  rw [show k - 1 + 1 = k by omega] at hp
  have ha60 := he a (List.mem_of_getElem? ha)
  refine ⟨?_, ?_⟩
  · rw [e1]
    unfold nrm
    by_cases h1 : k = 1
    · subst h1
      rw [show (1 : Nat) - 1 = 0 from rfl, pre_zero] at hp
      omega
    · have := m3 (k - 1) (by omega) (by omega)
      omega
  · rcases m4 with m4 | m4
    · left
      unfold nrm at e4 ⊢
      omega
    · right
      obtain ⟨z, hz⟩ : ∃ z, (rms g x)[k]? = some z := ⟨_, List.getElem?_eq_getElem (by omega)⟩
      have hz60 := he z (List.mem_of_getElem? hz)
      have hq := pre_succ hz
      rw [m4, pre_all] at hq
      omega
theorem fst_each {g : Int} {x : Nd} (k : Nat) (he : Each 60 (rms g x)) : Each 60 (rms g (fstN k x)) := by
  rw [fst_rms]
  exact fun a ha => he a (List.mem_of_mem_take ha)
theorem two_of {g : Int} {key : Bytes} {x : Nd} {l : List Pt} (hg : 1 ≤ g ∧ g ≤ 3) (h : Cuts g key x l) (he : Each 60 (rms g x)) (hT : nrm g x ≤ 300) : l.length ≤ 2 ∧ ∀ p ∈ l, nfit g p.2 = true := by
  cases h with
  | one _ _ h1 =>
    refine ⟨by simp, fun p hp => ?_⟩
    simp at hp
    subst hp
    rcases h1 with h1 | h1
    · exact h1
    · exact nfit_few hg he h1
  | cut _ _ k a b h1 h2 h3 h4 h5 =>
    have hh := halves60 he h3
    have f1 := nfit_of (x := fstN k x) hg (by omega)
    have f2 := nfit_of (x := sndN k x) hg (by omega)
    have ea := cut_one h4 f1
    have eb := cut_one h5 f2
    subst ea eb
    refine ⟨by simp, fun p hp => ?_⟩
    simp at hp
    rcases hp with rfl | rfl
    · exact f1
    · exact f2
theorem three_of {g : Int} {key : Bytes} {x : Nd} {l : List Pt} (hg : 1 ≤ g ∧ g ≤ 3) (h : Cuts g key x l) (he : Each 60 (rms g x)) (hT : nrm g x ≤ 480) : l.length ≤ 3 ∧ ∀ p ∈ l, nfit g p.2 = true := by
  cases h with
  | one _ _ h1 =>
    refine ⟨by simp, fun p hp => ?_⟩
    simp at hp
    subst hp
    rcases h1 with h1 | h1
    · exact h1
    · exact nfit_few hg he h1
  | cut _ _ k a b h1 h2 h3 h4 h5 =>
    have hh := halves60 he h3
    have f2 := nfit_of (x := sndN k x) hg (by omega)
    have eb := cut_one h5 f2
    obtain ⟨l1, l2⟩ := two_of hg h4 (fst_each k he) (by omega)
    subst eb
    refine ⟨by rw [List.length_append]; simp; omega, fun p hp => ?_⟩
    rw [List.mem_append] at hp
    rcases hp with hp | hp
    · exact l2 p hp
    · simp at hp
      subst hp
      exact f2

/-- What an item that may be takes, in its own generation and in a greater one. -/
theorem irm_two {g h : Int} {i : It} (hg : 1 ≤ g ∧ g ≤ h ∧ h ≤ 3) (ho : okay g i.1.length i.2.1.length i.2.2.1 i.2.2.2 = true) : 5 ≤ irm g i ∧ 0 ≤ irm h i ∧ irm h i ≤ 60 ∧ 9 * irm h i ≤ 13 * irm g i := by
  have hs := okay_small ho
  obtain ⟨xs, ys, s, r⟩ := i
  simp only at ho hs
  unfold okay keyOk at ho
  simp only [Bool.and_eq_true, decide_eq_true_eq] at ho
  obtain ⟨hgen, ⟨h1, _⟩, _⟩ := ho
  have hgen2 : gen h = true := by unfold gen; rw [decide_eq_true_eq]; omega
  unfold irm room
  simp only [hgen, hgen2, if_true]
  by_cases hf : far ys.length r = true
  · rw [if_pos hf, if_pos hf]
    unfold tr
    rcases (by omega : g = 1 ∨ g = 2 ∨ g = 3) with rfl | rfl | rfl <;> rcases (by omega : h = 1 ∨ h = 2 ∨ h = 3) with rfl | rfl | rfl <;> simp <;> omega
  · rw [if_neg hf, if_neg hf]
    unfold far at hf
    rw [decide_eq_true_eq] at hf
    omega
theorem krm_two {g h : Int} {i : Kd} (hg : 1 ≤ g ∧ g ≤ h ∧ h ≤ 3) (hk : (i.1.length : Int) ≤ tr g 16 20 24) : 5 ≤ krm g i ∧ 0 ≤ krm h i ∧ krm h i ≤ 33 ∧ 5 * krm h i ≤ 9 * krm g i := by
  have hgen : gen g = true := by unfold gen; rw [decide_eq_true_eq]; omega
  have hgen2 : gen h = true := by unfold gen; rw [decide_eq_true_eq]; omega
  unfold krm kid
  simp only [hgen, hgen2, if_true]
  unfold tr at hk ⊢
  rcases (by omega : g = 1 ∨ g = 2 ∨ g = 3) with rfl | rfl | rfl <;> rcases (by omega : h = 1 ∨ h = 2 ∨ h = 3) with rfl | rfl | rfl <;> simp at hk ⊢ <;> omega
theorem sum_ratio {α : Type} {f f' : α → Int} {a b : Int} : ∀ {l : List α}, (∀ i ∈ l, 5 ≤ f i ∧ a * f' i ≤ b * f i) → a * (l.map f').sum ≤ b * (l.map f).sum ∧ 5 * (l.length : Int) ≤ (l.map f).sum
  | [], _ => by simp
  | i :: l, h => by
    have h1 := h i (by simp)
    have h2 := sum_ratio (l := l) fun j hj => h j (List.mem_cons_of_mem _ hj)
    simp only [List.map_cons, List.sum_cons, Int.mul_add, List.length_cons]
    omega
theorem sum_splice {f : It → Int} {l : List It} {i : Nat} {b : Bool} {y : It} (h : ∀ j ∈ l, 0 ≤ f j) : ((l.take i ++ ([y] ++ l.drop (i + if b = true then 1 else 0))).map f).sum ≤ (l.map f).sum + f y := by
  rw [List.map_append, List.sum_append, List.map_append, List.sum_append]
  have e := take_drop_sum (l.map f) i
  rw [← List.map_take, ← List.map_drop] at e
  cases b
  · simp only [Bool.false_eq_true, if_false, Nat.add_zero, List.map_cons, List.map_nil, List.sum_cons, List.sum_nil]
    omega
  · have e2 : (l.drop (i + 1)).map f = ((l.drop i).map f).drop 1 := by rw [← List.map_drop, List.drop_drop]
    have e3 : (((l.drop i).map f).drop 1).sum ≤ ((l.drop i).map f).sum := by
      have hd : ∀ j ∈ l.drop i, 0 ≤ f j := fun j hj => h j (List.mem_of_mem_drop hj)
      generalize l.drop i = m at hd ⊢
      cases m with
      | nil => simp
      | cons a m =>
        have := hd a (by simp)
        simp only [List.map_cons, List.drop_succ_cons, List.drop_zero, List.sum_cons]
        omega
    rw [if_pos rfl, e2]
    simp only [List.map_cons, List.map_nil, List.sum_cons, List.sum_nil]
    omega
/-- The leaf with one item more. -/
theorem leaf_more {g h : Int} {x : Nd} {y : It} {i : Nat} {b : Bool} (hg : 1 ≤ g ∧ g ≤ h ∧ h ≤ 3) (hx : Fine g x) (hl : x.leaf = true) (hy : okay g y.1.length y.2.1.length y.2.2.1 y.2.2.2 = true) :
    Each 60 (rms h ⟨true, x.its.take i ++ ([y] ++ x.its.drop (i + if b = true then 1 else 0)), []⟩) ∧ nrm h ⟨true, x.its.take i ++ ([y] ++ x.its.drop (i + if b = true then 1 else 0)), []⟩ ≤ 480 ∧ Small ⟨true, x.its.take i ++ ([y] ++ x.its.drop (i + if b = true then 1 else 0)), []⟩ ∧ x.its.length ≤ 60 := by
  obtain ⟨_, hf, hi, _⟩ := hx
  obtain ⟨hi, _⟩ := hi hl
  unfold nfit nrm at hf
  rw [rms_leaf g hl, decide_eq_true_eq] at hf
  have hcap : tr g 248 240 240 ≤ 248 := by unfold tr; split <;> (try split) <;> (try split) <;> omega
  have hmem : ∀ j ∈ x.its.take i ++ ([y] ++ x.its.drop (i + if b = true then 1 else 0)), okay g j.1.length j.2.1.length j.2.2.1 j.2.2.2 = true := fun j hj => by
    simp only [List.mem_append, List.mem_singleton] at hj
    rcases hj with hj | rfl | hj
    · exact hi j (List.mem_of_mem_take hj)
    · exact hy
    · exact hi j (List.mem_of_mem_drop hj)
  have hr := sum_ratio (f := irm g) (f' := irm h) (a := 9) (b := 13) (l := x.its) fun j hj => ⟨(irm_two hg (hi j hj)).1, (irm_two hg (hi j hj)).2.2.2⟩
  have hs := sum_splice (f := irm h) (l := x.its) (i := i) (b := b) (y := y) fun j hj => (irm_two hg (hi j hj)).2.1
  have hy2 := irm_two hg hy
  refine ⟨fun a ha => ?_, ?_, ⟨?_, by simp, fun j hj => ?_, by simp⟩, by omega⟩
  · rw [rms_leaf h rfl] at ha
    obtain ⟨j, hj, rfl⟩ := List.mem_map.1 ha
    exact ⟨(irm_two hg (hmem j hj)).2.1, (irm_two hg (hmem j hj)).2.2.1⟩
  · unfold nrm
    rw [rms_leaf h rfl]
    simp only at hs ⊢
    omega
  · have := hr.2
    simp only [List.length_append, List.length_take, List.length_drop, List.length_singleton]
    omega
  · have := okay_small (hmem j hj)
    exact ⟨by omega, by omega⟩
/-- The branch with one kid more. -/
theorem kids_more {g h : Int} {x : Nd} {key : Bytes} {r : Int} (hg : 1 ≤ g ∧ g ≤ h ∧ h ≤ 3) (hx : Fine g x) (hl : x.leaf = false) (hy : (key.length : Int) ≤ tr g 16 20 24) :
    Each 60 (rms h ⟨false, [], x.kds ++ [(key, r)]⟩) ∧ nrm h ⟨false, [], x.kds ++ [(key, r)]⟩ ≤ 480 ∧ Small ⟨false, [], x.kds ++ [(key, r)]⟩ ∧ x.kds.length ≤ 60 := by
  obtain ⟨_, hf, _, hi⟩ := hx
  obtain ⟨hi, _⟩ := hi hl
  unfold nfit nrm at hf
  rw [rms_kids g hl, decide_eq_true_eq] at hf
  have hcap : tr g 248 240 240 ≤ 248 := by unfold tr; split <;> (try split) <;> (try split) <;> omega
  have hk24 : tr g 16 20 24 ≤ 24 := by unfold tr; split <;> (try split) <;> (try split) <;> omega
  have hmem : ∀ j ∈ x.kds ++ [(key, r)], (j.1.length : Int) ≤ tr g 16 20 24 := fun j hj => by
    simp only [List.mem_append, List.mem_singleton] at hj
    rcases hj with hj | rfl
    · exact hi j hj
    · exact hy
  have hr := sum_ratio (f := krm g) (f' := krm h) (a := 5) (b := 9) (l := x.kds) fun j hj => ⟨(krm_two hg (hi j hj)).1, (krm_two hg (hi j hj)).2.2.2⟩
  have hy2 := krm_two (i := (key, r)) hg hy
  refine ⟨fun a ha => ?_, ?_, ⟨by simp, ?_, by simp, fun j hj => ?_⟩, by omega⟩
  · rw [rms_kids h rfl] at ha
    obtain ⟨j, hj, rfl⟩ := List.mem_map.1 ha
    have := krm_two hg (hmem j hj)
    exact ⟨this.2.1, by omega⟩
  · unfold nrm
    rw [rms_kids h rfl]
    simp only [List.map_append, List.sum_append, List.map_cons, List.map_nil, List.sum_cons, List.sum_nil]
    omega
  · simp only [List.length_append, List.length_singleton]
    omega
  · have := hmem j hj
    omega
end Go.Proofs.YtjbbljnfgpggkaaDoor
