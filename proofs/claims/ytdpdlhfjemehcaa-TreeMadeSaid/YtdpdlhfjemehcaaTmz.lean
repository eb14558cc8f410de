/-
  What Made tells is a tree: All's answer for it.
-/
import Derived.Test.YtdpdlhfjemehcaaTtv
import Derived.Test.YtdpdlhfjemehcaaTlv
import Derived.Test.YtdpdlhfjemehcaaTpw
set_option linter.unusedVariables false
namespace Go.Proofs.Ytdpdlhfjemehcaa
open Go.RowKit

/-- All's answer for a tree. -/
theorem kids_visit {l : List Nm} {f h : Nat} (hf : f < 12) (hh : h ≤ f) (h1 : 1 ≤ h) (ih : ∀ ref sp seg refs S, SubT l true h ref sp seg refs → refs.Nodup → (∀ r ∈ refs, r ∉ S.refs) → (S.dep = 0 ∨ S.dep + 1 = 13 - f + h) → visitP l f ref sp S = (0, ⟨S.its ++ seg, S.refs ++ refs, 13 - f + h - 1⟩)) (ks : List Kd) (sp : Sn) :
    ∀ (m k : Nat) (seg : List It) (refs : List Int) (S : Sv), KidsR (SubT l true h) ks sp k m seg refs → refs.Nodup → (∀ r ∈ refs, r ∉ S.refs) → (S.dep = 0 ∨ S.dep + 1 = 13 - f + h) → 0 < m → kidsP (visitP l f) ks sp k m S = (0, ⟨S.its ++ seg, S.refs ++ refs, 13 - f + h - 1⟩)
  | 0, k, seg, refs, S, _, _, _, _, h0 => by omega
  | m + 1, k, seg, refs, S, ⟨s1, r1, s2, r2, a1, a2, e1, e2⟩, hn, hd, hdp, _ => by
    subst e1 e2
    have hn1 := List.nodup_append.1 hn
    have hv : visitP l f (ks.getD k ([], 0)).2 (underP sp ks k) S = (0, ⟨S.its ++ s1, S.refs ++ r1, 13 - f + h - 1⟩) := ih _ _ _ _ S a1 hn1.1 (fun r hr => hd r (List.mem_append_left _ hr)) hdp
    rw [kidsP, hv, if_pos rfl]
    rcases Nat.eq_zero_or_pos m with rfl | hm
    · rw [kidsP, a2.1, a2.2, List.append_nil, List.append_nil]
    · rw [kids_visit hf hh h1 ih ks sp m (k + 1) s2 r2 _ a2 hn1.2.1 (fun r hr hc => ?_) (.inr (by simp only; omega)) hm]
      · simp only [List.append_assoc]
      · rcases List.mem_append.1 hc with h | h
        · exact hd r (List.mem_append_right _ hr) h
        · exact hn1.2.2 r h r hr rfl
theorem SubT.visit {l : List Nm} : ∀ {h f : Nat} {ref : Int} {sp : Sn} {seg : List It} {refs : List Int} {S : Sv}, SubT l true h ref sp seg refs → f ≤ 12 → h ≤ f → refs.Nodup → (∀ r ∈ refs, r ∉ S.refs) → (S.dep = 0 ∨ S.dep + 1 = 13 - f + h) → visitP l f ref sp S = (0, ⟨S.its ++ seg, S.refs ++ refs, 13 - f + h - 1⟩)
  | 0, f, ref, sp, seg, refs, S, h, _, _, _, _, _ => h.elim
  | h + 1, f, ref, sp, seg, refs, S, hT, hf, hl, hn, hd, hdp => by
    obtain ⟨f, rfl⟩ : ∃ k, f = k + 1 := ⟨f - 1, by omega⟩
    obtain ⟨x, hx, ⟨h0, h1, h2, h3, h4, e1, e2⟩ | ⟨h1, h2, h3, h4, rs, h5, e2⟩⟩ := hT
    · subst h0 e1 e2
      have hdd : depP x (12 - f) S.dep = 12 - f := by
        unfold depP
        rcases hdp with h | h
        · rw [if_pos ⟨h1, h⟩]
        · rw [if_neg (fun e => by omega)]
          omega
      rw [visit_good hx, h2, List.length_nil, kidsP, hdd, show 12 - f = 13 - (f + 1) + (0 + 1) - 1 by omega]
      unfold badB
      have hm : decide (ref ∈ S.refs) = false := decide_eq_false (hd ref (by simp))
      have hfm : formB x (12 - f) sp = true := (formB_iff _ _ _).2 (by unfold FormP; rw [if_pos h1]; exact ⟨h2, .inl (h4 rfl), h3⟩)
      have hev : evenB x (12 - f) S.dep = true := by unfold evenB; rw [hdd]; simp
      rw [hm, hfm, hev]
      rfl
    · subst e2
      have hn1 := List.nodup_cons.1 hn
      have hdd : depP x (12 - f) S.dep = S.dep := by unfold depP; rw [if_neg (fun e => by rw [h1] at e; cases e.1)]
      have hh1 : 1 ≤ h := by
        obtain ⟨segs, g1, g2, g3⟩ := h5.list
        obtain ⟨r, hr⟩ := g3 0 _ (List.getElem?_eq_getElem (by omega))
        cases h with
        | zero => exact hr.elim
        | succ h => omega
      rw [visit_good hx, hdd, h2, List.append_nil]
      · rw [kids_visit (by omega) (show h ≤ f by omega) hh1 (fun ref sp seg refs S a b c d => SubT.visit a (by omega) (by omega) b c d) x.kds sp x.kds.length 0 seg rs ⟨S.its, S.refs ++ [ref], S.dep⟩ h5 hn1.2 (fun r hr hc => ?_) (hdp.imp (fun h => h) fun h => by simp only; omega) (by omega)]
        · rw [show 13 - f + h - 1 = 13 - (f + 1) + (h + 1) - 1 by omega]
          simp
        · rcases List.mem_append.1 hc with h | h
          · exact hd r (List.mem_cons_of_mem _ hr) h
          · simp at h
            subst h
            exact hn1.1 hr
      · unfold badB
        have hm : decide (ref ∈ S.refs) = false := decide_eq_false (hd ref (by simp))
        have hfm : formB x (12 - f) sp = true := (formB_iff _ _ _).2 (by unfold FormP; rw [if_neg (by rw [h1]; decide)]; exact ⟨h2, h3, h4⟩)
        have hev : evenB x (12 - f) S.dep = true := by unfold evenB; rw [h1]; rfl
        rw [hm, hfm, hev]
        rfl

/-- Kids with what stands below them. -/
def ForP (g : Int → List It → List Int → Prop) : List Kd → List It → List Int → Prop
  | [], seg, refs => seg = [] ∧ refs = []
  | k :: ks, seg, refs => ∃ s1 r1 s2 r2, g k.2 s1 r1 ∧ k.1 = headKey s1 ∧ s1 ≠ [] ∧ ForP g ks s2 r2 ∧ seg = s1 ++ s2 ∧ refs = r1 ++ r2
def MadeT (l : List Nm) : Nat → Int → List It → List Int → Prop
  | 0, _, _, _ => False
  | h + 1, ref, seg, refs => (h = 0 ∧ nodeP l ref = some ⟨true, seg, []⟩ ∧ refs = [ref]) ∨ ∃ ks rs, nodeP l ref = some ⟨false, [], bareK ks⟩ ∧ 1 < ks.length ∧ ForP (MadeT l h) ks seg rs ∧ refs = ref :: rs
theorem ForP.mono {g g' : Int → List It → List Int → Prop} (hg : ∀ r s rs, g r s rs → g' r s rs) : ∀ {ks : List Kd} {seg : List It} {refs : List Int}, ForP g ks seg refs → ForP g' ks seg refs
  | [], _, _, h => h
  | _ :: _, _, _, ⟨s1, r1, s2, r2, a, b, c, d, e⟩ => ⟨s1, r1, s2, r2, hg _ _ _ a, b, c, ForP.mono hg d, e⟩
theorem ForP.append {g : Int → List It → List Int → Prop} : ∀ {ks ks' : List Kd} {s s' : List It} {r r' : List Int}, ForP g ks s r → ForP g ks' s' r' → ForP g (ks ++ ks') (s ++ s') (r ++ r')
  | [], _, _, _, _, _, h, h' => by rw [h.1, h.2]; exact h'
  | k :: ks, _, _, _, _, _, ⟨s1, r1, s2, r2, a, b, c, d, e1, e2⟩, h' => ⟨s1, r1, _, _, a, b, c, ForP.append d h', by rw [e1, List.append_assoc], by rw [e2, List.append_assoc]⟩
theorem ForP.split {g : Int → List It → List Int → Prop} : ∀ {ks ks' : List Kd} {s : List It} {r : List Int}, ForP g (ks ++ ks') s r → ∃ s1 r1 s2 r2, ForP g ks s1 r1 ∧ ForP g ks' s2 r2 ∧ s = s1 ++ s2 ∧ r = r1 ++ r2
  | [], _, s, r, h => ⟨[], [], s, r, ⟨rfl, rfl⟩, h, rfl, rfl⟩
  | k :: ks, _, s, r, ⟨s1, r1, s2, r2, a, b, c, d, e1, e2⟩ => by
    obtain ⟨t1, q1, t2, q2, h1, h2, h3, h4⟩ := ForP.split d
    exact ⟨s1 ++ t1, r1 ++ q1, t2, q2, ⟨s1, r1, t1, q1, a, b, c, h1, rfl, rfl⟩, h2, by rw [e1, h3, List.append_assoc], by rw [e2, h4, List.append_assoc]⟩
theorem headKey_app {s t : List It} (h : s ≠ []) : headKey (s ++ t) = headKey s := by
  cases s with
  | nil => exact absurd rfl h
  | cons x s => rfl
theorem ForP.head {g : Int → List It → List Int → Prop} {k : Kd} {ks : List Kd} {seg : List It} {refs : List Int} (h : ForP g (k :: ks) seg refs) : k.1 = headKey seg ∧ seg ≠ [] := by
  obtain ⟨s1, r1, s2, r2, a, b, c, d, e1, e2⟩ := h
  rw [e1, headKey_app c]
  exact ⟨b, fun e => c (List.append_eq_nil_iff.1 e).1⟩
theorem headKey_mem {s : List It} (h : s ≠ []) : ∃ y ∈ s, y.1 = headKey s := by
  cases s with
  | nil => exact absurd rfl h
  | cons x s => exact ⟨x, by simp, rfl⟩
theorem ForP.suffix {g : Int → List It → List Int → Prop} {ks : List Kd} {seg : List It} {refs : List Int} (h : ForP g ks seg refs) (i : Nat) : ∃ s1 r1 s2 r2, ForP g (ks.take i) s1 r1 ∧ ForP g (ks.drop i) s2 r2 ∧ seg = s1 ++ s2 ∧ refs = r1 ++ r2 :=
  ForP.split (by rw [List.take_append_drop]; exact h)
theorem ForP.ne {g : Int → List It → List Int → Prop} {ks : List Kd} {seg : List It} {refs : List Int} (h : ForP g ks seg refs) (hk : ks ≠ []) : seg ≠ [] := by
  cases ks with
  | nil => exact absurd rfl hk
  | cons k ks => exact h.head.2
theorem bare_length (ks : List Kd) : (bareK ks).length = ks.length := by cases ks <;> rfl
theorem bare_kd (ks : List Kd) (k : Nat) : (kd (bareK ks) k).2 = (kd ks k).2 ∧ (0 < k → (kd (bareK ks) k).1 = (kd ks k).1) := by
  cases ks with
  | nil => exact ⟨rfl, fun _ => rfl⟩
  | cons x ks =>
    cases k with
    | zero => exact ⟨rfl, fun h => by omega⟩
    | succ k => exact ⟨rfl, fun _ => rfl⟩
theorem drop_kd {ks : List Kd} {k : Nat} (h : k < ks.length) : ks.drop k = kd ks k :: ks.drop (k + 1) := by
  have h1 := kd_get h
  obtain ⟨h2, h3⟩ := List.getElem?_eq_some_iff.1 h1
  rw [List.drop_eq_getElem_cons h2, h3]
/-- The Keys are the first ones of what is below. -/
theorem for_keys {g : Int → List It → List Int → Prop} {ks : List Kd} {seg : List It} {refs : List Int} {sp : Sn} (h : ForP g ks seg refs) (hs : Srt seg) (hin : ∀ y ∈ seg, InS sp y.1) : KeysR sp (bareK ks) := by
  have key : ∀ k, k < ks.length → ∃ pre rp segk rk, ForP g (ks.take k) pre rp ∧ ForP g (ks.drop k) segk rk ∧ seg = pre ++ segk ∧ (kd ks k).1 = headKey segk ∧ segk ≠ [] := fun k hk => by
    obtain ⟨s1, r1, s2, r2, a, b, c, _⟩ := h.suffix k
    have b' := b
    rw [drop_kd hk] at b'
    exact ⟨s1, r1, s2, r2, a, b, c, b'.head.1, b'.head.2⟩
  constructor
  · intro k h1 h2
    rw [bare_length] at h2
    obtain ⟨pre, rp, segk, rk, a, b, c, d, e⟩ := key k h2
    rw [(bare_kd ks k).2 (by omega), d]
    obtain ⟨y, hy, e2⟩ := headKey_mem e
    rw [← e2]
    exact hin y (by rw [c]; exact List.mem_append_right _ hy)
  · intro i j h1 h2 h3
    rw [bare_length] at h3
    rw [(bare_kd ks i).2 (by omega), (bare_kd ks j).2 (by omega)]
    obtain ⟨p1, q1, s1, t1, a1, b1, c1, d1, e1⟩ := key i (by omega)
    obtain ⟨u1, v1, u2, v2, f1, f2, f3, _⟩ := b1.suffix (j - i)
    rw [List.drop_drop, show i + (j - i) = j by omega] at f2
    rw [drop_kd h3] at f2
    have hu1 : u1 ≠ [] := f1.ne (fun e => by have := congrArg List.length e; simp at this; omega)
    rw [d1, f3, headKey_app hu1, f2.head.1]
    obtain ⟨y, hy, ey⟩ := headKey_mem hu1
    obtain ⟨z, hz, ez⟩ := headKey_mem f2.head.2
    rw [← ey, ← ez]
    have hp : Srt s1 := by rw [c1] at hs; exact (List.pairwise_append.1 hs).2.1
    rw [f3] at hp
    exact (List.pairwise_append.1 hp).2.2 y hy z hz
theorem for_kids {g : Int → List It → List Int → Prop} {g' : Int → Sn → List It → List Int → Prop} {ks0 : List Kd} {sp : Sn} (hg : ∀ r s rs u, g r s rs → Srt s → (∀ y ∈ s, InS u y.1) → s ≠ [] → g' r u s rs) :
    ∀ (m k : Nat) (seg : List It) (refs : List Int), k + m = ks0.length → ForP g (ks0.drop k) seg refs → Srt seg → (∀ y ∈ seg, InS sp y.1) → KidsR g' (bareK ks0) sp k m seg refs
  | 0, k, seg, refs, hk, h, _, _ => by
    rw [List.drop_eq_nil_of_le (by omega)] at h
    exact h
  | m + 1, k, seg, refs, hk, h, hs, hin => by
    have h' := h
    rw [drop_kd (by omega)] at h
    obtain ⟨s1, r1, s2, r2, a, b, c, d, e1, e2⟩ := h
    subst e1
    have hp := List.pairwise_append.1 hs
    refine ⟨s1, r1, s2, r2, ?_, for_kids hg m (k + 1) s2 r2 (by omega) d hp.2.1 (fun y hy => hin y (List.mem_append_right _ hy)), rfl, e2⟩
    rw [(bare_kd ks0 k).1]
    refine hg _ _ _ _ a hp.1 (fun y hy => ⟨?_, fun z hz => ?_⟩) c
    · rw [under_1]
      split
      · rename_i h0
        rw [(bare_kd ks0 k).2 h0, b]
        obtain ⟨w, t, e⟩ : ∃ w t, s1 = w :: t := by
          cases s1 with
          | nil => exact absurd rfl c
          | cons w t => exact ⟨w, t, rfl⟩
        subst e
        rcases List.mem_cons.1 hy with h | h
        · rw [h]
          show cmp w.1 w.1 ≤ 0
          rw [cmp_self]
          exact Int.le_refl _
        · exact Int.le_of_lt ((List.pairwise_cons.1 hp.1).1 y h)
      · exact (hin y (List.mem_append_left _ hy)).1
    · rw [under_2, bare_length] at hz
      split at hz
      · rename_i h1
        rw [(bare_kd ks0 (k + 1)).2 (by omega)] at hz
        cases hz
        have d' := d
        rw [drop_kd h1] at d'
        rw [d'.head.1]
        obtain ⟨v, hv, e⟩ := headKey_mem d'.head.2
        rw [← e]
        exact hp.2.2 y hy v hv
      · exact (hin y (List.mem_append_left _ hy)).2 z hz
theorem MadeT.sub {l : List Nm} : ∀ {h : Nat} {ref : Int} {seg : List It} {refs : List Int} {sp : Sn}, MadeT l h ref seg refs → Srt seg → (∀ y ∈ seg, InS sp y.1) → seg ≠ [] → SubT l true h ref sp seg refs
  | 0, ref, seg, refs, sp, h, _, _, _ => h.elim
  | h + 1, ref, seg, refs, sp, .inl ⟨h0, hx, e⟩, hs, hin, hne => ⟨_, hx, .inl ⟨h0, rfl, rfl, rises_iff.2 ⟨fun k hk => by
      obtain ⟨y, hy, rfl⟩ := List.mem_map.1 hk
      exact hin y hy, by rw [List.pairwise_map]; exact hs⟩, fun _ => hne, rfl, e⟩⟩
  | h + 1, ref, seg, refs, sp, .inr ⟨ks, rs, hx, h1, h2, e⟩, hs, hin, hne => by
    refine ⟨_, hx, .inr ⟨rfl, rfl, by rw [bare_length]; exact h1, keysR_to (for_keys h2 hs hin), rs, ?_, e⟩⟩
    rw [bare_length]
    exact for_kids (g := MadeT l h) (g' := SubT l true h) (ks0 := ks) (fun r s rs u a b c d => MadeT.sub a b c d) ks.length 0 seg rs (by omega) h2 hs hin

/-- Nodes numbered from 2 on. -/
def Numd (l : List Nm) : Prop := ∀ (i : Nat) x, l[i]? = some x → x.1 = 2 + (i : Int)
theorem Numd.node {l : List Nm} (h : Numd l) {i : Nat} {x : Nm} (hx : l[i]? = some x) : nodeP l (2 + (i : Int)) = some x.2 := by
  refine nodeP_at hx (h i x hx) fun y hy => ?_
  obtain ⟨j, hj⟩ := List.getElem?_of_mem hy
  have hjl : j < i := by
    have h1 := (List.getElem?_eq_some_iff.1 hj).1
    rw [List.length_take] at h1
    omega
  rw [List.getElem?_take, if_pos hjl] at hj
  rw [h j y hj]
  omega
theorem Numd.append {l m : List Nm} (h : Numd l) (hm : ∀ (i : Nat) x, m[i]? = some x → x.1 = 2 + (l.length : Int) + (i : Int)) : Numd (l ++ m) := fun i x hx => by
  rw [List.getElem?_append] at hx
  split at hx
  · exact h i x hx
  · rw [hm _ x hx]
    omega
theorem Numd.nodup {l : List Nm} (h : Numd l) : (l.map (·.1)).Nodup := by
  rw [List.Nodup, List.pairwise_map, List.pairwise_iff_getElem]
  intro i j hi hj hij e
  rw [h i _ (List.getElem?_eq_getElem hi), h j _ (List.getElem?_eq_getElem hj)] at e
  omega
theorem node_app {l m : List Nm} {r : Int} {x : Nd} (h : nodeP l r = some x) : nodeP (l ++ m) r = some x := by
  induction l with
  | nil => cases h
  | cons y l ih =>
    rw [List.cons_append]
    rw [nodeP] at h ⊢
    split
    · rename_i e
      rw [if_pos e] at h
      exact h
    · rename_i e
      rw [if_neg e] at h
      exact ih h
theorem MadeT.app {l m : List Nm} : ∀ {h : Nat} {ref : Int} {seg : List It} {refs : List Int}, MadeT l h ref seg refs → MadeT (l ++ m) h ref seg refs
  | 0, _, _, _, h => h.elim
  | h + 1, _, _, _, .inl ⟨h0, hx, e⟩ => .inl ⟨h0, node_app hx, e⟩
  | h + 1, _, _, _, .inr ⟨ks, rs, hx, h1, h2, e⟩ => .inr ⟨ks, rs, node_app hx, h1, h2.mono fun _ _ _ a => MadeT.app a, e⟩
/-- A level more. -/
theorem level_made {fan : Nat} {ls : List Nm} {ks : List Kd} {h : Nat} {seg : List It} {refs : List Int} (hf : 2 ≤ fan) (hn : Numd ls) (hk : 1 < ks.length) (hF : ForP (MadeT ls h) ks seg refs) {a : Nat} {ns : List Nm} {ab : List Kd} (hL : Lvl fan ks (2 + (ls.length : Int)) a ns ab) :
    Numd (ls ++ ns) ∧ ∃ s1 r1 s2 r2 rr, ForP (MadeT (ls ++ ns) (h + 1)) ab s1 rr ∧ ForP (MadeT ls h) (ks.drop a) s2 r2 ∧ seg = s1 ++ s2 ∧ refs = r1 ++ r2 ∧ rr.Perm (r1 ++ ns.map (·.1)) := by
  induction hL with
  | start => exact ⟨by rw [List.append_nil]; exact hn, [], [], seg, refs, [], ⟨rfl, rfl⟩, hF, rfl, rfl, List.Perm.nil⟩
  | @step a ns ab hL0 ha ih =>
    obtain ⟨i1, s1, r1, s2, r2, rr, i2, i3, i4, i5, i6⟩ := ih
    have hh := hL0.half hf (by omega)
    have hcut : cutTo fan ks.length a = ks.length ∨ cutTo fan ks.length a = a + fan ∧ a + fan + 2 ≤ ks.length := by
      unfold cutTo
      split <;> omega
    have hsub : ks.drop a = groupP fan ks a ++ ks.drop (cutTo fan ks.length a) := by
      unfold groupP
      conv => lhs; rw [← List.take_append_drop (cutTo fan ks.length a - a) (ks.drop a)]
      rw [List.drop_drop, show a + (cutTo fan ks.length a - a) = cutTo fan ks.length a by omega]
    have hgl : 1 < (groupP fan ks a).length := by
      unfold groupP
      rw [List.length_take, List.length_drop]
      omega
    rw [hsub] at i3
    obtain ⟨t1, q1, t2, q2, g1, g2, g3, g4⟩ := i3.split
    have hnum : Numd (ls ++ (ns ++ [(2 + (ls.length : Int) + (ns.length : Int), ⟨false, [], bareK (groupP fan ks a)⟩)])) := by
      rw [← List.append_assoc]
      refine i1.append fun i x hx => ?_
      cases i with
      | zero =>
        simp at hx
        subst hx
        simp only [List.length_append]
        omega
      | succ i => simp at hx
    have hgk : headKd (groupP fan ks a) = headKey t1 ∧ t1 ≠ [] := by
      cases hg : groupP fan ks a with
      | nil => rw [hg] at hgl; simp at hgl
      | cons k r =>
        rw [hg] at g1
        exact g1.head
    have hnode : nodeP (ls ++ (ns ++ [(2 + (ls.length : Int) + (ns.length : Int), (⟨false, [], bareK (groupP fan ks a)⟩ : Nd))])) (2 + (ls.length : Int) + (ns.length : Int)) = some ⟨false, [], bareK (groupP fan ks a)⟩ := by
      have h1 := hnum.node (i := ls.length + ns.length) (x := (2 + (ls.length : Int) + (ns.length : Int), ⟨false, [], bareK (groupP fan ks a)⟩)) (by
        rw [← List.append_assoc, List.getElem?_append_right (by simp)]
        simp)
      rw [show (2 : Int) + ((ls.length + ns.length : Nat) : Int) = 2 + (ls.length : Int) + (ns.length : Int) by omega] at h1
      exact h1
    refine ⟨hnum, s1 ++ t1, r1 ++ q1, t2, q2, rr ++ ((2 + (ls.length : Int) + (ns.length : Int)) :: q1), ?_, g2, by rw [i4, g3, List.append_assoc], by rw [i5, g4, List.append_assoc], ?_⟩
    · refine ForP.append (i2.mono fun _ _ _ a => by rw [← List.append_assoc]; exact MadeT.app a) ⟨t1, _, [], [], .inr ⟨_, q1, hnode, hgl, g1.mono fun _ _ _ a => MadeT.app a, rfl⟩, hgk.1, hgk.2, ⟨rfl, rfl⟩, by simp, by simp⟩
    · rw [List.map_append]
      refine ((i6.append (List.Perm.refl _)).trans ?_)
      simp only [List.map_cons, List.map_nil, List.append_assoc]
      refine (List.Perm.append_left r1 ?_)
      refine (List.perm_append_comm).trans ?_
      rw [List.cons_append]
      refine (List.perm_middle.symm).trans ?_
      refine List.Perm.append_left q1 ?_
      exact List.perm_append_singleton _ _ |>.symm
/-- Levels. -/
theorem levels_made {fan : Nat} {l0 ls : List Nm} {k0 ks : List Kd} {its : List It} {refs0 : List Int} (hf : 2 ≤ fan) (h0 : Numd l0) (hF : ForP (MadeT l0 1) k0 its refs0) (hp : refs0.Perm (l0.map (·.1))) (hL : Lvs fan l0 k0 ls ks) :
    ∃ h refs, Numd ls ∧ ForP (MadeT ls (h + 1)) ks its refs ∧ refs.Perm (ls.map (·.1)) ∧ ks.length * 2 ^ h ≤ k0.length ∧ l0.length ≤ ls.length := by
  induction hL with
  | start => exact ⟨0, refs0, h0, hF, hp, by simp, Nat.le_refl _⟩
  | @step ls ns ks ab h1 h2 h3 ih =>
    obtain ⟨h, refs, i1, i2, i3, i4, i5⟩ := ih
    obtain ⟨j1, s1, r1, s2, r2, rr, j2, j3, j4, j5, j6⟩ := level_made hf i1 h2 i2 h3
    have hh := (h3.half hf (by omega)).1
    rw [List.drop_length] at j3
    obtain ⟨e1, e2⟩ := j3
    rw [e1, List.append_nil] at j4
    rw [e2, List.append_nil] at j5
    refine ⟨h + 1, rr, j1, by rw [j4]; exact j2, ?_, ?_, by rw [List.length_append]; omega⟩
    · rw [List.map_append]
      exact j6.trans ((by rw [← j5]; exact i3 : r1.Perm (ls.map (·.1))).append_right _)
    · rw [Nat.pow_succ]
      calc ab.length * (2 ^ h * 2) = (2 * ab.length) * 2 ^ h := by rw [Nat.mul_comm (2 ^ h) 2, ← Nat.mul_assoc, Nat.mul_comm ab.length 2]
        _ ≤ ks.length * 2 ^ h := Nat.mul_le_mul_right _ hh
        _ ≤ k0.length := i4
theorem leafs_at {many : Nat} {its : List It} {j i : Nat} (h : i < j) : (leafsP many its j)[i]? = some (2 + (i : Int), ⟨true, chunkP many its i, []⟩) := by
  unfold leafsP
  rw [List.getElem?_map, List.getElem?_range h]
  rfl
theorem leafs_numd (many : Nat) (its : List It) (j : Nat) : Numd (leafsP many its j) := fun i x hx => by
  have hl : i < j := by
    have := (List.getElem?_eq_some_iff.1 hx).1
    rwa [leafs_len] at this
  rw [leafs_at hl] at hx
  cases hx
  rfl
theorem leaf_base {many : Nat} {its : List It} {j : Nat} (hm : 1 ≤ many) : ∀ j', j' ≤ j → (j' = 0 ∨ (j' - 1) * many < its.length) → ForP (MadeT (leafsP many its j) 1) (leafKidsP many its j') (its.take (j' * many)) ((leafsP many its j').map (·.1))
  | 0, _, _ => ⟨by rw [Nat.zero_mul, List.take_zero], rfl⟩
  | j' + 1, hj, hlt => by
    have h1 : j' * many < its.length := by
      rcases hlt with h | h
      · omega
      · rwa [Nat.add_sub_cancel] at h
    have h2 : j' = 0 ∨ (j' - 1) * many < its.length := by
      rcases Nat.eq_zero_or_pos j' with h | h
      · exact .inl h
      · exact .inr (Nat.lt_of_le_of_lt (Nat.mul_le_mul_right _ (by omega)) h1)
    have ih := leaf_base hm (j := j) (its := its) j' (by omega) h2
    rw [leafKids_succ, leafs_succ, List.map_append, Nat.succ_mul, List.take_add]
    refine ih.append ⟨chunkP many its j', [2 + (j' : Int)], [], [], .inl ⟨rfl, (leafs_numd many its j).node (leafs_at (by omega)), rfl⟩, rfl, ?_, ⟨rfl, rfl⟩, by unfold chunkP; simp, by simp⟩
    intro e
    have := congrArg List.length e
    unfold chunkP at this
    rw [List.length_take, List.length_drop] at this
    simp at this
    omega
/-- What stands in Made's nodes. -/
def GoodM (its : List It) (m : Nat) (b : Int) (x : Nm) : Prop := (∀ y ∈ x.2.its, y ∈ its) ∧ x.2.its.length ≤ its.length ∧ x.2.kds.length ≤ m ∧ ∀ y ∈ x.2.kds, (y.1 = [] ∨ ∃ z ∈ its, z.1 = y.1) ∧ 2 ≤ y.2 ∧ y.2 < b
def GoodY (its : List It) (b : Int) (y : Kd) : Prop := (y.1 = [] ∨ ∃ z ∈ its, z.1 = y.1) ∧ 2 ≤ y.2 ∧ y.2 < b
theorem GoodM.le {its : List It} {m : Nat} {b b' : Int} {x : Nm} (h : GoodM its m b x) (hb : b ≤ b') : GoodM its m b' x := ⟨h.1, h.2.1, h.2.2.1, fun y hy => ⟨(h.2.2.2 y hy).1, (h.2.2.2 y hy).2.1, by have := (h.2.2.2 y hy).2.2; omega⟩⟩
theorem GoodY.le {its : List It} {b b' : Int} {y : Kd} (h : GoodY its b y) (hb : b ≤ b') : GoodY its b' y := ⟨h.1, h.2.1, by have := h.2.2; omega⟩
theorem level_nodes {fan m : Nat} {its : List It} {ls : List Nm} {ks : List Kd} (hm : ks.length ≤ m) (hk : ∀ y ∈ ks, GoodY its (2 + (ls.length : Int)) y) {a : Nat} {ns : List Nm} {ab : List Kd} (hL : Lvl fan ks (2 + (ls.length : Int)) a ns ab) :
    (∀ x ∈ ns, GoodM its m (2 + (ls.length : Int) + (ns.length : Int)) x) ∧ ∀ y ∈ ab, GoodY its (2 + (ls.length : Int) + (ns.length : Int)) y := by
  induction hL with
  | start => exact ⟨fun x hx => by simp at hx, fun y hy => by simp at hy⟩
  | @step a ns ab h1 h2 ih =>
    obtain ⟨i1, i2⟩ := ih
    have hsub : ∀ y ∈ groupP fan ks a, y ∈ ks := fun y hy => List.mem_of_mem_drop (List.mem_of_mem_take hy)
    have hlen : (groupP fan ks a).length ≤ ks.length := by unfold groupP; rw [List.length_take, List.length_drop]; omega
    refine ⟨fun x hx => ?_, fun y hy => ?_⟩
    · rcases List.mem_append.1 hx with h | h
      · exact (i1 x h).le (by rw [List.length_append]; simp only [List.length_singleton]; omega)
      · simp only [List.mem_singleton] at h
        subst h
        refine ⟨fun y hy => (nomatch hy), Nat.zero_le _, by show (bareK _).length ≤ m; rw [bare_length]; omega, fun y hy => ?_⟩
        have hy' : y ∈ bareK (groupP fan ks a) := hy
        cases hg : groupP fan ks a with
        | nil => rw [hg] at hy'; cases hy'
        | cons k r =>
          rw [hg] at hy' hsub
          rcases List.mem_cons.1 hy' with h | h
          · subst h
            have := hk k (hsub k (by simp))
            exact ⟨.inl rfl, this.2.1, by have := this.2.2; simp only [List.length_append]; omega⟩
          · have := hk y (hsub y (List.mem_cons_of_mem _ h))
            exact ⟨this.1, this.2.1, by have := this.2.2; simp only [List.length_append]; omega⟩
    · rcases List.mem_append.1 hy with h | h
      · exact (i2 y h).le (by rw [List.length_append]; simp only [List.length_singleton]; omega)
      · simp only [List.mem_singleton] at h
        subst h
        refine ⟨?_, by simp only; omega, by simp only [List.length_append, List.length_singleton]; omega⟩
        cases hg : groupP fan ks a with
        | nil => exact .inl rfl
        | cons k r =>
          rw [hg] at hsub
          exact (hk k (hsub k (by simp))).1
theorem levels_nodes {fan m : Nat} {its : List It} {l0 ls : List Nm} {k0 ks : List Kd} (hf : 2 ≤ fan) (hm : k0.length ≤ m) (h1 : ∀ x ∈ l0, GoodM its m (2 + (l0.length : Int)) x) (h2 : ∀ y ∈ k0, GoodY its (2 + (l0.length : Int)) y) (hL : Lvs fan l0 k0 ls ks) :
    (∀ x ∈ ls, GoodM its m (2 + (ls.length : Int)) x) ∧ (∀ y ∈ ks, GoodY its (2 + (ls.length : Int)) y) ∧ ks.length ≤ m := by
  induction hL with
  | start => exact ⟨h1, h2, hm⟩
  | @step ls ns ks ab a1 a2 a3 ih =>
    obtain ⟨i1, i2, i3⟩ := ih
    obtain ⟨j1, j2⟩ := level_nodes i3 i2 a3
    have hh := (a3.half hf (by omega)).1
    refine ⟨fun x hx => ?_, fun y hy => (j2 y hy).le (by rw [List.length_append]; omega), by omega⟩
    rcases List.mem_append.1 hx with h | h
    · exact (i1 x h).le (by rw [List.length_append]; omega)
    · exact (j1 x h).le (by rw [List.length_append]; omega)
theorem made_nodes {its : List It} {many fan : Nat} {ls : List Nm} {root : Int} (hf : 2 ≤ fan) (h : IsMade its many fan ls root) : ∃ m, m ≤ its.length + 1 ∧ (∀ x ∈ ls, GoodM its m (2 + (ls.length : Int)) x) ∧ 2 ≤ root ∧ root < 2 + (ls.length : Int) := by
  obtain ⟨j, k, h1, h2, h3, h4, rfl⟩ := h
  have hj : j ≤ its.length + 1 := by
    rcases h3 with h | h
    · omega
    · rcases Nat.eq_zero_or_pos many with h0 | h0
      · rw [h0, Nat.mul_zero] at h2 h
        omega
      · have h5 : (j - 1) * 1 ≤ (j - 1) * many := Nat.mul_le_mul_left _ h0
        rw [Nat.mul_one] at h5
        omega
  have hc : ∀ i, (∀ y ∈ chunkP many its i, y ∈ its) ∧ (chunkP many its i).length ≤ its.length := fun i => ⟨fun y hy => List.mem_of_mem_drop (List.mem_of_mem_take hy), by unfold chunkP; rw [List.length_take, List.length_drop]; omega⟩
  obtain ⟨i1, i2, i3⟩ := levels_nodes (m := j) (its := its) hf (by rw [leafKids_len]; exact Nat.le_refl _) (fun x hx => by
    obtain ⟨i, hi⟩ := List.getElem?_of_mem hx
    have hl : i < j := by
      have := (List.getElem?_eq_some_iff.1 hi).1
      rwa [leafs_len] at this
    rw [leafs_at hl] at hi
    cases hi
    exact ⟨(hc i).1, (hc i).2, Nat.zero_le _, fun y hy => nomatch hy⟩) (fun y hy => by
    unfold leafKidsP at hy
    obtain ⟨i, hi, rfl⟩ := List.mem_map.1 hy
    have hl := List.mem_range.1 hi
    refine ⟨?_, by simp only; omega, by rw [leafs_len]; simp only; omega⟩
    by_cases hn : chunkP many its i = []
    · rw [hn]
      exact .inl rfl
    · obtain ⟨z, hz, e⟩ := headKey_mem hn
      exact .inr ⟨z, (hc i).1 z hz, e⟩) h4
  have hk := i2 k (by simp)
  exact ⟨j, hj, i1, hk.2.1, hk.2.2⟩
theorem none_made : allP [(2, ⟨true, [], []⟩)] 2 = (0, ⟨[], [2], 1⟩) := by kernel_rfl
/-- Of what Made tells All tells just its items. -/
theorem made_all {its : List It} {many fan : Nat} {ls : List Nm} {root : Int} (hf : 2 ≤ fan) (hm : 1 ≤ many) (hs : Srt its) (h : IsMade its many fan ls root) (hl : ls.length ≤ 40) :
    ∃ S, allP ls root = (0, S) ∧ S.its = its ∧ S.refs.length = ls.length ∧ ∃ ne hh refs, SubT ls ne hh root ([], none) its refs ∧ hh ≤ 12 := by
  obtain ⟨j, k, h1, h2, h3, h4, rfl⟩ := h
  by_cases hn : its = []
  · subst hn
    obtain rfl : j = 1 := by
      rcases h3 with h | h
      · omega
      · simp at h
    rcases h4.half hf with ⟨e1, e2⟩ | e
    · have e3 : leafsP many [] 1 = [(2, ⟨true, [], []⟩)] := by unfold leafsP chunkP; simp
      have e4 : leafKidsP many [] 1 = [([], 2)] := by unfold leafKidsP chunkP headKey; simp
      rw [e4] at e2
      rw [e3] at e1
      simp only [List.cons.injEq, and_true] at e2
      subst e1 e2
      refine ⟨_, none_made, rfl, rfl, false, 1, [2], ⟨_, rfl, .inl ⟨rfl, rfl, rfl, ?_, (fun h => nomatch h), rfl, rfl⟩⟩, by decide⟩
      exact fun k y hy => by simp at hy
    · rw [leafKids_len] at e
      simp at e
  · have hb := leaf_base (its := its) (j := j) hm j (Nat.le_refl _) (.inr (by
      rcases h3 with h | h
      · rw [show j - 1 = 0 by omega, Nat.zero_mul]
        exact List.length_pos_iff.2 hn
      · exact h))
    rw [List.take_of_length_le h2] at hb
    obtain ⟨hh, refs, a1, a2, a3, a4, a5⟩ := levels_made hf (leafs_numd many its j) hb (List.Perm.refl _) h4
    obtain ⟨s1, r1, s2, r2, b1, b2, b3, b4, b5, b6⟩ := a2
    rw [b4.1, List.append_nil] at b5
    rw [b4.2, List.append_nil] at b6
    subst b5 b6
    rw [leafKids_len] at a4
    rw [leafs_len] at a5
    simp only [List.length_singleton, Nat.one_mul] at a4
    have hd : hh ≤ 5 := by
      rcases Nat.lt_or_ge 5 hh with h | h
      · have : 2 ^ 6 ≤ 2 ^ hh := Nat.pow_le_pow_right (by decide) h
        omega
      · exact h
    have hT : SubT ls true (hh + 1) k.2 ([], none) its refs := b1.sub hs (fun y _ => ⟨by have := cmp_nil y.1; have := cmp_flip y.1 []; simp only; omega, fun h e => nomatch e⟩) hn
    have hv := hT.visit (S := ⟨[], [], 0⟩) (Nat.le_refl 12) (by omega) (a3.nodup_iff.2 a1.nodup) (fun r _ => by simp) (.inl rfl)
    refine ⟨_, hv, by simp, ?_, true, hh + 1, refs, hT, by omega⟩
    simp only [List.nil_append]
    rw [a3.length_eq, List.length_map]
end Go.Proofs.Ytdpdlhfjemehcaa
