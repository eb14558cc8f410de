/-
  The document's reading of a page's body, in plain words: it takes just what a right, placed node makes.
-/
import Derived.Test.YtoghojgajpfkkaaGreatDoorOnp
set_option linter.unusedVariables false
namespace Go.Proofs.YtoghojgajpfkkaaGreatDoor
open Go.RowKit

/-- Entries, one behind another: what is read, and where they end. -/
def onesF (q : Nat) (lf : Bool) (b : Bytes) : Nat → Nat → List It → Option (List It × Nat)
  | 0, a, acc => some (acc, a)
  | k + 1, a, acc => match oneF q lf b a with
    | none => none
    | some (i, z) => onesF q lf b k z (acc ++ [i])
/-- An entry of a branch, as a kid. -/
def asKid (i : It) : Kd := (i.1, i.2.2.2)
/-- The node of the entries. -/
def ndOf (lf : Bool) (m : List It) : Nd := if lf = true then ⟨true, m, []⟩ else ⟨false, [], m.map asKid⟩
/-- The body is a right, placed node's, of so many entries, with noughts behind. -/
def FormOk (g : Int) (q : Nat) (lf : Bool) (cnt : Nat) (nx : Int) (b : Bytes) (x : Nd) : Prop := ∃ m z, onesF q lf b cnt 0 [] = some (m, z) ∧ (∀ y ∈ b.drop z, y = 0) ∧ x = ndOf lf m ∧ anyU x.its = false ∧ nx = 0 ∧ RightN g x
theorem ones_leaf_back {g : Int} {q : Nat} {b : Bytes} (hq : tr g 4 8 8 = (q : Int)) : ∀ (k a : Nat) (acc m : List It) (z : Nat), onesF q true b k a acc = some (m, z) → (∀ i ∈ m, okay g i.1.length i.2.1.length i.2.2.1 i.2.2.2 = true ∧ unp i.2.1.length i.2.2.2 = false) → a ≤ b.length →
    ∃ l, m = acc ++ l ∧ l.length = k ∧ b.drop a = l.flatMap (serI g) ++ b.drop z ∧ z = a + (l.flatMap (serI g)).length ∧ z ≤ b.length
  | 0, a, acc, m, z, h, _, ha => by
    unfold onesF at h
    cases h
    exact ⟨[], by simp, rfl, by simp, by simp, ha⟩
  | k + 1, a, acc, m, z, h, hm, ha => by
    unfold onesF at h
    cases ho : oneF q true b a with
    | none => rw [ho] at h; cases h
    | some y =>
      obtain ⟨i, z1⟩ := y
      rw [ho] at h
      simp only at h
      have hin : i ∈ m := by
        have : ∀ (k a : Nat) (acc : List It), onesF q true b k a acc = some (m, z) → ∀ j ∈ acc, j ∈ m := by
          intro k
          induction k with
          | zero => intro a acc h j hj; unfold onesF at h; cases h; exact hj
          | succ k ih =>
            intro a acc h j hj
            unfold onesF at h
            cases ho : oneF q true b a with
            | none => rw [ho] at h; cases h
            | some y => rw [ho] at h; exact ih _ _ h j (by simp [hj])
        exact this k z1 _ h i (by simp)
      obtain ⟨h1, h2⟩ := hm i hin
      have hoi := okay_in h1
      have hr0 : 0 ≤ i.2.2.2 := by
        by_cases e : i.2.2.2 = 0
        · omega
        · exact (hoi.2 e).2.2.1
      obtain ⟨e1, e2, e3⟩ := leaf_back hq ho hr0 hoi.1 h2
      obtain ⟨l, rfl, hl, e4, e5, e6⟩ := ones_leaf_back hq k z1 (acc ++ [i]) m z h hm e3
      refine ⟨i :: l, by simp, by simp [hl], ?_, ?_, e6⟩
      · rw [e1, e4, List.flatMap_cons, List.append_assoc]
      · rw [List.flatMap_cons, List.length_append]
        omega
theorem ones_kid_back {g : Int} {q : Nat} {b : Bytes} (hq : tr g 4 8 8 = (q : Int)) : ∀ (k a : Nat) (acc m : List It) (z : Nat), onesF q false b k a acc = some (m, z) → (∀ i ∈ m, 0 ≤ i.2.2.2 ∧ i.1.length < 256) → a ≤ b.length →
    ∃ l, m = acc ++ l ∧ l.length = k ∧ b.drop a = (l.map asKid).flatMap (serK g) ++ b.drop z ∧ z = a + ((l.map asKid).flatMap (serK g)).length ∧ z ≤ b.length
  | 0, a, acc, m, z, h, _, ha => by
    unfold onesF at h
    cases h
    exact ⟨[], by simp, rfl, by simp, by simp, ha⟩
  | k + 1, a, acc, m, z, h, hm, ha => by
    unfold onesF at h
    cases ho : oneF q false b a with
    | none => rw [ho] at h; cases h
    | some y =>
      obtain ⟨i, z1⟩ := y
      rw [ho] at h
      simp only at h
      have hin : i ∈ m := by
        have : ∀ (k a : Nat) (acc : List It), onesF q false b k a acc = some (m, z) → ∀ j ∈ acc, j ∈ m := by
          intro k
          induction k with
          | zero => intro a acc h j hj; unfold onesF at h; cases h; exact hj
          | succ k ih =>
            intro a acc h j hj
            unfold onesF at h
            cases ho : oneF q false b a with
            | none => rw [ho] at h; cases h
            | some y => rw [ho] at h; exact ih _ _ h j (by simp [hj])
        exact this k z1 _ h i (by simp)
      obtain ⟨h1, h2⟩ := hm i hin
      obtain ⟨_, e1, e2, e3⟩ := kid_back hq ho h1 h2
      obtain ⟨l, rfl, hl, e4, e5, e6⟩ := ones_kid_back hq k z1 (acc ++ [i]) m z h hm e3
      refine ⟨i :: l, by simp, by simp [hl], ?_, ?_, e6⟩
      · rw [e1, e4, List.map_cons, List.flatMap_cons, List.append_assoc]
        rfl
      · rw [List.map_cons, List.flatMap_cons, List.length_append]
        unfold asKid at e5 ⊢
        omega
theorem ones_leaf_ser {g : Int} {q : Nat} {b : Bytes} (hq : tr g 4 8 8 = (q : Int)) (hq4 : 4 ≤ q) (hq8 : q ≤ 8) : ∀ (l : List It) (a : Nat) (acc : List It) (R : Bytes), (∀ i ∈ l, okay g i.1.length i.2.1.length i.2.2.1 i.2.2.2 = true ∧ unp i.2.1.length i.2.2.2 = false) → b.drop a = l.flatMap (serI g) ++ R →
    onesF q true b l.length a acc = some (acc ++ l, a + (l.flatMap (serI g)).length)
  | [], a, acc, R, _, _ => by simp [onesF]
  | i :: l, a, acc, R, hm, h => by
    rw [List.flatMap_cons, List.append_assoc] at h
    have h1 := hm i (by simp)
    have h2 := leaf_ser hq hq4 hq8 h1.1 h1.2 h
    have h3 : b.drop (a + (serI g i).length) = l.flatMap (serI g) ++ R := by rw [← List.drop_drop, h, List.drop_left]
    rw [List.length_cons]
    unfold onesF
    rw [h2]
    simp only
    rw [ones_leaf_ser hq hq4 hq8 l _ _ R (fun i hi => hm i (by simp [hi])) h3, List.flatMap_cons, List.length_append, List.append_assoc, Nat.add_assoc]
    rfl
theorem ones_kid_ser {g : Int} {q : Nat} {b : Bytes} (hq : tr g 4 8 8 = (q : Int)) (hq4 : 4 ≤ q) : ∀ (l : List Kd) (a : Nat) (acc : List It) (R : Bytes), (∀ y ∈ l, 0 ≤ y.2 ∧ y.2 < 16384 ∧ y.1.length < 256) → b.drop a = l.flatMap (serK g) ++ R →
    onesF q false b l.length a acc = some (acc ++ l.map (fun y => (y.1, [], 0, y.2)), a + (l.flatMap (serK g)).length)
  | [], a, acc, R, _, _ => by simp [onesF]
  | y :: l, a, acc, R, hm, h => by
    rw [List.flatMap_cons, List.append_assoc] at h
    obtain ⟨xs, r⟩ := y
    obtain ⟨h0, h1, h2⟩ := hm (xs, r) (by simp)
    simp only at h0 h1 h2
    obtain ⟨r, rfl⟩ : ∃ k : Nat, r = (k : Int) := ⟨r.toNat, by omega⟩
    have h4 := kid_ser hq hq4 (by omega) h2 h
    have h3 : b.drop (a + (serK g (xs, (r : Int))).length) = l.flatMap (serK g) ++ R := by rw [← List.drop_drop, h, List.drop_left]
    rw [List.length_cons]
    unfold onesF
    rw [h4]
    simp only
    rw [ones_kid_ser hq hq4 l _ _ R (fun i hi => hm i (by simp [hi])) h3, List.flatMap_cons, List.length_append, List.append_assoc, Nat.add_assoc]
    rfl
theorem zeros_rep {z : Bytes} (h : ∀ y ∈ z, y = 0) : z = List.replicate z.length 0 := List.eq_replicate_iff.2 ⟨rfl, h⟩
/-- What the document takes for a node's body: the entries of a right, placed node, and noughts. -/
theorem form_back {g : Int} {q : Nat} {lf : Bool} {cnt : Nat} {nx : Int} {b : Bytes} {x : Nd} (hq : tr g 4 8 8 = (q : Int)) (h : FormOk g q lf cnt nx b x) :
    nx = 0 ∧ RightN g x ∧ anyU x.its = false ∧ x.leaf = lf ∧ (if x.leaf = true then x.its.length else x.kds.length) = cnt ∧ (x.its.flatMap (serI g) ++ x.kds.flatMap (serK g)).length ≤ b.length ∧ b = padB b.length (x.its.flatMap (serI g) ++ x.kds.flatMap (serK g)) := by
  obtain ⟨m, z, h1, h2, rfl, h3, h4, h5⟩ := h
  have hi := h5.its
  have hk := h5.kds
  have hz := zeros_rep h2
  rw [List.length_drop] at hz
  have fin : ∀ S : Bytes, b.drop 0 = S ++ b.drop z → z = 0 + S.length → z ≤ b.length → S.length ≤ b.length ∧ b = padB b.length S := fun S e1 e2 e3 => by
    refine ⟨by omega, ?_⟩
    unfold padB
    have e : z = S.length := by omega
    rw [← e, ← hz, ← e1, List.drop_zero]
  cases lf
  · have e : ndOf false m = ⟨false, [], m.map asKid⟩ := rfl
    rw [e] at h3 h5 hi hk ⊢
    obtain ⟨l, hml, hl, e1, e2, e3⟩ := ones_kid_back hq cnt 0 [] m z h1 (fun i hi => by
      have := hk (asKid i) (List.mem_map_of_mem hi)
      exact ⟨this.1, this.2.2⟩) (Nat.zero_le _)
    rw [List.nil_append] at hml
    subst hml
    have h6 := fin _ e1 e2 e3
    refine ⟨h4, h5, h3, rfl, ?_, ?_, ?_⟩
    · simp [hl]
    · simpa using h6.1
    · simpa using h6.2
  · have e : ndOf true m = ⟨true, m, []⟩ := rfl
    rw [e] at h3 h5 hi hk ⊢
    obtain ⟨l, hml, hl, e1, e2, e3⟩ := ones_leaf_back hq cnt 0 [] m z h1 (fun i hj => ⟨hi i hj, by
      unfold anyU at h3
      rw [List.any_eq_false] at h3
      simpa using h3 i hj⟩) (Nat.zero_le _)
    rw [List.nil_append] at hml
    subst hml
    have h6 := fin _ e1 e2 e3
    refine ⟨h4, h5, h3, rfl, ?_, ?_, ?_⟩
    · simp [hl]
    · simpa using h6.1
    · simpa using h6.2
theorem form_ser {g : Int} {q : Nat} {N : Nat} {x : Nd} (hq : tr g 4 8 8 = (q : Int)) (hq4 : 4 ≤ q) (hq8 : q ≤ 8) (h : RightN g x) (hu : anyU x.its = false) :
    FormOk g q x.leaf (if x.leaf = true then x.its.length else x.kds.length) 0 (padB N (x.its.flatMap (serI g) ++ x.kds.flatMap (serK g))) x := by
  have hi := h.its
  have hk := h.kds
  have hp := h.2.1
  unfold PureR at hp
  obtain ⟨lf, I, K⟩ := x
  cases lf
  · simp only [Bool.false_eq_true, if_false] at hp hi hk hu ⊢
    obtain ⟨rfl, _⟩ := hp
    rw [List.flatMap_nil, List.nil_append]
    have h1 := ones_kid_ser (g := g) (b := padB N (K.flatMap (serK g))) hq hq4 K 0 [] (List.replicate (N - (K.flatMap (serK g)).length) 0) hk (by rw [List.drop_zero]; rfl)
    refine ⟨_, _, h1, ?_, ?_, hu, rfl, h⟩
    · intro y hy
      unfold padB at hy
      rw [Nat.zero_add, List.drop_left] at hy
      exact (List.mem_replicate.1 hy).2
    · unfold ndOf asKid
      simp [Function.comp_def]
  · simp only [if_true] at hp hi hk hu ⊢
    subst hp
    rw [List.flatMap_nil, List.append_nil]
    have h1 := ones_leaf_ser (g := g) (b := padB N (I.flatMap (serI g))) hq hq4 hq8 I 0 [] (List.replicate (N - (I.flatMap (serI g)).length) 0) (fun i hj => ⟨hi i hj, by
      unfold anyU at hu
      rw [List.any_eq_false] at hu
      simpa using hu i hj⟩) (by rw [List.drop_zero]; rfl)
    refine ⟨_, _, h1, ?_, ?_, hu, rfl, h⟩
    · intro y hy
      unfold padB at hy
      rw [Nat.zero_add, List.drop_left] at hy
      exact (List.mem_replicate.1 hy).2
    · unfold ndOf
      simp
end Go.Proofs.YtoghojgajpfkkaaGreatDoor
