/-
  Metas: some sectors of a page over zeros, as plain data. No memory here.
-/
import Derived.Test.YtopaponemjaenaaGreatDoorGv
import Derived.Test.YtopaponemjaenaaGreatDoorPgc
set_option linter.unusedVariables false
namespace Go.Proofs.YtopaponemjaenaaGreatDoor

theorem over_at9 (T xs : Bytes) (o i : Nat) (h : o + xs.length ≤ T.length) : (over T o xs)[i]? = if o ≤ i ∧ i < o + xs.length then xs[i - o]? else T[i]? := by
  unfold over
  by_cases h1 : i < o
  · rw [if_neg (by omega), List.getElem?_append_left (by rw [List.length_take]; omega), List.getElem?_take, if_pos h1]
  · rw [List.getElem?_append_right (by rw [List.length_take]; omega), List.length_take, Nat.min_eq_left (by omega)]
    by_cases h2 : i < o + xs.length
    · rw [if_pos ⟨by omega, h2⟩, List.getElem?_append_left (by omega)]
    · rw [if_neg (by omega), List.getElem?_append_right (by omega), List.getElem?_drop]
      congr 1
      omega
/-- A sector. -/
def sect (P : Bytes) (j : Nat) : Bytes := (P.drop (64 * j)).take 64
def zstep (k : Bool) (j : Nat) (P T : Bytes) : Bytes := if k = true then over T (64 * j) (sect P j) else T
theorem sect_len {P : Bytes} {j : Nat} (hP : P.length = 256) (hj : j < 4) : (sect P j).length = 64 := by
  unfold sect
  rw [List.length_take, List.length_drop]
  omega
theorem zstep_len {k : Bool} {j : Nat} {P T : Bytes} (hP : P.length = 256) (hT : T.length = 256) (hj : j < 4) : (zstep k j P T).length = 256 := by
  unfold zstep
  split
  · rw [over_length _ _ _ (by rw [sect_len hP hj]; omega), hT]
  · exact hT
theorem zstep_get {k : Bool} {j : Nat} {P T : Bytes} (hP : P.length = 256) (hT : T.length = 256) (hj : j < 4) (i : Nat) : (zstep k j P T)[i]? = if k = true ∧ 64 * j ≤ i ∧ i < 64 * j + 64 then P[i]? else T[i]? := by
  unfold zstep
  cases k
  · rw [if_neg (by decide), if_neg (by simp)]
  · rw [if_pos rfl, over_at9 _ _ _ _ (by rw [sect_len hP hj]; omega), sect_len hP hj]
    by_cases h : 64 * j ≤ i ∧ i < 64 * j + 64
    · rw [if_pos h, if_pos ⟨rfl, h⟩]
      unfold sect
      rw [List.getElem?_take, if_pos (by omega), List.getElem?_drop]
      congr 1
      omega
    · rw [if_neg h, if_neg (fun e => h e.2)]
theorem z256_len : z256.length = 256 := List.length_replicate
def zT (k0 k1 k2 k3 : Bool) (P : Bytes) : Bytes := zstep k3 3 P (zstep k2 2 P (zstep k1 1 P (zstep k0 0 P z256)))
theorem zT_get {k0 k1 k2 k3 : Bool} {P : Bytes} (hP : P.length = 256) (i : Nat) : (zT k0 k1 k2 k3 P)[i]? = if k3 = true ∧ 192 ≤ i ∧ i < 256 then P[i]? else if k2 = true ∧ 128 ≤ i ∧ i < 192 then P[i]? else if k1 = true ∧ 64 ≤ i ∧ i < 128 then P[i]? else if k0 = true ∧ 0 ≤ i ∧ i < 64 then P[i]? else z256[i]? := by
  unfold zT
  have l0 := zstep_len (k := k0) (j := 0) hP z256_len (by decide)
  have l1 := zstep_len (k := k1) (j := 1) hP l0 (by decide)
  have l2 := zstep_len (k := k2) (j := 2) hP l1 (by decide)
  rw [zstep_get hP l2 (by decide), zstep_get hP l1 (by decide), zstep_get hP l0 (by decide), zstep_get hP z256_len (by decide)]
theorem zT_len {k0 k1 k2 k3 : Bool} {P : Bytes} (hP : P.length = 256) : (zT k0 k1 k2 k3 P).length = 256 := zstep_len hP (zstep_len hP (zstep_len hP (zstep_len hP z256_len (by decide)) (by decide)) (by decide)) (by decide)
theorem zT_zero {k0 k1 k2 k3 : Bool} {P : Bytes} (hP : P.length = 256) (i : Nat) (hi : i < 256) (h : (k0 = false ∧ i < 64) ∨ (k3 = false ∧ 192 ≤ i)) : (zT k0 k1 k2 k3 P)[i]? = some 0 := by
  have hz : z256[i]? = some 0 := by unfold z256; rw [List.getElem?_replicate, if_pos hi]
  rw [zT_get hP, hz]
  rcases h with ⟨h1, h2⟩ | ⟨h1, h2⟩
  · rw [if_neg (by omega), if_neg (by omega), if_neg (by omega), if_neg (by rw [h1]; simp)]
  · rw [if_neg (by rw [h1]; simp), if_neg (by omega), if_neg (by omega), if_neg (by omega)]
theorem zT_no {k0 k1 k2 k3 : Bool} {P : Bytes} (hP : P.length = 256) (h : k0 = false ∨ k3 = false) : mdE (zT k0 k1 k2 k3 P) = 90 := by
  have hm : markedB (zT k0 k1 k2 k3 P) = false := by
    unfold markedB
    rcases h with h | h
    · have h0 := zT_zero (k0 := k0) (k1 := k1) (k2 := k2) (k3 := k3) hP 0 (by decide) (.inl ⟨h, by decide⟩)
      have hne : ¬ (zT k0 k1 k2 k3 P).take 4 = mark4 := fun e => by
        have e1 : ((zT k0 k1 k2 k3 P).take 4)[0]? = some 0 := by rw [List.getElem?_take, if_pos (by decide), h0]
        rw [e] at e1
        exact absurd e1 (by decide)
      rw [decide_eq_false hne, Bool.false_and, Bool.and_false]
    · have h0 := zT_zero (k0 := k0) (k1 := k1) (k2 := k2) (k3 := k3) hP 248 (by decide) (.inr ⟨h, by decide⟩)
      have hne : ¬ ((zT k0 k1 k2 k3 P).drop 248).take 4 = tail4 := fun e => by
        have e1 : (((zT k0 k1 k2 k3 P).drop 248).take 4)[0]? = some 0 := by rw [List.getElem?_take, if_pos (by decide), List.getElem?_drop, h0]
        rw [e] at e1
        exact absurd e1 (by decide)
      rw [decide_eq_false hne, Bool.and_false, Bool.and_false]
  unfold mdE
  rw [if_pos hm]
theorem zT_yes {G PH T X R P L k : Nat} {xs : Bytes} (h : Nats G PH T X R P L k xs) (k1 k2 : Bool) : zT true k1 k2 true (encB [(G : Int), PH, T, X, R, P, L] xs) = encB [(G : Int), PH, T, X, R, P, L] xs := by
  have hk := h.k48
  have hx := h.hx
  have hl := metaH_len G PH T X R P L k xs
  have hp : (padB 248 (metaH G PH T X R P L k xs)).length = 248 := padB_length (by omega)
  obtain ⟨F, hF, hb⟩ := encB_parts h
  obtain ⟨b, hbe⟩ : ∃ b, b = encB [(G : Int), PH, T, X, R, P, L] xs := ⟨_, rfl⟩
  rw [← hbe] at hb ⊢
  have hlen : b.length = 256 := by rw [hb, List.length_append, hp, List.length_append, hF]; rfl
  have hz : ∀ i, 64 ≤ i → i < 192 → b[i]? = some 0 := fun i h1 h2 => by
    rw [hb, List.getElem?_append_left (by omega)]
    unfold padB
    rw [List.getElem?_append_right (by omega), List.getElem?_replicate, if_pos (by omega)]
  refine List.ext_getElem? fun i => ?_
  rw [zT_get hlen]
  by_cases h1 : 192 ≤ i ∧ i < 256
  · rw [if_pos ⟨rfl, h1⟩]
  rw [if_neg (fun e => h1 e.2)]
  by_cases h2 : 256 ≤ i
  · rw [if_neg (by omega), if_neg (by omega), if_neg (by omega), List.getElem?_eq_none (by rw [z256_len]; exact h2), List.getElem?_eq_none (by omega)]
  have hzz : z256[i]? = some 0 := by unfold z256; rw [List.getElem?_replicate, if_pos (by omega)]
  by_cases h3 : i < 64
  · rw [if_neg (by omega), if_neg (by omega), if_pos ⟨rfl, by omega, h3⟩]
  · rw [hzz, ← hz i (by omega) (by omega)]
    split
    · rfl
    · split
      · rfl
      · split <;> rfl
end Go.Proofs.YtopaponemjaenaaGreatDoor
