/-
  Metas: the document's Decode as plain data; it tells what the program's tells. No memory here.
-/
import Derived.Test.YtopaponemjaenaaGreatDoorMnb
set_option linter.unusedVariables false
namespace Go.Proofs.YtopaponemjaenaaGreatDoor

theorem le_num : ∀ xs : Bytes, le (num xs) xs.length = xs
  | [] => rfl
  | x :: xs => by
    have h1 := le_num xs
    have h2 := UInt8.toNat_lt x
    rw [List.length_cons, le_cons]
    have e : num (x :: xs) = x.toNat + 256 * num xs := by simp [num]
    rw [e, show (x.toNat + 256 * num xs) % 256 = x.toNat from by omega, show (x.toNat + 256 * num xs) / 256 = num xs from by omega, h1]
    simp
def dB (b : Bytes) (i : Nat) : Nat := (b.getD i 0).toNat
def dW (b : Bytes) : Nat := (tr (dB b 4 : Int) 4 8 8).toNat
def dPart (b : Bytes) (j : Nat) : Bytes := (b.drop (8 + j * dW b)).take (dW b)
def dM (b : Bytes) : List Int := [(dB b 4 : Int), dB b 5, dB b 6, number9 (dPart b 0), number9 (dPart b 1), number9 (dPart b 2), number9 (dPart b 3)]
def dEnd (b : Bytes) : Nat := 8 + 4 * dW b + dB b 7
def dX (b : Bytes) : Bytes := (b.drop (8 + 4 * dW b)).take (dB b 7)
def dZ (b : Bytes) : Prop := ∀ k, dEnd b ≤ k → k < 248 → b.getD k 0 = 0
/-- A page that the document reads as a meta. -/
def DocOk (b : Bytes) : Prop := markedB b = true ∧ b = put4 b 252 ∧ (gen (dB b 4 : Int) = true ∧ dB b 6 ≤ 3) ∧ dEnd b ≤ 248 ∧ dZ b ∧ okL (dM b) (dB b 7) = true
theorem number9_le {n k : Nat} (h1 : n ≤ 2147483647) (hk : k = 4 ∨ k = 8) : number9 (le n k) = (n : Int) := by
  have hn : num (le n k) = n := num_le k n (by rcases hk with rfl | rfl <;> first | (have : 256 ^ 4 = 4294967296 := by decide); omega)
  have hd : num ((le n k).drop 1) ≤ num ((le n k).drop 0) := num9_le _ 0
  rw [List.drop_zero, hn] at hd
  unfold number9
  rw [if_pos (by omega), hn]
theorem number9_nat {xs : Bytes} {n : Nat} (h : number9 xs = (n : Int)) : num xs = n := by
  unfold number9 at h
  split at h <;> omega
theorem getD_cons {b R : Bytes} {i n : Nat} (h : b.drop i = le n 1 ++ R) (hn : n < 256) : dB b i = n := by
  have e : b.getD i 0 = UInt8.ofNat n := by
    rw [List.getD_eq_getElem?_getD]
    have h2 : b[i]? = (b.drop i)[0]? := by rw [List.getElem?_drop, Nat.add_zero]
    rw [h2, h, le_cons, Nat.mod_eq_of_lt hn]
    rfl
  unfold dB
  rw [e, UInt8.toNat_ofNat']
  omega
/-- What was encoded the document reads too. -/
theorem doc_enc {G PH T X R P L k : Nat} {xs : Bytes} (h : Nats G PH T X R P L k xs) (hok : okP (G : Int) PH T X R P L xs.length) {b : Bytes} (hbe : b = encB [(G : Int), PH, T, X, R, P, L] xs) :
    DocOk b ∧ dM b = [(G : Int), PH, T, X, R, P, L] ∧ dX b = xs := by
  have hk := h.k48
  have hx := h.hx
  have hl := metaH_len G PH T X R P L k xs
  have hp : (padB 248 (metaH G PH T X R P L k xs)).length = 248 := padB_length (by omega)
  obtain ⟨F, hF, hb⟩ := encB_parts h
  have hput : b = put4 b 252 := by
    have h1 := same_put4 b 252 (by rw [hbe, encB_eq h, put4_length _ _ (by rw [metaR_len h]; decide), metaR_len h]; decide)
    have h2 : isSealed b ((252 : Nat) : Int) = true := by rw [hbe, encB_eq h]; exact sealed_put4 _ 252 (by rw [metaR_len h]; decide)
    rw [h2] at h1
    exact of_decide_eq_true h1.symm
  rw [← hbe] at hb
  have hlen : b.length = 256 := by rw [hb, List.length_append, hp, List.length_append, hF]; rfl
  have hH : ∃ Q, Q.length = 252 - (248 - (metaH G PH T X R P L k xs).length) - (metaH G PH T X R P L k xs).length + 4 ∧ b = metaH G PH T X R P L k xs ++ (List.replicate (248 - (metaH G PH T X R P L k xs).length) 0 ++ Q) := by
    refine ⟨tail4 ++ F, by rw [List.length_append, hF]; show 4 + 4 = _; omega, ?_⟩
    rw [hb]
    unfold padB
    rw [List.append_assoc]
  obtain ⟨Q, hQ, hb2⟩ := hH
  have d0 : b = mark4 ++ (le G 1 ++ (le PH 1 ++ (le T 1 ++ (le xs.length 1 ++ (le X k ++ (le R k ++ (le P k ++ (le L k ++ (xs ++ (List.replicate (248 - (metaH G PH T X R P L k xs).length) 0 ++ Q)))))))))) := by
    rw [hb2]
    generalize List.replicate (248 - (metaH G PH T X R P L k xs).length) (0 : UInt8) = Z0
    unfold metaH
    simp only [List.append_assoc]
  generalize List.replicate (248 - (metaH G PH T X R P L k xs).length) (0 : UInt8) ++ Q = Z at d0
  have d4 : b.drop 4 = le G 1 ++ (le PH 1 ++ (le T 1 ++ (le xs.length 1 ++ (le X k ++ (le R k ++ (le P k ++ (le L k ++ (xs ++ Z)))))))) := by rw [d0]; rfl
  have step : ∀ {i n z : Nat} {R' : Bytes}, b.drop i = le n z ++ R' → b.drop (i + z) = R' := fun {i n z R'} e => by
    rw [← List.drop_drop, e]
    exact List.drop_left' (le_length _ _)
  have d5 := step d4
  have d6 := step d5
  have d7 := step d6
  have d8 := step d7
  have d9 := step d8
  have d10 := step d9
  have d11 := step d10
  have d12 := step d11
  have v4 : dB b 4 = G := getD_cons d4 (by have := h.hG; omega)
  have v5 : dB b 5 = PH := getD_cons d5 (by have := h.hPH; omega)
  have v6 : dB b 6 = T := getD_cons d6 (by have := h.hT; omega)
  have v7 : dB b 7 = xs.length := getD_cons d7 (by omega)
  have vw : dW b = k := by unfold dW; rw [v4, h.hk]; exact Int.toNat_natCast _
  have part : ∀ {i n : Nat} {R' : Bytes}, b.drop i = le n k ++ R' → (b.drop i).take k = le n k := fun {i n R'} e => by
    rw [e]
    exact List.take_left' (le_length _ _)
  have p0 : dPart b 0 = le X k := by unfold dPart; rw [vw]; exact part (i := 8 + 0 * k) (by rw [Nat.zero_mul]; exact d8)
  have p1 : dPart b 1 = le R k := by unfold dPart; rw [vw]; exact part (i := 8 + 1 * k) (by rw [Nat.one_mul]; exact d9)
  have p2 : dPart b 2 = le P k := by unfold dPart; rw [vw]; exact part (i := 8 + 2 * k) (by rw [show 8 + 2 * k = 4 + 1 + 1 + 1 + 1 + k + k from by omega]; exact d10)
  have p3 : dPart b 3 = le L k := by unfold dPart; rw [vw]; exact part (i := 8 + 3 * k) (by rw [show 8 + 3 * k = 4 + 1 + 1 + 1 + 1 + k + k + k from by omega]; exact d11)
  have hM : dM b = [(G : Int), PH, T, X, R, P, L] := by
    unfold dM
    rw [v4, v5, v6, p0, p1, p2, p3, number9_le h.hX.2 hk, number9_le (by have := h.hP; have := h.hR; omega) hk, number9_le (by have := h.hP; omega) hk, number9_le (by have := h.hP; have := h.hL; omega) hk]
  have hXx : dX b = xs := by
    unfold dX
    rw [vw, v7, show 8 + 4 * k = 4 + 1 + 1 + 1 + 1 + k + k + k + k from by omega, d12]
    exact List.take_left' rfl
  refine ⟨⟨?_, hput, ⟨?_, ?_⟩, ?_, ?_, ?_⟩, hM, hXx⟩
  · unfold markedB
    rw [decide_eq_true hlen, Bool.true_and, Bool.and_eq_true, decide_eq_true_eq, decide_eq_true_eq]
    refine ⟨by rw [d0]; rfl, ?_⟩
    rw [hb, List.drop_left' hp]
    rfl
  · rw [v4]
    unfold gen
    rw [decide_eq_true_eq]
    have := h.hG
    omega
  · rw [v6]
    exact h.hT
  · unfold dEnd
    rw [vw, v7]
    omega
  · intro j hj1 hj2
    unfold dEnd at hj1
    rw [vw, v7] at hj1
    rw [List.getD_eq_getElem?_getD, hb2, List.getElem?_append_right (by omega), List.getElem?_append_left (by rw [List.length_replicate]; omega), List.getElem?_replicate]
    rw [if_pos (by omega)]
    rfl
  · rw [hM, v7]
    exact decide_eq_true hok
end Go.Proofs.YtopaponemjaenaaGreatDoor
