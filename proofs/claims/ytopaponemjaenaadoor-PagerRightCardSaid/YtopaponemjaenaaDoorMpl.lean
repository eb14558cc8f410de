/-
  A meta as plain bytes; what was encoded is read as it was. No memory here.
-/
import Derived.Test.YtopaponemjaenaaDoorMch
set_option linter.unusedVariables false
namespace Go.Proofs.YtopaponemjaenaaDoor

theorem oth_put4 (xs : Bytes) (a : Nat) (h : a + 4 ≤ xs.length) : oth (put4 xs a) a = oth xs a := by
  unfold oth put4
  congr 1
  · rw [List.take_left' (by simp; omega)]
  · rw [← List.append_assoc, List.drop_left' (by simp [le4_length]; omega)]
theorem four_put4 (xs : Bytes) (a : Nat) (h : a + 4 ≤ xs.length) : ((put4 xs a).drop a).take 4 = le4 (sum (oth xs a)) := by
  unfold put4
  rw [List.drop_left' (by simp; omega), List.take_left' (le4_length _)]
theorem rm4_of {n a : Nat} (h : a + 4 ≤ n) : rm4 n (a : Int) = true := by simp only [rm4, decide_eq_true_eq]; omega
theorem sealed_put4 (xs : Bytes) (a : Nat) (h : a + 4 ≤ xs.length) : isSealed (put4 xs a) (a : Int) = true := by
  unfold isSealed
  rw [put4_length xs a h, rm4_of h, Int.toNat_natCast, oth_put4 xs a h, four_put4 xs a h]
  simp
theorem same_put4 (xs : Bytes) (a : Nat) (h : a + 4 ≤ xs.length) : isSealed xs (a : Int) = decide (xs = put4 xs a) := by
  unfold isSealed
  rw [rm4_of h, Int.toNat_natCast, Bool.true_and]
  rw [decide_eq_decide]
  constructor
  · intro e
    unfold put4
    rw [e]
    have h1 : xs.drop (a + 4) = (xs.drop a).drop 4 := by rw [List.drop_drop]
    rw [h1, List.take_append_drop, List.take_append_drop]
  · intro e
    have := four_put4 xs a h
    rw [← e] at this
    exact this.symm
theorem rd_le {L R : Bytes} {a n k : Nat} (h : L.drop a = le n k ++ R) (h1 : 1 ≤ k) (h8 : k ≤ 8) (hn : n < 256 ^ k) (hl : n < 9223372036854775808) :
    (⟨L, a, false⟩ : Cur).get (k : Int) = ⟨L, a + k, false⟩ ∧ (⟨L, a, false⟩ : Cur).val (k : Int) = n ∧ L.drop (a + k) = R ∧ a + k ≤ L.length := by
  have hlen := congrArg List.length h
  rw [List.length_drop, List.length_append, le_length] at hlen
  have hp : (L.drop a).take k = le n k := by rw [h]; exact List.take_left' (le_length _ _)
  have hnum : num ((L.drop a).take k) = n := by rw [hp]; exact num_le _ _ hn
  obtain ⟨g1, g2⟩ := cur_get (L := L) (a := a) (k := k) (by omega) h1 h8 (by rw [hnum]; exact hl)
  refine ⟨g1, by rw [g2, hnum], ?_, by omega⟩
  rw [← List.drop_drop, h]
  exact List.drop_left' (le_length _ _)
theorem rd_bytes {L R xs : Bytes} {a : Nat} (h : L.drop a = xs ++ R) (ha : a ≤ L.length) : (⟨L, a, false⟩ : Cur).got ((xs.length : Nat) : Int) = xs := by
  have hlen := congrArg List.length h
  rw [List.length_drop, List.length_append] at hlen
  have hle : a + xs.length ≤ L.length := by omega
  have hh : (⟨L, a, false⟩ : Cur).has ((xs.length : Nat) : Int) = true := Cur.has_of rfl hle
  unfold Cur.got
  rw [if_pos hh, Int.toNat_natCast]
  show (L.drop a).take xs.length = xs
  rw [h]
  exact List.take_left' rfl
/-- A meta's bytes ahead of the noughts. -/
def metaH (G PH T X R P L k : Nat) (xs : Bytes) : Bytes := mark4 ++ (le G 1 ++ (le PH 1 ++ (le T 1 ++ (le xs.length 1 ++ (le X k ++ (le R k ++ (le P k ++ (le L k ++ xs))))))))
theorem metaH_len (G PH T X R P L k : Nat) (xs : Bytes) : (metaH G PH T X R P L k xs).length = 8 + 4 * k + xs.length := by
  unfold metaH mark4
  simp only [List.length_append, le_length, List.length_cons, List.length_nil]
  omega
def metaR (H : Bytes) : Bytes := padB 248 H ++ (tail4 ++ [0, 0, 0, 0])
/-- Numbers that a right meta has. -/
structure Nats (G PH T X R P L k : Nat) (xs : Bytes) : Prop where
  hG : G = 1 ∨ G = 2 ∨ G = 3
  hk : tr (G : Int) 4 8 8 = (k : Int)
  hPH : PH ≤ 1
  hT : T ≤ 3
  hX : 1 ≤ X ∧ X ≤ 2147483647
  hP : P ≤ 16384
  hR : R < P
  hL : L < P
  hx : xs.length ≤ 24
theorem Nats.k48 {G PH T X R P L k : Nat} {xs : Bytes} (h : Nats G PH T X R P L k xs) : k = 4 ∨ k = 8 := by
  have := h.hk
  rcases h.hG with rfl | rfl | rfl
  · exact .inl (by have e : tr ((1 : Nat) : Int) 4 8 8 = 4 := rfl; omega)
  · exact .inr (by have e : tr ((2 : Nat) : Int) 4 8 8 = 8 := rfl; omega)
  · exact .inr (by have e : tr ((3 : Nat) : Int) 4 8 8 = 8 := rfl; omega)
theorem Nats.big {G PH T X R P L k : Nat} {xs : Bytes} (h : Nats G PH T X R P L k xs) {z : Nat} (hz : z ≤ 2147483647) : z < 256 ^ k := by
  rcases h.k48 with rfl | rfl
  · have : 256 ^ 4 = 4294967296 := by decide
    omega
  · have : 256 ^ 8 = 18446744073709551616 := by decide
    omega
theorem nats_of {g ph t x r p l : Int} {xs : Bytes} (h : okP g ph t x r p l xs.length) : ∃ G PH T X R P L k : Nat, g = G ∧ ph = PH ∧ t = T ∧ x = X ∧ r = R ∧ p = P ∧ l = L ∧ Nats G PH T X R P L k xs := by
  obtain ⟨h1, h2, h3, h4, h5, h6, h7⟩ := h
  have h24 : (xs.length : Int) ≤ 24 ∧ 0 ≤ ph ∧ ph ≤ 1 ∧ 0 ≤ t ∧ t ≤ 3 := by
    rcases h2 with ⟨a, b, c⟩ | ⟨a, b, c, d⟩
    · omega
    · have : tr t 16 20 24 ≤ 24 := by
        unfold tr
        split
        · decide
        · split
          · decide
          · split <;> decide
      omega
  obtain ⟨k, hk, _⟩ := idw (g := g) (by unfold gen; exact decide_eq_true h1)
  refine ⟨g.toNat, ph.toNat, t.toNat, x.toNat, r.toNat, p.toNat, l.toNat, k, by omega, by omega, by omega, by omega, by omega, by omega, by omega, ?_⟩
  exact ⟨by omega, by rw [Int.toNat_of_nonneg (by omega)]; exact hk, by omega, by omega, by omega, by omega, by omega, by omega, by omega⟩
section
variable {G PH T X R P L k : Nat} {xs : Bytes} (h : Nats G PH T X R P L k xs)
include h
theorem mC_fill : mC [(G : Int), PH, T, X, R, P, L] G xs = fill 256 (padB 248 (metaH G PH T X R P L k xs) ++ tail4) := by
  have hk := h.k48
  have h1 : 1 ≤ k := by omega
  have h8 : k ≤ 8 := by omega
  have hx := h.hx
  have e0 : Cur.make 256 = fill 256 [] := rfl
  have m4 : mark4.length = 4 := rfl
  have t4 : tail4.length = 4 := rfl
  have hl := metaH_len G PH T X R P L k xs
  have f : ∀ z : Nat, z ≤ 2147483647 → fits (z : Int) (tr (G : Int) 4 8 8) = true := fun z hz => by rw [h.hk]; exact fits_nat rfl h1 h8 (h.big hz)
  have hkn : (tr (G : Int) 4 8 8).toNat = k := by rw [h.hk]; exact Int.toNat_natCast _
  have e1 : mC1 [(G : Int), PH, T, X, R, P, L] = fill 256 (mark4 ++ le G 1 ++ le PH 1 ++ le T 1) := by
    unfold mC1 puts
    rw [e0, fill_write (by rw [m4]; decide)]
    show (((fill 256 ([] ++ mark4)).put (G : Int) 1).put (PH : Int) 1).put (T : Int) 1 = _
    rw [List.nil_append, fill_put1 (by have := h.hG; omega) (by rw [m4]; decide), fill_put1 (by have := h.hPH; omega) (by simp only [List.length_append, le_length, m4]; decide), fill_put1 (by have := h.hT; omega) (by simp only [List.length_append, le_length, m4]; decide)]
  have e2 : mC2 [(G : Int), PH, T, X, R, P, L] G xs = fill 256 (metaH G PH T X R P L k xs) := by
    unfold mC2
    rw [e1]
    unfold puts
    show ((((((fill 256 (mark4 ++ le G 1 ++ le PH 1 ++ le T 1)).put (xs.length : Int) 1).put (X : Int) (tr (G : Int) 4 8 8)).put (R : Int) (tr (G : Int) 4 8 8)).put (P : Int) (tr (G : Int) 4 8 8)).put (L : Int) (tr (G : Int) 4 8 8)).write xs = _
    rw [fill_put1 (by omega) (by simp only [List.length_append, le_length, m4]; decide)]
    rw [fill_put (f X h.hX.2) (Int.toNat_natCast _) hkn (by simp only [List.length_append, le_length, m4]; omega)]
    rw [fill_put (f R (by have := h.hP; have := h.hR; omega)) (Int.toNat_natCast _) hkn (by simp only [List.length_append, le_length, m4]; omega)]
    rw [fill_put (f P (by have := h.hP; omega)) (Int.toNat_natCast _) hkn (by simp only [List.length_append, le_length, m4]; omega)]
    rw [fill_put (f L (by have := h.hP; have := h.hL; omega)) (Int.toNat_natCast _) hkn (by simp only [List.length_append, le_length, m4]; omega)]
    rw [fill_write (by simp only [List.length_append, le_length, m4]; omega)]
    unfold metaH
    simp only [List.append_assoc]
  unfold mC
  rw [e2]
  have e3 : (248 : Int) - ((fill 256 (metaH G PH T X R P L k xs)).at_ : Int) = ((248 - (metaH G PH T X R P L k xs).length : Nat) : Int) := by
    show (248 : Int) - ((metaH G PH T X R P L k xs).length : Int) = _
    omega
  rw [fill_take e3 (by omega)]
  have e4 : metaH G PH T X R P L k xs ++ List.replicate (248 - (metaH G PH T X R P L k xs).length) 0 = padB 248 (metaH G PH T X R P L k xs) := rfl
  rw [e4, fill_write (by rw [padB_length (by omega), t4]; decide)]
theorem metaR_len : (metaR (metaH G PH T X R P L k xs)).length = 256 := by
  have hk := h.k48
  have hx := h.hx
  have hl := metaH_len G PH T X R P L k xs
  unfold metaR
  rw [List.length_append, padB_length (by omega)]
  rfl
/-- The meta's page. -/
theorem encB_eq : encB [(G : Int), PH, T, X, R, P, L] xs = put4 (metaR (metaH G PH T X R P L k xs)) 252 := by
  have hk := h.k48
  have hx := h.hx
  have hl := metaH_len G PH T X R P L k xs
  unfold encB
  show sealB (mC _ (G : Int) xs).out 252 = _
  rw [mC_fill h]
  have e1 : (fill 256 (padB 248 (metaH G PH T X R P L k xs) ++ tail4)).out = metaR (metaH G PH T X R P L k xs) := by
    show padB 256 (padB 248 (metaH G PH T X R P L k xs) ++ tail4) = _
    unfold metaR
    have e2 : (padB 248 (metaH G PH T X R P L k xs) ++ tail4).length = 252 := by rw [List.length_append, padB_length (by omega)]; rfl
    unfold padB at e2 ⊢
    rw [e2, List.append_assoc]
    rfl
  rw [e1]
  unfold sealB
  rw [if_pos (by rw [metaR_len h]; rfl)]
  rfl
theorem encB_parts : ∃ F : Bytes, F.length = 4 ∧ encB [(G : Int), PH, T, X, R, P, L] xs = padB 248 (metaH G PH T X R P L k xs) ++ (tail4 ++ F) := by
  have hk := h.k48
  have hx := h.hx
  have hl := metaH_len G PH T X R P L k xs
  refine ⟨le4 (sum (oth (metaR (metaH G PH T X R P L k xs)) 252)), le4_length _, ?_⟩
  rw [encB_eq h]
  unfold put4
  generalize le4 (sum (oth (metaR (metaH G PH T X R P L k xs)) 252)) = F
  have hp : (padB 248 (metaH G PH T X R P L k xs)).length = 248 := padB_length (by omega)
  have e1 : metaR (metaH G PH T X R P L k xs) = (padB 248 (metaH G PH T X R P L k xs) ++ tail4) ++ [0, 0, 0, 0] := by unfold metaR; rw [List.append_assoc]
  have e2 : (padB 248 (metaH G PH T X R P L k xs) ++ tail4).length = 252 := by rw [List.length_append, hp]; rfl
  rw [e1, List.take_left' e2, List.drop_eq_nil_of_le (by rw [List.length_append, e2]; decide), List.append_nil, List.append_assoc]
theorem meta_back (hok : okP (G : Int) PH T X R P L xs.length) : mdE (encB [(G : Int), PH, T, X, R, P, L] xs) = 0 ∧ (rG2 (encB [(G : Int), PH, T, X, R, P, L] xs)).2 = [(G : Int), PH, T, X, R, P, L] ∧ rCursor (encB [(G : Int), PH, T, X, R, P, L] xs) = xs := by
  have hk := h.k48
  have h1 : 1 ≤ k := by omega
  have h8 : k ≤ 8 := by omega
  have hx := h.hx
  have hl := metaH_len G PH T X R P L k xs
  have hp : (padB 248 (metaH G PH T X R P L k xs)).length = 248 := padB_length (by omega)
  obtain ⟨F, hF, hb⟩ := encB_parts h
  obtain ⟨b, hbe⟩ : ∃ b, b = encB [(G : Int), PH, T, X, R, P, L] xs := ⟨_, rfl⟩
  have hsl : isSealed b 252 = true := by
    rw [hbe, encB_eq h]
    exact sealed_put4 _ 252 (by rw [metaR_len h]; decide)
  rw [← hbe] at hb ⊢
  have hlen : b.length = 256 := by rw [hb, List.length_append, hp, List.length_append, hF]; rfl
  have hbig : ∀ z : Nat, z ≤ 2147483647 → z < 256 ^ k ∧ z < 9223372036854775808 := fun z hz => ⟨h.big hz, by omega⟩
  -- the parts
  have d0 : ∃ Z, b = mark4 ++ (le G 1 ++ (le PH 1 ++ (le T 1 ++ (le xs.length 1 ++ (le X k ++ (le R k ++ (le P k ++ (le L k ++ (xs ++ Z))))))))) := by
    refine ⟨List.replicate (248 - (metaH G PH T X R P L k xs).length) 0 ++ (tail4 ++ F), ?_⟩
    rw [hb]
    unfold padB
    generalize List.replicate (248 - (metaH G PH T X R P L k xs).length) (0 : UInt8) = Z0
    unfold metaH
    simp only [List.append_assoc]
  obtain ⟨Z, d0⟩ := d0
  have d4 : b.drop 4 = le G 1 ++ (le PH 1 ++ (le T 1 ++ (le xs.length 1 ++ (le X k ++ (le R k ++ (le P k ++ (le L k ++ (xs ++ Z)))))))) := by rw [d0]; rfl
  have c0 : rC0 b = ⟨b, 4, false⟩ := cur_take (L := b) (a := 0) (k := 4) (by omega)
  obtain ⟨g1, v1, d5, _⟩ := rd_le d4 (by decide) (by decide) (by have := h.hG; omega) (by have := h.hG; omega)
  obtain ⟨g2, v2, d6, _⟩ := rd_le d5 (by decide) (by decide) (by have := h.hPH; omega) (by have := h.hPH; omega)
  obtain ⟨g3, v3, d7, _⟩ := rd_le d6 (by decide) (by decide) (by have := h.hT; omega) (by have := h.hT; omega)
  obtain ⟨g4, v4, d8, _⟩ := rd_le d7 (by decide) (by decide) (by omega) (by omega)
  obtain ⟨g5, v5, d9, _⟩ := rd_le d8 h1 h8 (hbig X h.hX.2).1 (hbig X h.hX.2).2
  obtain ⟨g6, v6, d10, _⟩ := rd_le d9 h1 h8 (hbig R (by have := h.hP; have := h.hR; omega)).1 (by have := h.hP; have := h.hR; omega)
  obtain ⟨g7, v7, d11, _⟩ := rd_le d10 h1 h8 (hbig P (by have := h.hP; omega)).1 (by have := h.hP; omega)
  obtain ⟨g8, v8, d12, hle⟩ := rd_le d11 h1 h8 (hbig L (by have := h.hP; have := h.hL; omega)).1 (by have := h.hP; have := h.hL; omega)
  have r1 : rG1 b = (⟨b, 7, false⟩, [(G : Int), PH, T, 0, 0, 0, 0]) := by
    unfold rG1
    rw [c0]
    show ((((⟨b, 4, false⟩ : Cur).get 1).get 1).get 1, [(((⟨b, 4, false⟩ : Cur).val 1 : Nat) : Int), ((((⟨b, 4, false⟩ : Cur).get 1).val 1 : Nat) : Int), (((((⟨b, 4, false⟩ : Cur).get 1).get 1).val 1 : Nat) : Int), 0, 0, 0, 0]) = _
    have g1' : (⟨b, 4, false⟩ : Cur).get 1 = ⟨b, 5, false⟩ := g1
    have g2' : (⟨b, 5, false⟩ : Cur).get 1 = ⟨b, 6, false⟩ := g2
    have g3' : (⟨b, 6, false⟩ : Cur).get 1 = ⟨b, 7, false⟩ := g3
    have v1' : (⟨b, 4, false⟩ : Cur).val 1 = G := v1
    have v2' : (⟨b, 5, false⟩ : Cur).val 1 = PH := v2
    have v3' : (⟨b, 6, false⟩ : Cur).val 1 = T := v3
    rw [g1', g2', g3', v1', v2', v3']
  have rl : rLong b = (xs.length : Int) := by
    unfold rLong
    rw [r1]
    exact congrArg Int.ofNat v4
  have rgn : rGen b = (G : Int) := by
    unfold rGen
    rw [c0]
    exact congrArg Int.ofNat v1
  have r2 : rG2 b = (⟨b, 4 + 1 + 1 + 1 + 1 + k + k + k + k, false⟩, [(G : Int), PH, T, X, R, P, L]) := by
    unfold rG2
    rw [r1, rgn, h.hk]
    show gets (k : Int) 4 3 ((⟨b, 7, false⟩ : Cur).get 1) [(G : Int), PH, T, 0, 0, 0, 0] = _
    have g4' : (⟨b, 7, false⟩ : Cur).get 1 = ⟨b, 4 + 1 + 1 + 1 + 1, false⟩ := g4
    rw [g4']
    unfold gets gets gets gets gets
    rw [g5, g6, g7, g8, v5, v6, v7, v8]
    rfl
  have rc : rCursor b = xs := by
    unfold rCursor
    rw [r2, rl]
    exact rd_bytes d12 hle
  have hmk : markedB b = true := by
    unfold markedB
    rw [decide_eq_true hlen, Bool.true_and, Bool.and_eq_true, decide_eq_true_eq, decide_eq_true_eq]
    refine ⟨by rw [d0]; rfl, ?_⟩
    rw [hb, List.drop_left' hp]
    rfl
  refine ⟨?_, by rw [r2], rc⟩
  unfold mdE
  rw [r2, rc, if_neg (by rw [hmk]; decide), if_neg (by rw [hsl]; decide)]
  show (if ¬(gen (G : Int) = true ∧ (T : Int) ≤ 3) then (93 : Int) else if okM (G : Int) PH T X R P L xs.length = true ∧ encB [(G : Int), PH, T, X, R, P, L] xs = b then 0 else 92) = 0
  rw [if_neg (fun hh => hh ⟨by unfold gen; rw [decide_eq_true_eq]; have := h.hG; omega, by have := h.hT; omega⟩), if_pos ⟨decide_eq_true hok, hbe.symm⟩]
end
/-- What was encoded is decoded as it was. -/
theorem enc_back {g ph t x r p l : Int} {xs : Bytes} (hok : okM g ph t x r p l xs.length = true) : mdE (encB [g, ph, t, x, r, p, l] xs) = 0 ∧ mdM (encB [g, ph, t, x, r, p, l] xs) = [g, ph, t, x, r, p, l] ∧ mdX (encB [g, ph, t, x, r, p, l] xs) = xs ∧ (encB [g, ph, t, x, r, p, l] xs).length = 256 := by
  have hp : okP g ph t x r p l xs.length := of_decide_eq_true hok
  obtain ⟨G, PH, T, X, R, P, L, k, rfl, rfl, rfl, rfl, rfl, rfl, rfl, h⟩ := nats_of hp
  obtain ⟨h1, h2, h3⟩ := meta_back h hp
  refine ⟨h1, ?_, ?_, ?_⟩
  · unfold mdM
    rw [if_pos h1, h2]
  · unfold mdX
    rw [if_pos h1, h3]
  · rw [encB_eq h, put4_length _ _ (by rw [metaR_len h]; decide), metaR_len h]
end Go.Proofs.YtopaponemjaenaaDoor
