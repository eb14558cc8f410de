/-
  Metas: what the document reads is what was encoded; its errors are the program's. No memory here.
-/
import Derived.Test.YtopaponemjaenaaGreatDoorMdp
set_option linter.unusedVariables false
namespace Go.Proofs.YtopaponemjaenaaGreatDoor

theorem one_byte {b : Bytes} {i : Nat} (h : i < b.length) : (b.drop i).take 1 = le (dB b i) 1 ∧ num ((b.drop i).take 1) = dB b i := by
  have e : (b.drop i).take 1 = [b.getD i 0] := by
    rw [List.drop_eq_getElem_cons h, List.take_succ_cons, List.take_zero, List.getD_eq_getElem?_getD, List.getElem?_eq_getElem h]
    rfl
  have hn : num ((b.drop i).take 1) = dB b i := by
    rw [e]
    show (b.getD i 0).toNat + 256 * 0 = _
    rw [Nat.mul_zero, Nat.add_zero]
    rfl
  refine ⟨?_, hn⟩
  have h2 := le_num ((b.drop i).take 1)
  rw [hn, e] at h2
  rw [e]
  exact h2.symm
theorem split_at {b : Bytes} (i k : Nat) : b.drop i = (b.drop i).take k ++ b.drop (i + k) := by
  rw [← List.drop_drop, List.take_append_drop]
theorem dPart_len {b : Bytes} (hl : b.length = 256) {j k : Nat} (hk : dW b = k) (h : 8 + j * k + k ≤ 256) : (dPart b j).length = k := by
  unfold dPart
  rw [hk, List.length_take, List.length_drop, hl]
  omega
theorem put4_same {a b : Bytes} (ha : a.length = 256) (hb : b.length = 256) (h : a.take 252 = b.take 252) : put4 a 252 = put4 b 252 := by
  unfold put4 oth
  rw [h, List.drop_eq_nil_of_le (by omega : a.length ≤ 252 + 4), List.drop_eq_nil_of_le (by omega : b.length ≤ 252 + 4)]
theorem doc_back {b : Bytes} (h : DocOk b) : okL (dM b) (dX b).length = true ∧ encB (dM b) (dX b) = b := by
  obtain ⟨hm, hput, ⟨hg, h3⟩, hend, hz, hok⟩ := h
  unfold markedB at hm
  simp only [Bool.and_eq_true, decide_eq_true_eq] at hm
  obtain ⟨hlen, hm1, hm2⟩ := hm
  unfold dEnd at hend
  have hXl : (dX b).length = dB b 7 := by
    unfold dX
    rw [List.length_take, List.length_drop, hlen]
    omega
  rw [← hXl] at hok
  have hp : okP (dB b 4 : Int) (dB b 5) (dB b 6) (number9 (dPart b 0)) (number9 (dPart b 1)) (number9 (dPart b 2)) (number9 (dPart b 3)) (dX b).length := of_decide_eq_true hok
  obtain ⟨G, PH, T, X, R, P, L, k, e1, e2, e3, e4, e5, e6, e7, hN⟩ := nats_of hp
  have e1' : dB b 4 = G := by omega
  have e2' : dB b 5 = PH := by omega
  have e3' : dB b 6 = T := by omega
  have hk := hN.k48
  have hw : dW b = k := by unfold dW; rw [e1', hN.hk]; exact Int.toNat_natCast _
  rw [hw] at hend
  have q : ∀ j n, 8 + j * k + k ≤ 256 → number9 (dPart b j) = ((n : Nat) : Int) → (b.drop (8 + j * k)).take k = le n k := fun j n hj e => by
    have h1 := le_num (dPart b j)
    rw [number9_nat e, dPart_len hlen hw hj] at h1
    rw [h1]
    unfold dPart
    rw [hw]
  have hxs : (b.drop (8 + 4 * k)).take (dB b 7) = dX b := by unfold dX; rw [hw]
  have hbH : b = metaH G PH T X R P L k (dX b) ++ b.drop (8 + 4 * k + dB b 7) := by
    have s4 := split_at (b := b) 0 4
    have s5 := split_at (b := b) 4 1
    have s6 := split_at (b := b) 5 1
    have s7 := split_at (b := b) 6 1
    have s8 := split_at (b := b) 7 1
    have s9 := split_at (b := b) 8 k
    have s10 := split_at (b := b) (8 + k) k
    have s11 := split_at (b := b) (8 + k + k) k
    have s12 := split_at (b := b) (8 + k + k + k) k
    have s13 := split_at (b := b) (8 + k + k + k + k) (dB b 7)
    rw [List.drop_zero, hm1] at s4
    rw [(one_byte (by omega)).1, e1'] at s5
    rw [(one_byte (by omega)).1, e2'] at s6
    rw [(one_byte (by omega)).1, e3'] at s7
    rw [(one_byte (by omega)).1] at s8
    have t0 := q 0 X (by omega) e4
    have t1 := q 1 R (by omega) e5
    have t2 := q 2 P (by omega) e6
    have t3 := q 3 L (by omega) e7
    rw [show 8 + 0 * k = 8 from by omega] at t0
    rw [show 8 + 1 * k = 8 + k from by omega] at t1
    rw [show 8 + 2 * k = 8 + k + k from by omega] at t2
    rw [show 8 + 3 * k = 8 + k + k + k from by omega] at t3
    rw [show 8 + 4 * k = 8 + k + k + k + k from by omega] at hxs
    rw [t0] at s9
    rw [t1] at s10
    rw [t2] at s11
    rw [t3] at s12
    rw [hxs] at s13
    unfold metaH
    rw [hXl, show 8 + 4 * k + dB b 7 = 8 + k + k + k + k + dB b 7 from by omega]
    simp only [List.append_assoc]
    rw [← s13, ← s12, ← s11, ← s10, ← s9, ← s8, ← s7, ← s6, ← s5, ← s4]
  have hHl : (metaH G PH T X R P L k (dX b)).length = 8 + 4 * k + dB b 7 := by rw [metaH_len, hXl]
  have hpl : (padB 248 (metaH G PH T X R P L k (dX b))).length = 248 := padB_length (by omega)
  have hb2 : b = padB 248 (metaH G PH T X R P L k (dX b)) ++ (tail4 ++ b.drop 252) := by
    have s1 := split_at (b := b) (8 + 4 * k + dB b 7) (248 - (8 + 4 * k + dB b 7))
    rw [show 8 + 4 * k + dB b 7 + (248 - (8 + 4 * k + dB b 7)) = 248 from by omega] at s1
    have s2 := split_at (b := b) 248 4
    rw [hm2] at s2
    have hzr : (b.drop (8 + 4 * k + dB b 7)).take (248 - (8 + 4 * k + dB b 7)) = List.replicate (248 - (8 + 4 * k + dB b 7)) 0 := by
      rw [List.eq_replicate_iff]
      refine ⟨by rw [List.length_take, List.length_drop, hlen]; omega, fun y hy => ?_⟩
      obtain ⟨i, hi, rfl⟩ := List.getElem_of_mem hy
      rw [List.length_take, List.length_drop, hlen] at hi
      rw [List.getElem_take, List.getElem_drop]
      have h4 := hz (8 + 4 * k + dB b 7 + i) (by unfold dEnd; rw [hw]; omega) (by omega)
      rw [List.getD_eq_getElem?_getD, List.getElem?_eq_getElem (by omega)] at h4
      exact h4
    have h5 : b = metaH G PH T X R P L k (dX b) ++ (List.replicate (248 - (8 + 4 * k + dB b 7)) 0 ++ (tail4 ++ b.drop (248 + 4))) := by
      rw [← s2, ← hzr, ← s1]
      exact hbH
    unfold padB
    rw [hHl, List.append_assoc]
    exact h5
  have hM : dM b = [(G : Int), PH, T, X, R, P, L] := by
    unfold dM
    rw [e1, e2, e3, e4, e5, e6, e7]
  rw [hM]
  refine ⟨by rw [← hM]; exact hok, ?_⟩
  rw [encB_eq hN, put4_same (metaR_len hN) hlen ?_]
  · exact hput.symm
  · have e252 : (padB 248 (metaH G PH T X R P L k (dX b)) ++ tail4).length = 252 := by rw [List.length_append, hpl]; rfl
    have h6 : b = (padB 248 (metaH G PH T X R P L k (dX b)) ++ tail4) ++ b.drop 252 := by rw [List.append_assoc]; exact hb2
    have h8 := (congrArg (List.take 252) h6).trans (List.take_left' e252)
    have h9 : (metaR (metaH G PH T X R P L k (dX b))).take 252 = padB 248 (metaH G PH T X R P L k (dX b)) ++ tail4 := by
      unfold metaR
      rw [← List.append_assoc]
      exact List.take_left' e252
    exact h9.trans h8.symm
theorem seven_of : ∀ L : List Int, L.length = 7 → ∃ g ph t x r p l, L = [g, ph, t, x, r, p, l]
  | [g, ph, t, x, r, p, l], _ => ⟨g, ph, t, x, r, p, l, rfl⟩
theorem doc_iff (b : Bytes) : (DocOk b ↔ mdE b = 0) ∧ (DocOk b → mdM b = dM b ∧ mdX b = dX b) := by
  have h1 : DocOk b → mdE b = 0 ∧ mdM b = dM b ∧ mdX b = dX b := fun h => by
    obtain ⟨h2, h3⟩ := doc_back h
    obtain ⟨m, hm⟩ : ∃ m, m = dM b := ⟨_, rfl⟩
    rw [← hm] at h2 h3 ⊢
    have hm2 : ∃ g ph t x r p l, m = [g, ph, t, x, r, p, l] := ⟨_, _, _, _, _, _, _, hm⟩
    obtain ⟨g, ph, t, x, r, p, l, rfl⟩ := hm2
    obtain ⟨a1, a2, a3, _⟩ := enc_back (g := g) (ph := ph) (t := t) (x := x) (r := r) (p := p) (l := l) (xs := dX b) h2
    rw [h3] at a1 a2 a3
    exact ⟨a1, a2, a3⟩
  refine ⟨⟨fun h => (h1 h).1, fun h => ?_⟩, fun h => (h1 h).2⟩
  unfold mdE at h
  split at h
  · cases h
  · split at h
    · cases h
    · split at h
      · cases h
      · split at h
        · rename_i _ _ _ h4
          obtain ⟨h4, h5⟩ := h4
          obtain ⟨g, ph, t, x, r, p, l, hM⟩ := seven_of _ (rG2_len b)
          rw [hM] at h4 h5
          have hp : okP g ph t x r p l (rCursor b).length := of_decide_eq_true h4
          obtain ⟨G, PH, T, X, R, P, L, k, rfl, rfl, rfl, rfl, rfl, rfl, rfl, hN⟩ := nats_of hp
          exact (doc_enc hN hp h5.symm).1
        · cases h
/-- Why the document tells none. -/
def rdE (b : Bytes) : Int := if markedB b = false then 90 else if b ≠ put4 b 252 then 91 else if ¬ (gen (dB b 4 : Int) = true ∧ dB b 6 ≤ 3) then 93 else if mdE b = 0 then 0 else 92
theorem rdE_eq (b : Bytes) : rdE b = mdE b := by
  unfold rdE
  by_cases h1 : markedB b = false
  · rw [if_pos h1]
    unfold mdE
    rw [if_pos h1]
  rw [if_neg h1]
  have hm : markedB b = true := by simpa using h1
  unfold markedB at hm
  simp only [Bool.and_eq_true, decide_eq_true_eq] at hm
  have hlen := hm.1
  have hs := same_put4 b 252 (by omega)
  by_cases h2 : b ≠ put4 b 252
  · rw [if_pos h2]
    unfold mdE
    rw [if_neg h1, if_pos (by rw [show (252 : Int) = ((252 : Nat) : Int) from rfl, hs]; exact decide_eq_false h2)]
  have h2' : b = put4 b 252 := Classical.byContradiction h2
  have hs2 : isSealed b 252 = true := by rw [show (252 : Int) = ((252 : Nat) : Int) from rfl, hs]; exact decide_eq_true h2'
  rw [if_neg h2]
  have g1 : (⟨b, 4, false⟩ : Cur).get 1 = ⟨b, 5, false⟩ ∧ (⟨b, 4, false⟩ : Cur).val 1 = dB b 4 := by
    have hn := (one_byte (b := b) (i := 4) (by omega)).2
    have hb := UInt8.toNat_lt (b.getD 4 0)
    have := cur_get (L := b) (a := 4) (k := 1) (by omega) (by decide) (by decide) (by rw [hn]; unfold dB; omega)
    rw [hn] at this
    exact this
  have g2 : (⟨b, 5, false⟩ : Cur).get 1 = ⟨b, 6, false⟩ := by
    have hn := (one_byte (b := b) (i := 5) (by omega)).2
    have hb := UInt8.toNat_lt (b.getD 5 0)
    exact (cur_get (L := b) (a := 5) (k := 1) (by omega) (by decide) (by decide) (by rw [hn]; unfold dB; omega)).1
  have g3 : (⟨b, 6, false⟩ : Cur).val 1 = dB b 6 := by
    have hn := (one_byte (b := b) (i := 6) (by omega)).2
    have hb := UInt8.toNat_lt (b.getD 6 0)
    have := (cur_get (L := b) (a := 6) (k := 1) (by omega) (by decide) (by decide) (by rw [hn]; unfold dB; omega)).2
    rw [hn] at this
    exact this
  have c0 : rC0 b = ⟨b, 4, false⟩ := cur_take (L := b) (a := 0) (k := 4) (by omega)
  have v0 : (rG2 b).2.getD 0 0 = (dB b 4 : Int) := by
    show ((rC0 b).val 1 : Int) = _
    rw [c0, g1.2]
  have v2 : (rG2 b).2.getD 2 0 = (dB b 6 : Int) := by
    show ((((rC0 b).get 1).get 1).val 1 : Int) = _
    rw [c0, g1.1, g2, g3]
  by_cases h3 : gen (dB b 4 : Int) = true ∧ dB b 6 ≤ 3
  · rw [if_neg (fun h => h h3)]
    have hsn : ¬ isSealed b 252 = false := by simp [hs2]
    have hh : ¬ ¬ (gen (dB b 4 : Int) = true ∧ (dB b 6 : Int) ≤ 3) := fun h => h ⟨h3.1, by omega⟩
    by_cases h5 : okL (rG2 b).2 (rCursor b).length = true ∧ encB (rG2 b).2 (rCursor b) = b
    · have e : mdE b = 0 := by
        unfold mdE
        rw [if_neg h1, if_neg hsn, v0, v2, if_neg hh, if_pos h5]
      rw [if_pos e, e]
    · have e : mdE b = 92 := by
        unfold mdE
        rw [if_neg h1, if_neg hsn, v0, v2, if_neg hh, if_neg h5]
      rw [if_neg (by rw [e]; decide), e]
  · rw [if_pos h3]
    have hsn : ¬ isSealed b 252 = false := by simp [hs2]
    unfold mdE
    rw [if_neg h1, if_neg hsn, v0, v2, if_pos (fun h => h3 ⟨h.1, by omega⟩)]
end Go.Proofs.YtopaponemjaenaaGreatDoor
