/-
  The document's reader of one entry, in plain words: what an entry makes is read as it was, and what is read was made so.
-/
import Derived.Test.YtoghojgajpfkkaaGreatDoorRoc
import Derived.Test.YtoghojgajpfkkaaGreatDoorRen
set_option linter.unusedVariables false
namespace Go.Proofs.YtoghojgajpfkkaaGreatDoor
open Go.RowKit

theorem le_num : ∀ xs : Bytes, le (num xs) xs.length = xs
  | [] => rfl
  | x :: xs => by
    have h1 := le_num xs
    have h2 := UInt8.toNat_lt x
    rw [List.length_cons, le_cons]
    have e : num (x :: xs) = x.toNat + 256 * num xs := by simp [num]
    rw [e, show (x.toNat + 256 * num xs) % 256 = x.toNat from by omega, show (x.toNat + 256 * num xs) / 256 = num xs from by omega, h1]
    simp
theorem cutD (b : Bytes) (a k : Nat) : b.drop a = (b.drop a).take k ++ b.drop (a + k) := by
  rw [← List.drop_drop]
  exact (List.take_append_drop k _).symm
theorem cut1 (b : Bytes) (a : Nat) (h : a < b.length) : (b.drop a).take 1 = [UInt8.ofNat (b.getD a 0).toNat] := by
  rw [List.drop_eq_getElem_cons h, List.take_succ_cons, List.take_zero, List.getD_eq_getElem?_getD, List.getElem?_eq_getElem h]
  simp
theorem rnum_nat {xs : Bytes} (h : 0 ≤ rnum xs) : (rnum xs).toNat = num xs := by
  unfold rnum at h ⊢
  split at h
  · omega
  · rename_i h1
    rw [if_neg h1, Int.toNat_natCast]
theorem kid_back {g : Int} {q : Nat} {b : Bytes} {a z : Nat} {i : It} (hq : tr g 4 8 8 = (q : Int)) (h : oneF q false b a = some (i, z)) (hr : 0 ≤ i.2.2.2) (hk : i.1.length < 256) :
    i.2.1 = [] ∧ b.drop a = serK g (i.1, i.2.2.2) ++ b.drop z ∧ z = a + (serK g (i.1, i.2.2.2)).length ∧ z ≤ b.length := by
  unfold oneF at h
  split at h
  · cases h
  rename_i h1
  rw [if_pos rfl] at h
  split at h
  · cases h
  rename_i h2
  cases h
  simp only at hr hk ⊢
  have hL : ((b.drop (a + 1)).take (b.getD a 0).toNat).length = (b.getD a 0).toNat := by rw [List.length_take, List.length_drop]; omega
  have hQ : ((b.drop (a + 1 + (b.getD a 0).toNat)).take q).length = q := by rw [List.length_take, List.length_drop]; omega
  have hs : serK g ((b.drop (a + 1)).take (b.getD a 0).toNat, rnum ((b.drop (a + 1 + (b.getD a 0).toNat)).take q)) = [UInt8.ofNat (b.getD a 0).toNat] ++ ((b.drop (a + 1)).take (b.getD a 0).toNat ++ (b.drop (a + 1 + (b.getD a 0).toNat)).take q) := by
    unfold serK
    simp only
    rw [hL, le_one _ (UInt8.toNat_lt _), hq, Int.toNat_natCast, rnum_nat hr]
    have h3 := le_num ((b.drop (a + 1 + (b.getD a 0).toNat)).take q)
    rw [hQ] at h3
    rw [h3]
  rw [hs]
  refine ⟨trivial, ?_, ?_, by omega⟩
  · rw [← cut1 b a (by omega), List.append_assoc, List.append_assoc, ← cutD, ← cutD, ← cutD]
  · rw [List.length_append, List.length_append, hL, hQ, List.length_singleton]
    omega
theorem leaf_back {g : Int} {q : Nat} {b : Bytes} {a z : Nat} {i : It} (hq : tr g 4 8 8 = (q : Int)) (h : oneF q true b a = some (i, z)) (hr : 0 ≤ i.2.2.2) (hk : i.1.length < 256) (hu : unp i.2.1.length i.2.2.2 = false) :
    b.drop a = serI g i ++ b.drop z ∧ z = a + (serI g i).length ∧ z ≤ b.length := by
  unfold oneF at h
  split at h
  · cases h
  rename_i h1
  rw [if_neg (by decide)] at h
  split at h
  · cases h
  rename_i h2
  have hL : ((b.drop (a + 4)).take (b.getD a 0).toNat).length = (b.getD a 0).toNat := by rw [List.length_take, List.length_drop]; omega
  have hZ : ((b.drop (a + 2)).take 2).length = 2 := by rw [List.length_take, List.length_drop]; omega
  have hz := le_num ((b.drop (a + 2)).take 2)
  rw [hZ] at hz
  have hF : (b.drop (a + 1)).take 1 = [UInt8.ofNat (b.getD (a + 1) 0).toNat] := cut1 b (a + 1) (by omega)
  split at h
  · rename_i h3
    split at h
    · cases h
    rename_i h4
    cases h
    simp only at hr hk hu ⊢
    have hV : ((b.drop (a + 4 + (b.getD a 0).toNat)).take (num ((b.drop (a + 2)).take 2))).length = num ((b.drop (a + 2)).take 2) := by rw [List.length_take, List.length_drop]; omega
    have h32 : ((b.drop (a + 4 + (b.getD a 0).toNat)).take (num ((b.drop (a + 2)).take 2))).length ≤ 32 := by
      refine Nat.le_of_not_lt fun hlt => ?_
      unfold unp far at hu
      rw [decide_eq_true (Or.inr hlt : (0 : Int) ≠ 0 ∨ 32 < _)] at hu
      cases hu
    rw [h3] at hF
    rw [serI_near h32 hk, hL, hV, hz, ← hF, ← cut1 b a (by omega)]
    refine ⟨?_, ?_, by omega⟩
    · rw [List.append_assoc, List.append_assoc, List.append_assoc, List.append_assoc, ← cutD, ← cutD, ← cutD, ← cutD, ← cutD]
    · rw [cut1 b a (by omega), hF]
      simp only [List.length_append, List.length_singleton, hL, hV, hZ]
      omega
  · rename_i h3
    split at h
    · cases h
    rename_i h4
    split at h
    · cases h
    rename_i h5
    cases h
    simp only at hr hk hu ⊢
    have hQ : ((b.drop (a + 4 + (b.getD a 0).toNat)).take q).length = q := by rw [List.length_take, List.length_drop]; omega
    have hn := le_num ((b.drop (a + 4 + (b.getD a 0).toNat)).take q)
    rw [hQ] at hn
    have e := rnum_nat hr
    obtain ⟨r, hr'⟩ : ∃ r : Nat, rnum ((b.drop (a + 4 + (b.getD a 0).toNat)).take q) = (r : Int) := ⟨_, (Int.toNat_of_nonneg hr).symm⟩
    rw [hr'] at h5 e ⊢
    rw [Int.toNat_natCast] at e
    rw [show (b.getD (a + 1) 0).toNat = 1 from by omega] at hF
    rw [serI_far h5 hk, hL, hz, ← hF, ← cut1 b a (by omega), hq, Int.toNat_natCast, e, hn]
    refine ⟨?_, ?_, by omega⟩
    · rw [List.append_assoc, List.append_assoc, List.append_assoc, List.append_assoc, ← cutD, ← cutD, ← cutD, ← cutD, ← cutD]
    · rw [cut1 b a (by omega), hF]
      simp only [List.length_append, List.length_singleton, hL, hQ, hZ]
      omega
theorem rnum_lq {r q : Nat} (hr : r < 16384) (hq4 : 4 ≤ q) : rnum (le r q) = (r : Int) := by
  obtain ⟨p, rfl⟩ : ∃ p, q = p + 4 := ⟨q - 4, by omega⟩
  have hn : num (le r (p + 4)) = r := num_le (p + 4) r (by
    have h2 : 256 ^ 4 ≤ 256 ^ (p + 4) := Nat.pow_le_pow_right (by decide) (by omega)
    omega)
  unfold rnum
  rw [hn, if_neg]
  intro hh
  have h7 : ((le r (p + 4)).getD 7 0).toNat = 0 := by
    obtain rfl : p = 4 := by have := hh.1; rw [le_length] at this; omega
    simp [le, List.getD_eq_getElem?_getD]
    omega
  omega
/-- What an item makes is read as it was. -/
theorem leaf_ser {g : Int} {q : Nat} {b R : Bytes} {a : Nat} {i : It} (hq : tr g 4 8 8 = (q : Int)) (hq4 : 4 ≤ q) (hq8 : q ≤ 8) (ho : okay g i.1.length i.2.1.length i.2.2.1 i.2.2.2 = true) (hu : unp i.2.1.length i.2.2.2 = false) (h : b.drop a = serI g i ++ R) :
    oneF q true b a = some (i, a + (serI g i).length) := by
  obtain ⟨xs, ys, s, r⟩ := i
  obtain ⟨hn8, hfar⟩ := okay_in ho
  simp only at ho hu hn8 hfar
  have hlen : b.length = a + (serI g (xs, ys, s, r)).length + R.length := by
    have h1 := congrArg List.length h
    rw [List.length_drop, List.length_append] at h1
    have h2 : 0 < (serI g (xs, ys, s, r)).length := by unfold serI; simp [le_length]; omega
    omega
  have hd : ∀ k, b.drop (a + k) = (serI g (xs, ys, s, r) ++ R).drop k := fun k => by rw [← h, List.drop_drop]
  have hg : ∀ k, b.getD (a + k) 0 = (serI g (xs, ys, s, r) ++ R).getD k 0 := fun k => by rw [← h, List.getD_eq_getElem?_getD, List.getD_eq_getElem?_getD, List.getElem?_drop]
  have hle : ∀ n : Nat, n < 65536 → num (le n 2) = n := fun n hn => by
    rw [le_cons, le_cons]
    have : le (n / 256 / 256) 0 = [] := rfl
    rw [this]
    simp [num]
    omega
  by_cases hr : r = 0
  · subst hr
    have h32 : ys.length ≤ 32 := by
      refine Nat.le_of_not_lt fun hlt => ?_
      unfold unp far at hu
      rw [decide_eq_true (Or.inr hlt : (0 : Int) ≠ 0 ∨ 32 < _)] at hu
      cases hu
    have hs0 : s = 0 := by
      unfold okay putOk at ho
      simp only [Bool.and_eq_true, decide_eq_true_eq] at ho
      omega
    subst hs0
    have e := serI_near (g := g) (s := 0) h32 hn8
    rw [e] at hlen hd hg ⊢
    have g0 := hg 0
    have g1 := hg 1
    have d2 := hd 2
    have d4 := hd 4
    simp only [Nat.add_zero] at g0
    have u0 : (b.getD a 0).toNat = xs.length := by rw [g0]; simp; omega
    have u1 : (b.getD (a + 1) 0).toNat = 0 := by rw [g1]; simp
    have u2 : (b.drop (a + 2)).take 2 = le ys.length 2 := by rw [d2]; simp [le_length]
    have e4 : b.drop (a + 4) = xs ++ (ys ++ R) := by rw [d4]; simp [le_length]
    have u4 : (b.drop (a + 4)).take xs.length = xs := by rw [e4, List.take_left]
    have uv : (b.drop (a + 4 + xs.length)).take ys.length = ys := by rw [← List.drop_drop, e4, List.drop_left, List.take_left]
    simp only [List.length_append, List.length_singleton, le_length] at hlen ⊢
    unfold oneF
    rw [u0, u1, u2, hle _ (by omega), u4, uv, if_neg (by omega), if_neg (by decide), if_neg (by omega), if_pos rfl, if_neg (by omega)]
    simp only [Option.some.injEq, Prod.mk.injEq, true_and]
    omega
  · obtain ⟨hs0, hs1, hr0, hr1⟩ := hfar hr
    obtain ⟨s, rfl⟩ : ∃ k : Nat, s = (k : Int) := ⟨s.toNat, by omega⟩
    obtain ⟨r, rfl⟩ : ∃ k : Nat, r = (k : Int) := ⟨r.toNat, by omega⟩
    have hy0 : ys = [] := by
      unfold okay putOk at ho
      simp only [Bool.and_eq_true, decide_eq_true_eq] at ho
      exact List.eq_nil_of_length_eq_zero (by omega)
    subst hy0
    have e := serI_far (g := g) (ys := []) (s := s) hr hn8
    rw [hq, Int.toNat_natCast] at e
    rw [e] at hlen hd hg ⊢
    have g0 := hg 0
    have g1 := hg 1
    have d2 := hd 2
    have d4 := hd 4
    simp only [Nat.add_zero] at g0
    have u0 : (b.getD a 0).toNat = xs.length := by rw [g0]; simp; omega
    have u1 : (b.getD (a + 1) 0).toNat = 1 := by rw [g1]; simp
    have u2 : (b.drop (a + 2)).take 2 = le s 2 := by rw [d2]; simp [le_length]
    have e4 : b.drop (a + 4) = xs ++ (le r q ++ R) := by rw [d4]; simp [le_length]
    have u4 : (b.drop (a + 4)).take xs.length = xs := by rw [e4, List.take_left]
    have uv : (b.drop (a + 4 + xs.length)).take q = le r q := by
      rw [← List.drop_drop, e4, List.drop_left]
      exact List.take_left' (le_length _ _)
    have ur : rnum (le r q) = (r : Int) := rnum_lq (by omega) hq4
    simp only [List.length_append, List.length_singleton, le_length] at hlen ⊢
    unfold oneF
    rw [u0, u1, u2, hle _ (by omega), u4, uv, ur, if_neg (by omega), if_neg (by decide), if_neg (by omega), if_neg (by decide), if_neg (by omega), if_neg hr]
    simp only [Option.some.injEq, Prod.mk.injEq, true_and]
    omega
/-- What a kid makes is read as it was. -/
theorem kid_ser {g : Int} {q : Nat} {b R xs : Bytes} {a r : Nat} (hq : tr g 4 8 8 = (q : Int)) (hq4 : 4 ≤ q) (hr : r < 16384) (hn : xs.length < 256) (h : b.drop a = serK g (xs, (r : Int)) ++ R) :
    oneF q false b a = some ((xs, [], 0, (r : Int)), a + (serK g (xs, (r : Int))).length) := by
  have e := serK_one (g := g) (xs := xs) (r := r) hn
  rw [hq, Int.toNat_natCast] at e
  rw [e] at h ⊢
  have hlen : b.length = a + (1 + (xs.length + q)) + R.length := by
    have h1 := congrArg List.length h
    simp only [List.length_drop, List.length_append, List.length_singleton, le_length] at h1
    omega
  have u0 : (b.getD a 0).toNat = xs.length := by
    have h1 : b.getD a 0 = (b.drop a).getD 0 0 := by rw [List.getD_eq_getElem?_getD, List.getD_eq_getElem?_getD, List.getElem?_drop]; rfl
    rw [h1, h]
    simp
    omega
  have e1 : b.drop (a + 1) = xs ++ (le r q ++ R) := by rw [← List.drop_drop, h]; simp
  have u1 : (b.drop (a + 1)).take xs.length = xs := by rw [e1, List.take_left]
  have uv : (b.drop (a + 1 + xs.length)).take q = le r q := by
    rw [← List.drop_drop, e1, List.drop_left]
    exact List.take_left' (le_length _ _)
  unfold oneF
  rw [u0, u1, uv, rnum_lq hr hq4, if_neg (by omega), if_pos rfl, if_neg (by omega)]
  simp only [Option.some.injEq, Prod.mk.injEq, true_and, List.length_append, List.length_singleton, le_length]
  omega
end Go.Proofs.YtoghojgajpfkkaaGreatDoor
