/-
  The program's head is the document's.
-/
import Derived.Test.YtbgnfocfnjlabaaDoorRhd
set_option linter.unusedVariables false
namespace Go.Proofs.YtbgnfocfnjlabaaDoor
open Go.RowKit

theorem rnum_of {xs : Bytes} (h : xs.length ≤ 8) (hl : num xs < 9223372036854775808) : rnum xs = (num xs : Nat) := by
  unfold rnum
  by_cases h8 : xs.length = 8 ∧ 127 < (xs.getD 7 0).toNat
  · obtain ⟨h1, h2⟩ := h8
    obtain ⟨ys, x, rfl⟩ : ∃ ys x, xs = ys ++ [x] := ⟨xs.dropLast, xs.getLast (by intro e; rw [e] at h1; simp at h1), (List.dropLast_concat_getLast _).symm⟩
    have hy : ys.length = 7 := by simp at h1; omega
    have hx : ((ys ++ [x]).getD 7 0) = x := by
      rw [List.getD_eq_getElem?_getD, List.getElem?_append_right (by omega), hy]
      rfl
    rw [hx] at h2
    rw [num_snoc, hy] at hl
    omega
  · rw [if_neg h8]
theorem rnum_neg {xs : Bytes} (h : xs.length ≤ 8) (hl : ¬ num xs < 9223372036854775808) : rnum xs < 0 := by
  unfold rnum
  rw [if_pos (Classical.byContradiction fun h8 => hl (num_top h h8))]
  decide
theorem cur_take {L : Bytes} {a k : Nat} (h : a + k ≤ L.length) : (⟨L, a, false⟩ : Cur).take (k : Int) = ⟨L, a + k, false⟩ := by
  unfold Cur.take
  rw [if_pos (Cur.has_of rfl h)]
  simp
theorem cur_spoil {L : Bytes} {a k : Nat} (h : L.length < a + k) : (⟨L, a, false⟩ : Cur).take (k : Int) = ⟨L, a, true⟩ := by
  unfold Cur.take
  rw [if_neg]
  · rfl
  · intro hh
    obtain ⟨_, j, e, hj⟩ := Cur.has_parts hh
    simp only at hj
    omega
theorem cur_get {L : Bytes} {a k : Nat} (h : a + k ≤ L.length) (h1 : 1 ≤ k) (h8 : k ≤ 8) (hl : num ((L.drop a).take k) < 9223372036854775808) :
    (⟨L, a, false⟩ : Cur).get (k : Int) = ⟨L, a + k, false⟩ ∧ (⟨L, a, false⟩ : Cur).val (k : Int) = num ((L.drop a).take k) := by
  have hh : (⟨L, a, false⟩ : Cur).has (k : Int) = true := Cur.has_of rfl h
  have hg : (⟨L, a, false⟩ : Cur).got (k : Int) = (L.drop a).take k := by unfold Cur.got; rw [if_pos hh]; simp
  have hm : (⟨L, a, false⟩ : Cur).may (k : Int) = true := by
    unfold Cur.may wide
    rw [hh, hg]
    simp only [Bool.and_eq_true, decide_eq_true_eq, true_and]
    exact ⟨⟨by omega, by omega⟩, hl⟩
  unfold Cur.get Cur.val
  rw [if_pos hm, if_pos hm, hg]
  exact ⟨cur_take h, rfl⟩
theorem cur_get_no {L : Bytes} {a k : Nat} (h : L.length < a + k ∨ ¬ num ((L.drop a).take k) < 9223372036854775808) : ((⟨L, a, false⟩ : Cur).get (k : Int)).sp = true := by
  unfold Cur.get
  rw [if_neg]
  · rfl
  · intro hm
    unfold Cur.may at hm
    simp only [Bool.and_eq_true, decide_eq_true_eq] at hm
    obtain ⟨_, hh, hl⟩ := hm
    rcases h with h | h
    · obtain ⟨_, j, e, hj⟩ := Cur.has_parts hh
      simp only at hj
      omega
    · unfold Cur.got at hl
      rw [if_pos hh] at hl
      simp only [Int.toNat_natCast] at hl
      exact h hl
theorem cur_get_sp {L : Bytes} {a : Nat} (k : Int) : ((⟨L, a, true⟩ : Cur).get k).sp = true := by rw [Cur.get_sp rfl]
theorem take_part {b : Bytes} {m a k : Nat} (h : a + k ≤ m) : ((b.take m).drop a).take k = (b.drop a).take k := by
  rw [List.drop_take, List.take_take, Nat.min_eq_left (by omega)]
theorem hd_key {b : Bytes} {g : Nat} (hg : g = 1 ∨ g = 2 ∨ g = 3) (h4 : 4 ≤ b.length) :
    hdCnt b g = num ((b.drop 2).take 2) ∧
    ((b.length < nx1 g ∨ rnum ((b.drop (nx0 g)).take (nx1 g - nx0 g)) < 0) → ((hdC b g).get (tr (g : Int) 4 8 8)).sp = true) ∧
    (¬ (b.length < nx1 g ∨ rnum ((b.drop (nx0 g)).take (nx1 g - nx0 g)) < 0) → ((hdC b g).get (tr (g : Int) 4 8 8)).sp = false ∧ ((hdC b g).val (tr (g : Int) 4 8 8) : Int) = rnum ((b.drop (nx0 g)).take (nx1 g - nx0 g))) := by
  obtain ⟨m, hm⟩ : ∃ m, m = min b.length (tr (g : Int) 8 16 16).toNat := ⟨_, rfl⟩
  have hml : (b.take m).length = m := by rw [List.length_take, hm]; omega
  have hm4 : 4 ≤ m := by rw [hm]; rcases hg with rfl | rfl | rfl <;> simp [tr] <;> omega
  have s1 : (Cur.new (b.take m)).take 2 = ⟨b.take m, 2, false⟩ := cur_take (a := 0) (k := 2) (by omega)
  have n2 : num (((b.take m).drop 2).take 2) < 9223372036854775808 := by
    have := num_lt (((b.take m).drop 2).take 2)
    have h2 : (((b.take m).drop 2).take 2).length ≤ 2 := by rw [List.length_take]; omega
    have h3 : 256 ^ (((b.take m).drop 2).take 2).length ≤ 256 ^ 2 := Nat.pow_le_pow_right (by decide) h2
    omega
  obtain ⟨s2, s3⟩ := cur_get (L := b.take m) (a := 2) (k := 2) (by omega) (by decide) (by decide) n2
  have e0 : hdCnt b g = ((Cur.new (b.take m)).take 2).val 2 := by rw [hm]; rfl
  have e1 : hdC b g = (((Cur.new (b.take m)).take 2).get 2).take (gap (g : Int)) := by rw [hm]; rfl
  refine ⟨?_, ?_⟩
  · rw [e0, s1]
    exact s3.trans (congrArg num (take_part (by omega)))
  rw [e1, s1]
  rw [show ((⟨b.take m, 2, false⟩ : Cur).get 2) = ⟨b.take m, 4, false⟩ from s2]
  have main : ∀ (f w : Nat), nx0 g = f → nx1 g = f + w → gap (g : Int) = ((f - 4 : Nat) : Int) → tr (g : Int) 4 8 8 = (w : Int) → 4 ≤ f → 1 ≤ w → w ≤ 8 → (b.length < f + w ↔ m < f + w) →
      ((b.length < nx1 g ∨ rnum ((b.drop (nx0 g)).take (nx1 g - nx0 g)) < 0) → (((⟨b.take m, 4, false⟩ : Cur).take (gap (g : Int))).get (tr (g : Int) 4 8 8)).sp = true) ∧
      (¬ (b.length < nx1 g ∨ rnum ((b.drop (nx0 g)).take (nx1 g - nx0 g)) < 0) → (((⟨b.take m, 4, false⟩ : Cur).take (gap (g : Int))).get (tr (g : Int) 4 8 8)).sp = false ∧ ((((⟨b.take m, 4, false⟩ : Cur).take (gap (g : Int))).val (tr (g : Int) 4 8 8) : Nat) : Int) = rnum ((b.drop (nx0 g)).take (nx1 g - nx0 g))) := by
    intro f w h0 h1 h2 h3 hf hw1 hw8 hmm
    rw [h0, h1, h2, h3, Nat.add_sub_cancel_left]
    by_cases hs : m < f
    · rw [cur_spoil (by omega)]
      refine ⟨fun _ => cur_get_sp _, fun hn => absurd (.inl (hmm.2 (by omega))) hn⟩
    · rw [cur_take (by omega), show 4 + (f - 4) = f by omega]
      have hx8 : ((b.drop f).take w).length ≤ 8 := by rw [List.length_take]; omega
      by_cases hsh : m < f + w
      · refine ⟨fun _ => cur_get_no (.inl (by omega)), fun hn => absurd (.inl (hmm.2 hsh)) hn⟩
      · have tp : ((b.take m).drop f).take w = (b.drop f).take w := take_part (by omega)
        by_cases hb : num ((b.drop f).take w) < 9223372036854775808
        · obtain ⟨g1, g2⟩ := cur_get (L := b.take m) (a := f) (k := w) (by omega) hw1 hw8 (by rw [tp]; exact hb)
          have hr := rnum_of hx8 hb
          refine ⟨fun hh => ?_, fun _ => ⟨by rw [g1], by rw [g2, tp, hr]⟩⟩
          rcases hh with hh | hh
          · exact absurd (hmm.1 hh) hsh
          · rw [hr] at hh
            omega
        · exact ⟨fun _ => cur_get_no (.inr (by rw [tp]; exact hb)), fun hn => absurd (.inr (rnum_neg hx8 hb)) hn⟩
  rcases hg with rfl | rfl | rfl
  · exact main 4 4 rfl rfl rfl rfl (by decide) (by decide) (by decide) (by rw [hm]; simp [tr]; omega)
  · exact main 8 8 rfl rfl rfl rfl (by decide) (by decide) (by decide) (by rw [hm]; simp [tr]; omega)
  · exact main 8 8 rfl rfl rfl rfl (by decide) (by decide) (by decide) (by rw [hm]; simp [tr]; omega)
theorem gen_three {g : Nat} (h : gen (g : Int) = true) : g = 1 ∨ g = 2 ∨ g = 3 := by
  unfold gen at h
  rw [decide_eq_true_eq] at h
  omega
theorem hdE_eq : ∀ (b : Bytes), hdE b = rhdE b
  | [] => rfl
  | [_] => rfl
  | x0 :: x1 :: r => by
    have e1 : hdE (x0 :: x1 :: r) = if (x0 :: x1 :: r).length < 4 then 70 else if (kindOk (x0.toNat : Int) && gen (x1.toNat : Int)) = true then (if ((hdC (x0 :: x1 :: r) x1.toNat).get (tr x1.toNat 4 8 8)).sp = true then 72 else 0) else 70 := rfl
    rw [e1]
    unfold rhdE
    have ek : hdK (x0 :: x1 :: r) = x0.toNat := rfl
    have eg : hdG (x0 :: x1 :: r) = x1.toNat := rfl
    rw [ek, eg]
    by_cases h4 : (x0 :: x1 :: r).length < 4
    · rw [if_pos h4, if_pos h4]
    rw [if_neg h4, if_neg h4]
    by_cases hk : (kindOk (x0.toNat : Int) && gen (x1.toNat : Int)) = true
    · rw [if_pos hk, if_pos hk]
      rw [Bool.and_eq_true] at hk
      obtain ⟨_, k1, k2⟩ := hd_key (b := x0 :: x1 :: r) (gen_three hk.2) (by omega)
      by_cases hc : (x0 :: x1 :: r).length < nx1 x1.toNat ∨ rnum (((x0 :: x1 :: r).drop (nx0 x1.toNat)).take (nx1 x1.toNat - nx0 x1.toNat)) < 0
      · rw [if_pos (k1 hc), if_pos hc]
      · rw [if_neg (by rw [(k2 hc).1]; decide), if_neg hc]
    · rw [if_neg hk, if_neg hk]
theorem hd_eq (b : Bytes) : hdV b = rhdV b := by
  unfold rhdV
  rw [← hdE_eq b]
  by_cases h : hdE b = 0
  · obtain ⟨h1, h2, h3⟩ := hdV_ok h
    rw [h1, if_pos h]
    have hr := h
    rw [hdE_eq b] at hr
    unfold rhdE at hr
    rw [if_neg (by omega)] at hr
    obtain ⟨k0, k1, k2⟩ := hd_key (b := b) (gen_three h2) h3
    by_cases hk : (kindOk (hdK b : Int) && gen (hdG b : Int)) = true
    · rw [if_pos hk] at hr
      by_cases hc : b.length < nx1 (hdG b) ∨ rnum ((b.drop (nx0 (hdG b))).take (nx1 (hdG b) - nx0 (hdG b))) < 0
      · rw [if_pos hc] at hr; cases hr
      · have hx := (k2 hc).2
        have h22 : ((b.drop 2).take 2).length ≤ 2 := by rw [List.length_take]; omega
        have hn2 : num ((b.drop 2).take 2) < 9223372036854775808 := by
          have := num_lt ((b.drop 2).take 2)
          have h3 : 256 ^ ((b.drop 2).take 2).length ≤ 256 ^ 2 := Nat.pow_le_pow_right (by decide) h22
          omega
        unfold hdOk hdN hdX
        rw [k0, hx, rnum_of (by omega) hn2]
    · rw [if_neg hk] at hr; cases hr
  · rw [hdV_no h, if_neg h]
end Go.Proofs.YtbgnfocfnjlabaaDoor
