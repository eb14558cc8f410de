/-
  What the document decodes is what Encode makes of a right, placed node: plain words.
-/
import Derived.Test.YtoghojgajpfkkaaGreatDoorFmp
import Derived.Test.YtoghojgajpfkkaaGreatDoorBak
set_option linter.unusedVariables false
namespace Go.Proofs.YtoghojgajpfkkaaGreatDoor
open Go.RowKit

theorem padB_front (H S : Bytes) (N : Nat) : padB (H.length + N) (H ++ S) = H ++ padB N S := by
  unfold padB
  rw [List.length_append, show H.length + N - (H.length + S.length) = N - S.length from by omega, List.append_assoc]
theorem hd_parts {b : Bytes} (he : hdE b = 0) : ((hdN b : Nat) : Int) = rnum ((b.drop 2).take 2) ∧ ((hdX b : Nat) : Int) = rnum ((b.drop (nx0 (hdG b))).take (nx1 (hdG b) - nx0 (hdG b))) := by
  have h1 := hd_eq b
  unfold rhdV at h1
  rw [(hdV_ok he).1, if_pos (by rw [← hdE_eq]; exact he)] at h1
  unfold hdOk at h1
  simpa using h1
theorem byte_u8 {b : Bytes} {i z : Nat} (h : (b.getD i 0).toNat = z) (hi : i < b.length) : (b.drop i).take 1 = le z 1 := by
  rw [cut1 b i hi, h, le_one _ (by rw [← h]; exact UInt8.toNat_lt _)]
theorem num_part {b : Bytes} {i k z : Nat} (hz : (z : Int) = rnum ((b.drop i).take k)) (h : i + k ≤ b.length) : (b.drop i).take k = le z k := by
  have hl : ((b.drop i).take k).length = k := by rw [List.length_take, List.length_drop]; omega
  have h1 := le_num ((b.drop i).take k)
  have h2 := rnum_nat (xs := (b.drop i).take k) (by omega)
  rw [hl, ← h2, ← hz, Int.toNat_natCast] at h1
  exact h1.symm
theorem flat_ge {α : Type} : ∀ (l : List α) (f : α → Bytes), (∀ y, 1 ≤ (f y).length) → l.length ≤ (l.flatMap f).length
  | [], _, _ => Nat.le_refl _
  | y :: l, f, h => by
    rw [List.length_cons, List.flatMap_cons, List.length_append]
    have := flat_ge l f h
    have := h y
    omega
/-- The same of a page that bears a sum. -/
theorem doc_sealed {b S : Bytes} {k g n : Nat} (hl : b.length = 256) (hs : isSealed b 4 = true) (hg0 : g = g) (hg : g = 2 ∨ g = 3) (hK : (b.drop 0).take 1 = le k 1) (hG : (b.drop 1).take 1 = le g 1) (hN : (b.drop 2).take 2 = le n 2) (hX : (b.drop 8).take 8 = le 0 8) (hT : b.drop (tr (g : Int) 8 16 16).toNat = padB (b.drop (tr (g : Int) 8 16 16).toNat).length S) :
    b = if (g : Int) = 1 then padB 256 (headB k g n 0 ++ S) else sealB (padB 256 (headB k g n 0 ++ S)) 4 := by
  have t16 : (tr (g : Int) 8 16 16).toNat = 16 := by rcases hg with rfl | rfl <;> rfl
  rw [if_neg (by omega)]
  rw [t16, show (b.drop 16).length = 240 from by rw [List.length_drop]; omega] at hT
  have hHd : headB k g n 0 = le k 1 ++ (le g 1 ++ (le n 2 ++ (List.replicate 4 0 ++ le 0 8))) := by
    rcases hg with rfl | rfl <;> rfl
  have hH : (headB k g n 0).length = 16 := by rw [hHd]; simp [le_length]
  have hraw : padB 256 (headB k g n 0 ++ S) = headB k g n 0 ++ b.drop 16 := by
    have h := padB_front (headB k g n 0) S 240
    rw [hH] at h
    rw [hT]
    exact h
  have hrl : (padB 256 (headB k g n 0 ++ S)).length = 256 := by rw [hraw, List.length_append, hH, List.length_drop]; omega
  have hb4 : b.take 4 = le k 1 ++ (le g 1 ++ le n 2) := by
    have h := cutD b 0 1
    have e : b = le k 1 ++ (le g 1 ++ (le n 2 ++ b.drop 4)) := by
      rw [List.drop_zero] at h
      rw [← hK, ← hG, ← hN, ← cutD b 2 2, ← cutD b 1 1]
      exact h
    have h2 := congrArg (List.take 4) e
    rw [h2, ← List.append_assoc, ← List.append_assoc, List.take_left' (by simp [le_length]), List.append_assoc]
  have hb8 : b.drop 8 = le 0 8 ++ b.drop 16 := by rw [← hX]; exact cutD b 8 8
  have hr4 : (padB 256 (headB k g n 0 ++ S)).take 4 = b.take 4 := by
    rw [hraw, hb4, hHd, show le k 1 ++ (le g 1 ++ (le n 2 ++ (List.replicate 4 0 ++ le 0 8))) ++ b.drop 16 = (le k 1 ++ (le g 1 ++ le n 2)) ++ ((List.replicate 4 0 ++ le 0 8) ++ b.drop 16) from by simp only [List.append_assoc]]
    exact List.take_left' (by simp [le_length])
  have hr8 : (padB 256 (headB k g n 0 ++ S)).drop 8 = b.drop 8 := by
    rw [hraw, hb8, hHd, show le k 1 ++ (le g 1 ++ (le n 2 ++ (List.replicate 4 0 ++ le 0 8))) ++ b.drop 16 = (le k 1 ++ (le g 1 ++ (le n 2 ++ List.replicate 4 0))) ++ (le 0 8 ++ b.drop 16) from by simp only [List.append_assoc]]
    exact List.drop_left' (by simp [le_length])
  have h5 := same_put4 b 4 (by omega)
  rw [show ((4 : Nat) : Int) = 4 from rfl, hs] at h5
  have h6 : b = put4 b 4 := by simpa using h5.symm
  unfold sealB
  rw [if_pos (by unfold rm4; rw [hrl]; decide)]
  have h7 : put4 (padB 256 (headB k g n 0 ++ S)) (4 : Int).toNat = put4 b 4 := by
    unfold put4 oth
    rw [show (4 : Int).toNat = 4 from rfl, hr4, hr8]
  rw [h7]
  exact h6
/-- A page that the document decodes is the page of the node that it tells. -/
theorem doc_page {b : Bytes} {x : Nd} {q : Nat} (hq : tr (hdG b) 4 8 8 = (q : Int)) (hn : nhE b = 0) (hf : FormOk (hdG b) q (isLf b) (hdN b) (hdX b) (bodyOf b) x) : b = pageB (hdG b) x ∧ RightN (hdG b) x ∧ anyU x.its = false ∧ x.its.length ≤ 1000 ∧ x.kds.length ≤ 1000 := by
  obtain ⟨f1, f2, f3, f4, f5, f6, f7⟩ := form_back hq hf
  unfold nhE at hn
  by_cases hl : b.length = 256
  rotate_left
  · rw [if_pos hl] at hn; cases hn
  rw [if_neg (by omega)] at hn
  by_cases he : hdE b = 0
  rotate_left
  · rw [if_pos he] at hn; exact absurd hn he
  rw [if_neg (by omega)] at hn
  by_cases hk : hdK b = 76 ∨ hdK b = 66
  rotate_left
  · rw [if_pos (by omega)] at hn; cases hn
  rw [if_neg (by omega)] at hn
  have hs : hdG b ≠ 1 → isSealed b 4 = true := fun h => by
    by_cases h2 : isSealed b 4 = false
    · rw [if_pos ⟨h, h2⟩] at hn; cases hn
    · simpa using h2
  obtain ⟨p1, p2⟩ := hd_parts he
  have hbo : bodyOf b = b.drop (tr (hdG b) 8 16 16).toNat := by unfold bodyOf; rw [if_pos ⟨he, hl⟩]
  have hlen : x.its.length ≤ 1000 ∧ x.kds.length ≤ 1000 := by
    have hrm := f2.room
    have t : tr (hdG b) 248 240 240 ≤ 248 := by rcases (gen_iff _).1 f2.1 with e | e | e <;> rw [e] <;> decide
    have a1 : x.its.length ≤ (x.its.flatMap (serI (hdG b))).length := flat_ge x.its _ (fun y => by unfold serI; simp [le_length])
    have a2 : x.kds.length ≤ (x.kds.flatMap (serK (hdG b))).length := flat_ge x.kds _ (fun y => by unfold serK; simp [le_length])
    rw [List.length_append] at hrm
    omega
  refine ⟨?_, f2, f3, hlen⟩
  have hkk : (if x.leaf = true then 76 else 66) = hdK b := by
    rw [f4]
    unfold isLf
    rcases hk with h | h <;> rw [h] <;> rfl
  have hK := byte_u8 (b := b) (i := 0) (z := hdK b) rfl (by omega)
  have hG := byte_u8 (b := b) (i := 1) (z := hdG b) rfl (by omega)
  have hN := num_part (k := 2) p1 (by omega)
  have hgen := gen_three f2.1
  obtain ⟨S, hS⟩ : ∃ S, S = x.its.flatMap (serI (hdG b)) ++ x.kds.flatMap (serK (hdG b)) := ⟨_, rfl⟩
  rw [hbo, ← hS] at f7
  rw [← hS] at f6
  have hx0 : hdX b = 0 := by omega
  rw [hx0] at p2
  unfold pageB rawB
  rw [← hS, Int.toNat_natCast, hkk, f5]
  generalize hGe : hdG b = G at *
  have cut : ∀ i k : Nat, b.drop i = (b.drop i).take k ++ b.drop (i + k) := cutD b
  rcases hgen with rfl | rfl | rfl
  · rw [if_pos (by rfl)]
    have hX : (b.drop 4).take 4 = le 0 4 := num_part (b := b) (i := 4) (k := 4) (z := 0) p2 (by omega)
    have e8 : b.drop 8 = padB 248 S := by
      have h : (b.drop 8).length = 248 := by rw [List.length_drop]; omega
      rw [← h]
      exact f7
    have hH : (headB (hdK b) 1 (hdN b) 0).length = 8 := by unfold headB; simp [le_length, gap, tr]
    rw [show (256 : Nat) = (headB (hdK b) 1 (hdN b) 0).length + 248 from by rw [hH], padB_front, ← e8]
    have h0 := cut 0 1
    rw [hK, cut 1 1, hG, cut 2 2, hN, cut 4 4, hX, List.drop_zero] at h0
    rw [show headB (hdK b) 1 (hdN b) 0 = le (hdK b) 1 ++ (le 1 1 ++ (le (hdN b) 2 ++ ([] ++ le 0 4))) from rfl]
    simpa [List.append_assoc] using h0
  · exact doc_sealed hl (hs (by decide)) rfl (.inl rfl) hK hG hN (num_part (b := b) (i := 8) (k := 8) (z := 0) p2 (by omega)) f7
  · exact doc_sealed hl (hs (by decide)) rfl (.inr rfl) hK hG hN (num_part (b := b) (i := 8) (k := 8) (z := 0) p2 (by omega)) f7
/-- The other way: the page of a right, placed node is decoded. -/
theorem page_form {k q : Nat} {x : Nd} (hq : tr (k : Int) 4 8 8 = (q : Int)) (hq4 : 4 ≤ q) (hq8 : q ≤ 8) (h : RightN (k : Int) x) (hu : anyU x.its = false) (h1 : x.its.length ≤ 1000) (h2 : x.kds.length ≤ 1000) :
    FormOk k q (isLf (pageB k x)) (hdN (pageB k x)) (hdX (pageB k x)) (bodyOf (pageB k x)) x := by
  have hroom := h.room
  have hgen := h.1
  have hcap : 0 ≤ tr (k : Int) 248 240 240 := by rcases gen_three hgen with rfl | rfl | rfl <;> decide
  have hk : kindOk ((if x.leaf = true then 76 else 66 : Nat) : Int) = true := by cases x.leaf <;> rfl
  obtain ⟨hs, hsl⟩ := wrapP_shape (k := if x.leaf = true then 76 else 66) (g := k) (n := if x.leaf = true then x.its.length else x.kds.length) (x := 0) (body := x.its.flatMap (serI k) ++ x.kds.flatMap (serK k)) hk hgen (by split <;> omega) (by decide) (Nat.pow_pos (by decide)) (by omega)
  rw [← pageB_wrap] at hs hsl
  obtain ⟨f1, f2, f3, f4, f5, f6, f7⟩ := hs.facts
  have hlf : isLf (pageB k x) = x.leaf := by
    unfold isLf
    rw [f2]
    cases x.leaf <;> rfl
  rw [hlf, f5, f6, f7]
  exact form_ser hq hq4 hq8 h hu
/-- So the document decodes just what the program does, and as the same node. -/
theorem doc_dec {b : Bytes} {q : Nat} (hq : tr (hdG b) 4 8 8 = (q : Int)) (hq4 : 4 ≤ q) (hq8 : q ≤ 8) (hn : nhE b = 0) : (∀ x, FormOk (hdG b) q (isLf b) (hdN b) (hdX b) (bodyOf b) x → DecOk b ∧ x = dcN b) ∧ (DecOk b → FormOk (hdG b) q (isLf b) (hdN b) (hdX b) (bodyOf b) (dcN b)) := by
  refine ⟨fun x hx => ?_, fun h => ?_⟩
  · obtain ⟨e, h1, h2, h3, h4⟩ := doc_page hq hn hx
    obtain ⟨g1, g2, g3, g4⟩ := page_back h1 h2 h3 h4
    rw [← e] at g1 g3
    exact ⟨g1, g3.symm⟩
  · obtain ⟨d1, d2, ⟨d3, d4⟩, d5⟩ := h
    have hb : (bodyOf b).length ≤ 256 := by
      unfold bodyOf
      split
      · rename_i h; rw [List.length_drop]; omega
      · simp
    obtain ⟨l1, l2, _⟩ := rd_few hb d2
    have h := page_form hq hq4 hq8 d3 d4 l1 l2
    rwa [d5] at h
end Go.Proofs.YtoghojgajpfkkaaGreatDoor
