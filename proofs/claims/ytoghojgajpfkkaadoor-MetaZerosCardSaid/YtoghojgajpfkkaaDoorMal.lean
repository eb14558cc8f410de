/-
  Metas: alive.
-/
import Derived.Test.YtoghojgajpfkkaaDoorMch
set_option linter.unusedVariables false
namespace Go.Proofs.YtoghojgajpfkkaaDoor
open Go.RowKit

def aE1 : Bytes := encB [1, 0, 0, 1, 2, 3, 0] []
def aE2 : Bytes := aE1.set 100 1
theorem aE1_ok : okL [1, 0, 0, 1, 2, 3, 0] 0 = true := by decide +kernel
theorem aE1_len : aE1.length = 256 := by decide +kernel
theorem aE1_at : aE1[100]? = some 0 := by decide +kernel
theorem aE1_dE : mdE aE1 = 0 := by decide +kernel
theorem aE1_dM : (rG2 aE1).2 = [1, 0, 0, 1, 2, 3, 0] := by decide +kernel
theorem aE1_dX : rCursor aE1 = [] := by decide +kernel
theorem nil_dE : mdE [] = 90 := by decide +kernel
theorem aE2_dE : mdE aE2 = 91 := by decide +kernel
theorem aE2_len : aE2.length = 256 := by decide +kernel
theorem aC1 : mdC [] aE1 = ⟨[1, 0, 0, 1, 2, 3, 0], [], 1, 92⟩ := by
  unfold mdC mdM mdX
  rw [aE1_dE, aE1_dM, aE1_dX, nil_dE]
  rfl
theorem aC2 : mdC [] aE2 = ⟨[0, 0, 0, 0, 0, 0, 0], [], -1, 92⟩ := by
  unfold mdC mdM mdX
  rw [aE2_dE, nil_dE]
  rfl
theorem src_nil (W : World) {A : Option Addr} {c : Nat} {w : World} (h : Src w (.slice A 0 c) []) : Src W (.slice A 0 c) [] := by
  obtain ⟨A', c', e, _, h1, h2, h3⟩ := h
  simp only [Value.slice.injEq] at e
  obtain ⟨rfl, _, rfl⟩ := e
  exact ⟨_, _, rfl, Txt.nil_ _ _, h1, h2, h3⟩
/-- A byte of an own row, written. -/
theorem own_byte {w : World} {B n i : Nat} {v : Value} {xs : Bytes} {x : UInt8} (h : w.ownsRow B 5 1 v n (cb xs)) (hx : xs[i]? = some x) : ∃ g cap, v = .slice (some ⟨g, 0, none⟩) n cap ∧ B ≤ g ∧ g < w.heap.size ∧ n ≤ cap ∧ w.cell? ⟨g, i, none⟩ = some (.int .u8 x.toNat) ∧ w.frozen? ⟨g, i, none⟩ = false ∧
    ∀ y : UInt8, Src (w.setCell ⟨g, i, none⟩ (.int .u8 y.toNat)) v (xs.set i y) := by
  obtain ⟨hl, h | ⟨g, cap, cur, rfl, hB, hc, hn, hm, hsz, ht⟩⟩ := h
  · obtain ⟨_, h0⟩ := h
    rw [cb_length, h0] at hl
    rw [List.eq_nil_of_length_eq_zero (by omega : xs.length = 0)] at hx
    cases hx
  · rw [cb_length, Nat.mul_one] at hl
    rw [Nat.mul_one] at ht hsz
    have hcur : cur.toList = cb xs ++ cur.toList.drop n := by rw [← ht, List.take_append_drop]
    have hb : Blk w g 5 (cb xs ++ cur.toList.drop n) := by
      show w.heap[g]? = some (.cells _ _ _)
      rw [← hcur, hc]
    have hi : i < xs.length := (List.getElem?_eq_some_iff.1 hx).1
    have hi2 : i < (cb xs).length := by rw [cb_length]; exact hi
    refine ⟨g, cap, rfl, hB, hb.lt, hn, ?_, hb.frozen i, fun y => ?_⟩
    · rw [hb.cell i, List.getElem?_append_left hi2]
      unfold cb
      rw [List.getElem?_map, hx]
      rfl
    · have h2 := hb.set_ i (.int .u8 y.toNat)
      rw [List.set_append_left _ _ hi2] at h2
      have h3 : (cb xs).set i (.int .u8 y.toNat) = cb (xs.set i y) := by
        unfold cb
        rw [List.map_set]
      rw [h3] at h2
      refine ⟨_, cap, by rw [List.length_set, hl], ?_, (fun e => by cases e), by rw [List.length_set, hl]; exact hn, by simp only [maxLen] at hm; omega⟩
      have h4 := Txt.blk (A := some ⟨g, 0, none⟩) h2 0 (xs.set i y).length (by omega) (fun _ => rfl)
      rwa [List.drop_zero, List.take_length] at h4
theorem enc_lit (W : World) (hG : Gens W) : Calls Tryd.prog 26 #[.agg #[.int .i64 1, .int .i64 0, .int .i64 0, .int .i64 1, .int .i64 2, .int .i64 3, .int .i64 0, .slice none 0 0]] W (GaveBO W aE1 0) := by
  refine MEncode_own W 1 0 0 1 2 3 0 none 0 0 hG [] (Src.nil_ _) rfl ?_ aE1_ok (mC_out _ _ _)
  intro u hu
  simp only [List.mem_cons, List.not_mem_nil, or_false] at hu
  unfold I64
  omega
theorem dec_lit (W : World) (v : Value) (hG : Gens W) (hs : Src W v aE1) : Calls Tryd.prog 32 #[v] W (fun e w' => ∃ A c, e = .returned (.tuple #[.agg #[.int .i64 1, .int .i64 0, .int .i64 0, .int .i64 1, .int .i64 2, .int .i64 3, .int .i64 0, .slice A 0 c], .int .i64 0]) ∧ Src w' (.slice A 0 c) [] ∧ Only (W.heap.size ≤ ·) W w') := by
  refine (MDecode_c W v aE1 hG hs (by rw [aE1_len]; decide)).mono ?_
  unfold mdM mdX
  rw [aE1_dE, if_pos rfl, if_pos rfl, aE1_dM, aE1_dX]
  rintro e w' ⟨g, ph, t, x, r, p, l, A, n, c, hM, hn, rfl, hw, ho⟩
  simp only [List.cons.injEq, and_true] at hM
  obtain ⟨rfl, rfl, rfl, rfl, rfl, rfl, rfl⟩ := hM
  obtain rfl : n = 0 := hn
  exact ⟨A, c, rfl, hw.src, ho⟩
theorem cho_lit1 (W : World) (v : Value) (hG : Gens W) (hs : Src W v aE1) : Calls Tryd.prog 35 #[.slice none 0 0, v] W (fun e w' => ∃ A c, e = .returned (.tuple #[.agg #[.int .i64 1, .int .i64 0, .int .i64 0, .int .i64 1, .int .i64 2, .int .i64 3, .int .i64 0, .slice A 0 c], .int .i64 1, .int .i64 0]) ∧ Src w' (.slice A 0 c) [] ∧ Only (W.heap.size ≤ ·) W w') := by
  refine (MChoose_c W (.slice none 0 0) v [] aE1 hG (Src.nil_ _) hs (by decide) (by rw [aE1_len]; decide)).mono ?_
  rw [aC1]
  rintro e w' ⟨g, ph, t, x, r, p, l, A, n, c, hM, hn, rfl, hw, ho⟩
  simp only [List.cons.injEq, and_true] at hM
  obtain ⟨rfl, rfl, rfl, rfl, rfl, rfl, rfl⟩ := hM
  obtain rfl : n = 0 := hn
  exact ⟨A, c, rfl, hw.src, ho⟩
theorem cho_lit2 (W : World) (v : Value) (hG : Gens W) (hs : Src W v aE2) : Calls Tryd.prog 35 #[.slice none 0 0, v] W (fun e w' => ∃ A c, e = .returned (.tuple #[.agg #[.int .i64 0, .int .i64 0, .int .i64 0, .int .i64 0, .int .i64 0, .int .i64 0, .int .i64 0, .slice A 0 c], .int .i64 (-1), .int .i64 92]) ∧ Src w' (.slice A 0 c) [] ∧ Only (W.heap.size ≤ ·) W w') := by
  refine (MChoose_c W (.slice none 0 0) v [] aE2 hG (Src.nil_ _) hs (by decide) (by rw [aE2_len]; decide)).mono ?_
  rw [aC2]
  rintro e w' ⟨g, ph, t, x, r, p, l, A, n, c, hM, hn, rfl, hw, ho⟩
  simp only [List.cons.injEq, and_true] at hM
  obtain ⟨rfl, rfl, rfl, rfl, rfl, rfl, rfl⟩ := hM
  obtain rfl : n = 0 := hn
  exact ⟨A, c, rfl, hw.src, ho⟩
set_option maxRecDepth 100000 in
set_option maxHeartbeats 12800000 in
theorem malive_c (w : World) (hG : Gens w) : Calls Tryd.prog 25 #[] w (Told w (.bool true)) := by
  have HG := Lib.hid hG
  obtain ⟨w1, hw1⟩ : ∃ W0, W0 = w.alloc (.cells #[.int .i64 1, .int .i64 0, .int .i64 0, .int .i64 1, .int .i64 2, .int .i64 3, .int .i64 0, .slice none 0 0] 53) := ⟨_, rfl⟩
  have HO : Hid (Only (w.heap.size ≤ ·) w w1) := Lib.hid (by rw [hw1]; exact (Only.refl _ w).alloc (fun _ h => h) _)
  have HM : Hid (Blk w1 w.heap.size 53 [.int .i64 1, .int .i64 0, .int .i64 0, .int .i64 1, .int .i64 2, .int .i64 3, .int .i64 0, .slice none 0 0]) := Lib.hid (by rw [hw1]; exact Blk.new w 53 _)
  have HL1 : Hid (w.heap.size < w1.heap.size) := Lib.hid HM.out.lt
  clear hG
  obtain ⟨i0, i1, i2, i3, i4, i5, i6, i7⟩ := HM.out.eight
  go_enter Tryd.func25, Tryd.ntmps25
  go_upto_region 2 with (fail)
  rw [← hw1]
  clear hw1
  go_upto_region 3 with (go_at_call 26; (with_reducible refine (enc_lit _ (HG.out.later HO.out)).mono ?_); rintro ee w2 ⟨v2, rfl, hown, ho⟩; have HW := Lib.hid hown; (replace HM := Lib.hid (HM.out.later ho)); (replace HO := Lib.hid (on_new HO.out ho)); clear ho hown i0 i1 i2 i3 i4 i5 i6 i7)
  rw [aE1_len] at HW
  have HWS : Hid (Src w2 v2 aE1) := Lib.hid (by have h := HW.out; rw [show (256 : Nat) = aE1.length from aE1_len.symm] at h; exact Src.own h)
  obtain ⟨gb, cap, hv, hB, hlt, hcap, _⟩ := own_byte (i := 100) HW.out aE1_at
  subst hv
  have HGB : Hid (w1.heap.size ≤ gb ∧ gb < w2.heap.size ∧ 256 ≤ cap) := Lib.hid ⟨hB, hlt, hcap⟩
  clear hB hlt hcap
  go_upto_region 4 with (go_at_call 32; (with_reducible refine (dec_lit _ _ (HG.out.later HO.out) HWS.out).mono ?_); rintro ee w3 ⟨AN, cn, rfl, hsn, ho⟩; have HSN := Lib.hid hsn; have HN : Hid (Blk (w3.alloc (.cells #[.int .i64 1, .int .i64 0, .int .i64 0, .int .i64 1, .int .i64 2, .int .i64 3, .int .i64 0, .slice AN 0 cn] 53)) w3.heap.size 53 [.int .i64 1, .int .i64 0, .int .i64 0, .int .i64 1, .int .i64 2, .int .i64 3, .int .i64 0, .slice AN 0 cn]) := Lib.hid (Blk.new w3 53 _); have ho2 := ho.alloc (fun _ h => h) (.cells #[.int .i64 1, .int .i64 0, .int .i64 0, .int .i64 1, .int .i64 2, .int .i64 3, .int .i64 0, .slice AN 0 cn] 53); (replace HM := Lib.hid (HM.out.later ho2)); (replace HW := Lib.hid (own_later HW.out ho2)); (replace HWS := Lib.hid (HWS.out.later ho2)); have HZ3 : Hid (w2.heap.size ≤ w3.heap.size) := Lib.hid ho.size; (replace HO := Lib.hid (on_new HO.out ho2)); clear ho ho2 hsn)
  go_upto_region 5 with (go_at_call 35; (with_reducible refine (cho_lit1 _ _ (HG.out.later HO.out) HWS.out).mono ?_); rintro ee w4 ⟨AC, cc, rfl, hsn, ho⟩; have HSC := Lib.hid hsn; have HC : Hid (Blk (w4.alloc (.cells #[.int .i64 1, .int .i64 0, .int .i64 0, .int .i64 1, .int .i64 2, .int .i64 3, .int .i64 0, .slice AC 0 cc] 53)) w4.heap.size 53 [.int .i64 1, .int .i64 0, .int .i64 0, .int .i64 1, .int .i64 2, .int .i64 3, .int .i64 0, .slice AC 0 cc]) := Lib.hid (Blk.new w4 53 _); have ho2 := ho.alloc (fun _ h => h) (.cells #[.int .i64 1, .int .i64 0, .int .i64 0, .int .i64 1, .int .i64 2, .int .i64 3, .int .i64 0, .slice AC 0 cc] 53); (replace HM := Lib.hid (HM.out.later ho2)); have HZ4 : Hid (w3.heap.size < w4.heap.size) := Lib.hid (Nat.lt_of_lt_of_le HN.out.lt ho.size); (replace HN := Lib.hid (HN.out.later ho2)); (replace HW := Lib.hid (own_later HW.out ho2)); (replace HWS := Lib.hid (HWS.out.later ho2)); (replace HO := Lib.hid (on_new HO.out ho2)); clear ho ho2 hsn)
  obtain ⟨w5, hw5⟩ : ∃ y, y = w4.alloc (.cells #[.int .i64 1, .int .i64 0, .int .i64 0, .int .i64 1, .int .i64 2, .int .i64 3, .int .i64 0, .slice AC 0 cc] 53) := ⟨_, rfl⟩
  rw [← hw5] at HC HM HN HW HO HWS
  rw [← hw5]
  clear hw5
  obtain ⟨gb2, cap2, hv, _, _, _, c100, f100, hset⟩ := own_byte (i := 100) HW.out aE1_at
  simp only [Value.slice.injEq, Option.some.injEq, Addr.mk.injEq, true_and, and_true] at hv
  obtain ⟨rfl, rfl⟩ := hv
  have HS2 : Hid (Src (w5.setCell ⟨gb, 100, none⟩ (.int .u8 1)) (.slice (some ⟨gb, 0, none⟩) 256 cap) aE2) := Lib.hid (hset 1)
  clear hset
  have hc1 : (256 : Int) ≤ (cap : Int) := by have := HGB.out; omega
  have HRT : Hid (∀ W, Gens W → Calls Tryd.prog 28 #[.agg #[.int .i64 1, .int .i64 0, .int .i64 0, .int .i64 1, .int .i64 2, .int .i64 3, .int .i64 0, .slice none 0 0]] W (Told W (.bool true))) := Lib.hid fun W hW => by have h := MRight_c W 1 0 0 1 2 3 0 none 0 0 hW; rwa [show okM 1 0 0 1 2 3 0 0 = true from aE1_ok] at h
  have HWT : Hid (∀ W, Calls Tryd.prog 30 #[.agg #[.int .i64 1, .int .i64 0, .int .i64 0, .int .i64 1, .int .i64 2, .int .i64 3, .int .i64 0, .slice none 0 0]] W (Told W (.int .i64 1))) := Lib.hid fun W => MWrite_c W 1 0 0 1 2 3 0 none 0 0
  have HSL : Hid (∀ W, Calls Tryd.prog 37 #[.int .i64 5] W fun e w' => e = .returned (.int .i64 1) ∧ W = w') := Lib.hid fun W => by have h := MSlot_c W 5; rwa [show bits .and .i64 5 1 = 1 from by decide] at h
  go_upto_region 8 with (fail)
  obtain ⟨W6, hW6⟩ : ∃ y, y = w5.setCell ⟨gb, 100, none⟩ (.int .u8 1) := ⟨_, rfl⟩
  have HOG : Hid (Only (· = gb) w5 W6) := Lib.hid (by rw [hW6]; exact Only.setCell (F := (· = gb)) (p := ⟨gb, 100, none⟩) (Only.refl _ w5) rfl _)
  rw [← hW6] at HS2
  rw [← hW6]
  replace HM := Lib.hid (HM.out.only HOG.out (by have := HGB.out; have := HL1.out; omega))
  replace HN := Lib.hid (HN.out.only HOG.out (by have := HGB.out; have := HZ3.out; omega))
  replace HC := Lib.hid (HC.out.only HOG.out (by have := HGB.out; have := HZ3.out; have := HZ4.out; omega))
  replace HO : Hid (Only (w.heap.size ≤ ·) w W6) := Lib.hid (HO.out.trans (HOG.out.mono fun j hj => by have := HGB.out; have := HL1.out; omega))
  clear hW6 c100 f100 hc1
  go_upto_region 9 with (go_at_call 35; (with_reducible refine (cho_lit2 _ _ (HG.out.later HO.out) HS2.out).mono ?_); rintro ee w6 ⟨AO, co, rfl, hsn, ho⟩; have ho2 := ho.alloc (fun _ h => h) (.cells #[.int .i64 0, .int .i64 0, .int .i64 0, .int .i64 0, .int .i64 0, .int .i64 0, .int .i64 0, .slice AO 0 co] 53); (replace HM := Lib.hid (HM.out.later ho2)); (replace HN := Lib.hid (HN.out.later ho2)); (replace HC := Lib.hid (HC.out.later ho2)); (replace HO := Lib.hid (on_new HO.out ho2)); clear ho ho2 hsn)
  (obtain ⟨i0, i1, i2, i3, i4, i5, i6, i7⟩ := HM.out.eight); (obtain ⟨j0, j1, j2, j3, j4, j5, j6, j7⟩ := HN.out.eight); (obtain ⟨k0, k1, k2, k3, k4, k5, k6, k7⟩ := HC.out.eight)
  go_wp2_with (first
    | (go_at_call 31; (with_reducible refine (MSame_c _ 1 0 0 1 2 3 0 1 0 0 1 2 3 0 none AN 0 0 0 cn true (by decide) true (fun W _ => Equal_b W _ _ [] [] true (Src.nil_ _) (src_nil W HSN.out) rfl)).mono ?_); rintro ee w7 ⟨rfl, ho⟩; (replace HM := Lib.hid (HM.out.later ho)); (replace HN := Lib.hid (HN.out.later ho)); (replace HC := Lib.hid (HC.out.later ho)); (replace HO := Lib.hid (on_new HO.out ho)); clear ho i0 i1 i2 i3 i4 i5 i6 i7 j0 j1 j2 j3 j4 j5 j6 j7 k0 k1 k2 k3 k4 k5 k6 k7; (obtain ⟨i0, i1, i2, i3, i4, i5, i6, i7⟩ := HM.out.eight); (obtain ⟨j0, j1, j2, j3, j4, j5, j6, j7⟩ := HN.out.eight); (obtain ⟨k0, k1, k2, k3, k4, k5, k6, k7⟩ := HC.out.eight))
    | (go_at_call 31; (with_reducible refine (MSame_c _ 1 0 0 1 2 3 0 1 0 0 1 2 3 0 AC none 0 cc 0 0 true (by decide) true (fun W _ => Equal_b W _ _ [] [] true (src_nil W HSC.out) (Src.nil_ _) rfl)).mono ?_); rintro ee w7 ⟨rfl, ho⟩; (replace HM := Lib.hid (HM.out.later ho)); (replace HN := Lib.hid (HN.out.later ho)); (replace HC := Lib.hid (HC.out.later ho)); (replace HO := Lib.hid (on_new HO.out ho)); clear ho i0 i1 i2 i3 i4 i5 i6 i7 j0 j1 j2 j3 j4 j5 j6 j7 k0 k1 k2 k3 k4 k5 k6 k7; (obtain ⟨i0, i1, i2, i3, i4, i5, i6, i7⟩ := HM.out.eight); (obtain ⟨j0, j1, j2, j3, j4, j5, j6, j7⟩ := HN.out.eight); (obtain ⟨k0, k1, k2, k3, k4, k5, k6, k7⟩ := HC.out.eight))
    | (go_at_call 28; (with_reducible refine (HRT.out _ (HG.out.later HO.out)).mono ?_); rintro ee w7 ⟨rfl, ho⟩; (replace HM := Lib.hid (HM.out.later ho)); (replace HN := Lib.hid (HN.out.later ho)); (replace HC := Lib.hid (HC.out.later ho)); (replace HO := Lib.hid (on_new HO.out ho)); clear ho i0 i1 i2 i3 i4 i5 i6 i7 j0 j1 j2 j3 j4 j5 j6 j7 k0 k1 k2 k3 k4 k5 k6 k7; (obtain ⟨i0, i1, i2, i3, i4, i5, i6, i7⟩ := HM.out.eight); (obtain ⟨j0, j1, j2, j3, j4, j5, j6, j7⟩ := HN.out.eight); (obtain ⟨k0, k1, k2, k3, k4, k5, k6, k7⟩ := HC.out.eight))
    | (go_at_call 30; (with_reducible refine (HWT.out _).mono ?_); rintro ee w7 ⟨rfl, ho⟩; (replace HM := Lib.hid (HM.out.later ho)); (replace HN := Lib.hid (HN.out.later ho)); (replace HC := Lib.hid (HC.out.later ho)); (replace HO := Lib.hid (on_new HO.out ho)); clear ho i0 i1 i2 i3 i4 i5 i6 i7 j0 j1 j2 j3 j4 j5 j6 j7 k0 k1 k2 k3 k4 k5 k6 k7; (obtain ⟨i0, i1, i2, i3, i4, i5, i6, i7⟩ := HM.out.eight); (obtain ⟨j0, j1, j2, j3, j4, j5, j6, j7⟩ := HN.out.eight); (obtain ⟨k0, k1, k2, k3, k4, k5, k6, k7⟩ := HC.out.eight))
    | (go_at_call 37; (with_reducible refine (HSL.out _).mono ?_); rintro ee w7 ⟨rfl, rfl⟩))
  go_ret
  exact ⟨rfl, HO.out⟩
end Go.Proofs.YtoghojgajpfkkaaDoor
