/-
  Metas: alive.
-/
import Derived.Test.YtopaponemjaenaaDoorMch
set_option linter.unusedVariables false
namespace Go.Proofs.YtopaponemjaenaaDoor
open Go.RowKit

def aE1 : Bytes := encB [1, 0, 0, 1, 2, 3, 0] []
def aE2 : Bytes := aE1.set 100 1
theorem aE1_ok : okL [1, 0, 0, 1, 2, 3, 0] 0 = true := by decide +kernel
theorem aE1_len : aE1.length = 256 := by decide +kernel
theorem aE1_at : aE1[100]? = some 0 := by decide +kernel
theorem aE1_dE : mdE aE1 = 0 := by decide +kernel
theorem aE1_dM : (rG2 aE1).2 = [1, 0, 0, 1, 2, 3, 0] := by decide +kernel
theorem aE1_dX : rCursor aE1 = [] := by decide +kernel
theorem nil_dE : mdE [] = 90 := by decide +kernel
theorem aE2_dE : mdE aE2 = 91 := by decide +kernel
theorem aE2_len : aE2.length = 256 := by decide +kernel
theorem aC1 : mdC [] aE1 = ⟨[1, 0, 0, 1, 2, 3, 0], [], 1, 92⟩ := by
  unfold mdC mdM mdX
  rw [aE1_dE, aE1_dM, aE1_dX, nil_dE]
  rfl
theorem aC2 : mdC [] aE2 = ⟨[0, 0, 0, 0, 0, 0, 0], [], -1, 92⟩ := by
  unfold mdC mdM mdX
  rw [aE2_dE, nil_dE]
  rfl
theorem src_nil (W : World) {A : Option Addr} {c : Nat} {w : World} (h : Src w (.slice A 0 c) []) : Src W (.slice A 0 c) [] := by
  obtain ⟨A', c', e, _, h1, h2, h3⟩ := h
  simp only [Value.slice.injEq] at e
  obtain ⟨rfl, _, rfl⟩ := e
  exact ⟨_, _, rfl, Txt.nil_ _ _, h1, h2, h3⟩
/-- A byte of an own row, written. -/
theorem own_byte {w : World} {B n i : Nat} {v : Value} {xs : Bytes} {x : UInt8} (h : w.ownsRow B 5 1 v n (cb xs)) (hx : xs[i]? = some x) : ∃ g cap, v = .slice (some ⟨g, 0, none⟩) n cap ∧ B ≤ g ∧ g < w.heap.size ∧ n ≤ cap ∧ w.cell? ⟨g, i, none⟩ = some (.int .u8 x.toNat) ∧ w.frozen? ⟨g, i, none⟩ = false ∧
    ∀ y : UInt8, Src (w.setCell ⟨g, i, none⟩ (.int .u8 y.toNat)) v (xs.set i y) := by
  obtain ⟨hl, h | ⟨g, cap, cur, rfl, hB, hc, hn, hm, hsz, ht⟩⟩ := h
  · obtain ⟨_, h0⟩ := h
    rw [cb_length, h0] at hl
    rw [List.eq_nil_of_length_eq_zero (by omega : xs.length = 0)] at hx
    cases hx
  · rw [cb_length, Nat.mul_one] at hl
    rw [Nat.mul_one] at ht hsz
    have hcur : cur.toList = cb xs ++ cur.toList.drop n := by rw [← ht, List.take_append_drop]
    have hb : Blk w g 5 (cb xs ++ cur.toList.drop n) := by
      show w.heap[g]? = some (.cells _ _ _)
      rw [← hcur, hc]
    have hi : i < xs.length := (List.getElem?_eq_some_iff.1 hx).1
    have hi2 : i < (cb xs).length := by rw [cb_length]; exact hi
    refine ⟨g, cap, rfl, hB, hb.lt, hn, ?_, hb.frozen i, fun y => ?_⟩
    · rw [hb.cell i, List.getElem?_append_left hi2]
      unfold cb
      rw [List.getElem?_map, hx]
      rfl
    · have h2 := hb.set_ i (.int .u8 y.toNat)
      rw [List.set_append_left _ _ hi2] at h2
      have h3 : (cb xs).set i (.int .u8 y.toNat) = cb (xs.set i y) := by
        unfold cb
        rw [List.map_set]
      rw [h3] at h2
      refine ⟨_, cap, by rw [List.length_set, hl], ?_, (fun e => by cases e), by rw [List.length_set, hl]; exact hn, by simp only [maxLen] at hm; omega⟩
      have h4 := Txt.blk (A := some ⟨g, 0, none⟩) h2 0 (xs.set i y).length (by omega) (fun _ => rfl)
      rwa [List.drop_zero, List.take_length] at h4
theorem enc_lit (W : World) (hG : Gens W) : Calls Tryd.prog 55 #[.agg #[.int .i64 1, .int .i64 0, .int .i64 0, .int .i64 1, .int .i64 2, .int .i64 3, .int .i64 0, .slice none 0 0]] W (GaveBO W aE1 0) := by
  refine MEncode_own W 1 0 0 1 2 3 0 none 0 0 hG [] (Src.nil_ _) rfl ?_ aE1_ok (mC_out _ _ _)
  intro u hu
  simp only [List.mem_cons, List.not_mem_nil, or_false] at hu
  unfold I64
  omega
theorem dec_lit (W : World) (v : Value) (hG : Gens W) (hs : Src W v aE1) : Calls Tryd.prog 60 #[v] W (fun e w' => ∃ A c, e = .returned (.tuple #[.agg #[.int .i64 1, .int .i64 0, .int .i64 0, .int .i64 1, .int .i64 2, .int .i64 3, .int .i64 0, .slice A 0 c], .int .i64 0]) ∧ Src w' (.slice A 0 c) [] ∧ Only (W.heap.size ≤ ·) W w') := by
  refine (MDecode_c W v aE1 hG hs (by rw [aE1_len]; decide)).mono ?_
  unfold mdM mdX
  rw [aE1_dE, if_pos rfl, if_pos rfl, aE1_dM, aE1_dX]
  rintro e w' ⟨g, ph, t, x, r, p, l, A, n, c, hM, hn, rfl, hw, ho⟩
  simp only [List.cons.injEq, and_true] at hM
  obtain ⟨rfl, rfl, rfl, rfl, rfl, rfl, rfl⟩ := hM
  obtain rfl : n = 0 := hn
  exact ⟨A, c, rfl, hw.src, ho⟩
theorem cho_lit1 (W : World) (v : Value) (hG : Gens W) (hs : Src W v aE1) : Calls Tryd.prog 41 #[.slice none 0 0, v] W (fun e w' => ∃ A c, e = .returned (.tuple #[.agg #[.int .i64 1, .int .i64 0, .int .i64 0, .int .i64 1, .int .i64 2, .int .i64 3, .int .i64 0, .slice A 0 c], .int .i64 1, .int .i64 0]) ∧ Src w' (.slice A 0 c) [] ∧ Only (W.heap.size ≤ ·) W w') := by
  refine (MChoose_c W (.slice none 0 0) v [] aE1 hG (Src.nil_ _) hs (by decide) (by rw [aE1_len]; decide)).mono ?_
  rw [aC1]
  rintro e w' ⟨g, ph, t, x, r, p, l, A, n, c, hM, hn, rfl, hw, ho⟩
  simp only [List.cons.injEq, and_true] at hM
  obtain ⟨rfl, rfl, rfl, rfl, rfl, rfl, rfl⟩ := hM
  obtain rfl : n = 0 := hn
  exact ⟨A, c, rfl, hw.src, ho⟩
theorem cho_lit2 (W : World) (v : Value) (hG : Gens W) (hs : Src W v aE2) : Calls Tryd.prog 41 #[.slice none 0 0, v] W (fun e w' => ∃ A c, e = .returned (.tuple #[.agg #[.int .i64 0, .int .i64 0, .int .i64 0, .int .i64 0, .int .i64 0, .int .i64 0, .int .i64 0, .slice A 0 c], .int .i64 (-1), .int .i64 92]) ∧ Src w' (.slice A 0 c) [] ∧ Only (W.heap.size ≤ ·) W w') := by
  refine (MChoose_c W (.slice none 0 0) v [] aE2 hG (Src.nil_ _) hs (by decide) (by rw [aE2_len]; decide)).mono ?_
  rw [aC2]
  rintro e w' ⟨g, ph, t, x, r, p, l, A, n, c, hM, hn, rfl, hw, ho⟩
  simp only [List.cons.injEq, and_true] at hM
  obtain ⟨rfl, rfl, rfl, rfl, rfl, rfl, rfl⟩ := hM
  obtain rfl : n = 0 := hn
  exact ⟨A, c, rfl, hw.src, ho⟩
end Go.Proofs.YtopaponemjaenaaDoor
