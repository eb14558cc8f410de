/-
  MetaDecodes: the walk.
-/
import Derived.Test.YtoghojgajpfkkaaDoorMdr
import Derived.Test.YtoghojgajpfkkaaDoorMnw
set_option linter.unusedVariables false
namespace Go.Proofs.YtoghojgajpfkkaaDoor
open Go.RowKit

section
variable (w : World) (hG : Gens w) (A : Option Addr) (n c : Nat)
include hG
set_option maxRecDepth 100000 in
set_option maxHeartbeats 3200000 in
theorem mdw_out (hn : 1000 < n) : Calls Tryd.prog 8 #[.slice A n c] w (Told w (.bool true)) := by
  have HAL : Hid (∀ W, Only (w.heap.size ≤ ·) w W → Calls Tryd.prog 25 #[] W (Told W (.bool true))) := Lib.hid fun W hW => malive_c W (hG.later hW)
  have HO : Hid (Only (w.heap.size ≤ ·) w w) := Lib.hid (Only.refl _ _)
  have h1i : (1000 : Int) < (n : Int) := by omega
  clear hG hn
  go_enter Tryd.func8, Tryd.ntmps8
  go_wp2_with (go_at_call 25; (with_reducible refine (HAL.out _ HO.out).mono ?_); rintro ee w9 ⟨rfl, ho⟩; (replace HO := Lib.hid (on_new HO.out ho)); clear ho)
  go_ret
  exact ⟨rfl, HO.out⟩
set_option maxRecDepth 100000 in
set_option maxHeartbeats 6400000 in
theorem mdw_no (hn : ¬ 1000 < n) (M : List Int) (X : Bytes) (z : Int) (hDE : ∀ W, Only (w.heap.size ≤ ·) w W → Calls Tryd.prog 32 #[.slice A n c] W (GaveME W M X z)) (hRD : ∀ W, Only (w.heap.size ≤ ·) w W → Calls Tryd.prog 34 #[.slice A n c] W (GaveRD W M X z)) (hz : z ≠ 0) : Calls Tryd.prog 8 #[.slice A n c] w (Told w (.bool true)) := by
  have HAL : Hid (∀ W, Only (w.heap.size ≤ ·) w W → Calls Tryd.prog 25 #[] W (Told W (.bool true))) := Lib.hid fun W hW => malive_c W (hG.later hW)
  have HO : Hid (Only (w.heap.size ≤ ·) w w) := Lib.hid (Only.refl _ _)
  have HDE := Lib.hid hDE
  have HRD := Lib.hid hRD
  have h1i : ¬ (1000 : Int) < (n : Int) := by omega
  have bz : (z != 0) = true := by rw [bne_iff_ne]; exact hz
  clear hG hn hDE hRD hz
  go_enter Tryd.func8, Tryd.ntmps8
  go_upto_region 4 with (go_at_call 32; (with_reducible refine (HDE.out _ HO.out).mono ?_); rintro ee w3 ⟨g, ph, t, x, r, p, l, A1, n1, c1, hM, hn1, rfl, hnw, ho⟩; have HM := Lib.hid hM; have HN1 := Lib.hid hn1; have HS1 : Hid (Src (w3.alloc (.cells #[.int .i64 g, .int .i64 ph, .int .i64 t, .int .i64 x, .int .i64 r, .int .i64 p, .int .i64 l, .slice A1 n1 c1] 53)) (.slice A1 n1 c1) X) := Lib.hid (hnw.src.later ((Only.refl (w3.heap.size ≤ ·) w3).alloc (fun _ h => h) _)); have HB1 : Hid (Blk (w3.alloc (.cells #[.int .i64 g, .int .i64 ph, .int .i64 t, .int .i64 x, .int .i64 r, .int .i64 p, .int .i64 l, .slice A1 n1 c1] 53)) w3.heap.size 53 [.int .i64 g, .int .i64 ph, .int .i64 t, .int .i64 x, .int .i64 r, .int .i64 p, .int .i64 l, .slice A1 n1 c1]) := Lib.hid (Blk.new w3 53 _); (replace ho := ho.alloc (fun _ h => h) (.cells #[.int .i64 g, .int .i64 ph, .int .i64 t, .int .i64 x, .int .i64 r, .int .i64 p, .int .i64 l, .slice A1 n1 c1] 53)); (replace HO := Lib.hid (on_new HO.out ho)); clear ho hM hn1 hnw)
  go_upto_region 5 with (go_at_call 34; (with_reducible refine (HRD.out _ HO.out).mono ?_); rintro ee w4 ⟨g', ph', t', x', r', p', l', A2, n2, c2, hM, hn2, rfl, hs2, ho⟩; (have hq := HM.out.symm.trans hM); (simp only [List.cons.injEq, and_true] at hq); (obtain ⟨rfl, rfl, rfl, rfl, rfl, rfl, rfl⟩ := hq); (obtain rfl : n2 = n1 := hn2.trans HN1.out.symm); have HS2 : Hid (Src (w4.alloc (.cells #[.int .i64 g, .int .i64 ph, .int .i64 t, .int .i64 x, .int .i64 r, .int .i64 p, .int .i64 l, .slice A2 n2 c2] 52)) (.slice A2 n2 c2) X) := Lib.hid (hs2.later ((Only.refl (w4.heap.size ≤ ·) w4).alloc (fun _ h => h) _)); have HB2 : Hid (Blk (w4.alloc (.cells #[.int .i64 g, .int .i64 ph, .int .i64 t, .int .i64 x, .int .i64 r, .int .i64 p, .int .i64 l, .slice A2 n2 c2] 52)) w4.heap.size 52 [.int .i64 g, .int .i64 ph, .int .i64 t, .int .i64 x, .int .i64 r, .int .i64 p, .int .i64 l, .slice A2 n2 c2]) := Lib.hid (Blk.new w4 52 _); (replace ho := ho.alloc (fun _ h => h) (.cells #[.int .i64 g, .int .i64 ph, .int .i64 t, .int .i64 x, .int .i64 r, .int .i64 p, .int .i64 l, .slice A2 n2 c2] 52)); (replace HS1 := Lib.hid (HS1.out.later ho)); (replace HB1 := Lib.hid (HB1.out.later ho)); (replace HO := Lib.hid (on_new HO.out ho)); clear ho hM hn2 hs2)
  (obtain ⟨i0, i1, i2, i3, i4, i5, i6, i7⟩ := HB1.out.eight); (obtain ⟨j0, j1, j2, j3, j4, j5, j6, j7⟩ := HB2.out.eight)
  go_wp2_with (first
    | (go_at_call 33; (with_reducible refine (rmSame_eq _ g ph t x r p l A1 A2 n2 c1 c2 X HS1.out HS2.out).mono ?_); rintro ee w5 ⟨rfl, ho⟩; (replace HS1 := Lib.hid (HS1.out.later ho)); (replace HB1 := Lib.hid (HB1.out.later ho)); (replace HO := Lib.hid (on_new HO.out ho)); clear ho i0 i1 i2 i3 i4 i5 i6 i7 j0 j1 j2 j3 j4 j5 j6 j7; (obtain ⟨i0, i1, i2, i3, i4, i5, i6, i7⟩ := HB1.out.eight))
    | (go_at_call 25; (with_reducible refine (HAL.out _ HO.out).mono ?_); rintro ee w9 ⟨rfl, ho⟩; (replace HO := Lib.hid (on_new HO.out ho)); clear ho))
  go_ret
  exact ⟨rfl, HO.out⟩
set_option maxRecDepth 100000 in
set_option maxHeartbeats 6400000 in
theorem mdw_yes (hn : ¬ 1000 < n) (M : List Int) (X : Bytes) (hDE : ∀ W, Only (w.heap.size ≤ ·) w W → Calls Tryd.prog 32 #[.slice A n c] W (GaveME W M X 0)) (hRD : ∀ W, Only (w.heap.size ≤ ·) w W → Calls Tryd.prog 34 #[.slice A n c] W (GaveRD W M X 0)) (b : Bytes) (hs : Src w (.slice A n c) b)
    (hEN : ∀ W g ph t x r p l A2 n2 c2, M = [g, ph, t, x, r, p, l] → n2 = X.length → Only (w.heap.size ≤ ·) w W → Src W (.slice A2 n2 c2) X → Calls Tryd.prog 26 #[.agg #[.int .i64 g, .int .i64 ph, .int .i64 t, .int .i64 x, .int .i64 r, .int .i64 p, .int .i64 l, .slice A2 n2 c2]] W (GaveBE W b 0)) : Calls Tryd.prog 8 #[.slice A n c] w (Told w (.bool true)) := by
  have HAL : Hid (∀ W, Only (w.heap.size ≤ ·) w W → Calls Tryd.prog 25 #[] W (Told W (.bool true))) := Lib.hid fun W hW => malive_c W (hG.later hW)
  have HO : Hid (Only (w.heap.size ≤ ·) w w) := Lib.hid (Only.refl _ _)
  have HDE := Lib.hid hDE
  have HRD := Lib.hid hRD
  have h1i : ¬ (1000 : Int) < (n : Int) := by omega
  have HEN := Lib.hid hEN
  have HSB : Hid (∀ W, Only (w.heap.size ≤ ·) w W → Src W (.slice A n c) b) := Lib.hid fun W hW => hs.later hW
  clear hG hn hDE hRD hEN hs
  go_enter Tryd.func8, Tryd.ntmps8
  go_upto_region 4 with (go_at_call 32; (with_reducible refine (HDE.out _ HO.out).mono ?_); rintro ee w3 ⟨g, ph, t, x, r, p, l, A1, n1, c1, hM, hn1, rfl, hnw, ho⟩; have HM := Lib.hid hM; have HN1 := Lib.hid hn1; have HS1 : Hid (Src (w3.alloc (.cells #[.int .i64 g, .int .i64 ph, .int .i64 t, .int .i64 x, .int .i64 r, .int .i64 p, .int .i64 l, .slice A1 n1 c1] 53)) (.slice A1 n1 c1) X) := Lib.hid (hnw.src.later ((Only.refl (w3.heap.size ≤ ·) w3).alloc (fun _ h => h) _)); have HB1 : Hid (Blk (w3.alloc (.cells #[.int .i64 g, .int .i64 ph, .int .i64 t, .int .i64 x, .int .i64 r, .int .i64 p, .int .i64 l, .slice A1 n1 c1] 53)) w3.heap.size 53 [.int .i64 g, .int .i64 ph, .int .i64 t, .int .i64 x, .int .i64 r, .int .i64 p, .int .i64 l, .slice A1 n1 c1]) := Lib.hid (Blk.new w3 53 _); (replace ho := ho.alloc (fun _ h => h) (.cells #[.int .i64 g, .int .i64 ph, .int .i64 t, .int .i64 x, .int .i64 r, .int .i64 p, .int .i64 l, .slice A1 n1 c1] 53)); (replace HO := Lib.hid (on_new HO.out ho)); clear ho hM hn1 hnw)
  go_upto_region 5 with (go_at_call 34; (with_reducible refine (HRD.out _ HO.out).mono ?_); rintro ee w4 ⟨g', ph', t', x', r', p', l', A2, n2, c2, hM, hn2, rfl, hs2, ho⟩; (have hq := HM.out.symm.trans hM); (simp only [List.cons.injEq, and_true] at hq); (obtain ⟨rfl, rfl, rfl, rfl, rfl, rfl, rfl⟩ := hq); (obtain rfl : n2 = n1 := hn2.trans HN1.out.symm); have HS2 : Hid (Src (w4.alloc (.cells #[.int .i64 g, .int .i64 ph, .int .i64 t, .int .i64 x, .int .i64 r, .int .i64 p, .int .i64 l, .slice A2 n2 c2] 52)) (.slice A2 n2 c2) X) := Lib.hid (hs2.later ((Only.refl (w4.heap.size ≤ ·) w4).alloc (fun _ h => h) _)); have HB2 : Hid (Blk (w4.alloc (.cells #[.int .i64 g, .int .i64 ph, .int .i64 t, .int .i64 x, .int .i64 r, .int .i64 p, .int .i64 l, .slice A2 n2 c2] 52)) w4.heap.size 52 [.int .i64 g, .int .i64 ph, .int .i64 t, .int .i64 x, .int .i64 r, .int .i64 p, .int .i64 l, .slice A2 n2 c2]) := Lib.hid (Blk.new w4 52 _); (replace ho := ho.alloc (fun _ h => h) (.cells #[.int .i64 g, .int .i64 ph, .int .i64 t, .int .i64 x, .int .i64 r, .int .i64 p, .int .i64 l, .slice A2 n2 c2] 52)); (replace HS1 := Lib.hid (HS1.out.later ho)); (replace HB1 := Lib.hid (HB1.out.later ho)); (replace HO := Lib.hid (on_new HO.out ho)); clear ho hM hn2 hs2)
  (obtain ⟨i0, i1, i2, i3, i4, i5, i6, i7⟩ := HB1.out.eight); (obtain ⟨j0, j1, j2, j3, j4, j5, j6, j7⟩ := HB2.out.eight)
  go_wp2_with (first
    | (go_at_call 33; (with_reducible refine (rmSame_eq _ g ph t x r p l A1 A2 n2 c1 c2 X HS1.out HS2.out).mono ?_); rintro ee w5 ⟨rfl, ho⟩; (replace HS1 := Lib.hid (HS1.out.later ho)); (replace HB1 := Lib.hid (HB1.out.later ho)); (replace HO := Lib.hid (on_new HO.out ho)); clear ho i0 i1 i2 i3 i4 i5 i6 i7 j0 j1 j2 j3 j4 j5 j6 j7; (obtain ⟨i0, i1, i2, i3, i4, i5, i6, i7⟩ := HB1.out.eight))
    | (go_at_call 26; (with_reducible refine (HEN.out _ g ph t x r p l A1 n2 c1 HM.out HN1.out HO.out HS1.out).mono ?_); rintro ee w6 ⟨v6, rfl, hv6, ho⟩; have HV6 := Lib.hid hv6; (replace HO := Lib.hid (on_new HO.out ho)); clear ho hv6)
    | (go_at_call 25; (with_reducible refine (HAL.out _ HO.out).mono ?_); rintro ee w9 ⟨rfl, ho⟩; (replace HV6 := Lib.hid (HV6.out.later ho)); (replace HO := Lib.hid (on_new HO.out ho)); clear ho)
    | (go_at_call 22; (with_reducible refine (Equal_b _ _ _ b b true HV6.out (HSB.out _ HO.out) (decide_eq_true rfl)).mono ?_); rintro ee w' ⟨rfl, rfl⟩))
  go_ret
  exact ⟨rfl, HO.out⟩
end
theorem mdec_c (w : World) (hG : Gens w) (A : Option Addr) (n c : Nat) (b : Bytes) (hs : Src w (.slice A n c) b) (hne : n = b.length) : Calls Tryd.prog 8 #[.slice A n c] w (Told w (.bool true)) := by
  by_cases hn : 1000 < n
  · exact mdw_out w hG A n c hn
  have hDE : ∀ W, Only (w.heap.size ≤ ·) w W → Calls Tryd.prog 32 #[.slice A n c] W (GaveME W (mdM b) (mdX b) (mdE b)) := fun W hW => MDecode_c W _ b (hG.later hW) (hs.later hW) (by omega)
  have hRD : ∀ W, Only (w.heap.size ≤ ·) w W → Calls Tryd.prog 34 #[.slice A n c] W (GaveRD W (mdM b) (mdX b) (mdE b)) := fun W hW => rmDecode_c W _ b (hs.later hW)
  by_cases hz : mdE b = 0
  · obtain ⟨G, PH, T, X, R, P, L, k, hM, hN, hok, henc⟩ := md_ok hz
    have hI : ∀ u ∈ mdM b, I64 u := by
      rw [hM]
      have h1 := hN.hG
      have h2 := hN.hPH
      have h3 := hN.hT
      have h4 := hN.hX
      have h5 := hN.hP
      have h6 := hN.hR
      have h7 := hN.hL
      intro u hu
      simp only [List.mem_cons, List.not_mem_nil, or_false] at hu
      unfold I64
      rcases hu with rfl | rfl | rfl | rfl | rfl | rfl | rfl <;> omega
    rw [hz] at hDE hRD
    refine mdw_yes w hG A n c hn _ _ hDE hRD b hs fun W g ph t x r p l A2 n2 c2 hM2 hn2 hW hS => ?_
    have h := MEncode_l W (mdM b) (mdX b) hI (hG.later hW) g ph t x r p l A2 n2 c2 hM2 hn2 hS
    rwa [if_pos hok, if_pos hok, henc] at h
  · exact mdw_no w hG A n c hn _ _ _ hDE hRD hz
end Go.Proofs.YtoghojgajpfkkaaDoor
