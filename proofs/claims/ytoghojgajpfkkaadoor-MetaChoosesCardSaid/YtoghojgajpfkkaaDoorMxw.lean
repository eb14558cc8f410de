/-
  MetaChooses: the walk.
-/
import Derived.Test.YtoghojgajpfkkaaDoorMcd
import Derived.Test.YtoghojgajpfkkaaDoorMdw
set_option linter.unusedVariables false
namespace Go.Proofs.YtoghojgajpfkkaaDoor
open Go.RowKit

section
variable (w : World) (hG : Gens w) (A B : Option Addr) (n c m d : Nat)
include hG
set_option maxRecDepth 100000 in
set_option maxHeartbeats 3200000 in
theorem mxw_out (h : 1000 < n ∨ 1000 < m) : Calls Tryd.prog 9 #[.slice A n c, .slice B m d] w (Told w (.bool true)) := by
  have HAL : Hid (∀ W, Only (w.heap.size ≤ ·) w W → Calls Tryd.prog 25 #[] W (Told W (.bool true))) := Lib.hid fun W hW => malive_c W (hG.later hW)
  have HO : Hid (Only (w.heap.size ≤ ·) w w) := Lib.hid (Only.refl _ _)
  clear hG
  by_cases hn : 1000 < n
  · have h1i : (1000 : Int) < (n : Int) := by omega
    clear h hn
    go_enter Tryd.func9, Tryd.ntmps9
    go_wp2_with (go_at_call 25; (with_reducible refine (HAL.out _ HO.out).mono ?_); rintro ee w9 ⟨rfl, ho⟩; (replace HO := Lib.hid (on_new HO.out ho)); clear ho)
    go_ret
    exact ⟨rfl, HO.out⟩
  · have h1i : ¬ (1000 : Int) < (n : Int) := by omega
    have h2i : (1000 : Int) < (m : Int) := by omega
    clear h hn
    go_enter Tryd.func9, Tryd.ntmps9
    go_wp2_with (go_at_call 25; (with_reducible refine (HAL.out _ HO.out).mono ?_); rintro ee w9 ⟨rfl, ho⟩; (replace HO := Lib.hid (on_new HO.out ho)); clear ho)
    go_ret
    exact ⟨rfl, HO.out⟩
set_option maxRecDepth 100000 in
set_option maxHeartbeats 6400000 in
theorem mxw_go (hn : ¬ 1000 < n) (hm : ¬ 1000 < m) (M : List Int) (X : Bytes) (at' z : Int) (hC : ∀ W, Only (w.heap.size ≤ ·) w W → Calls Tryd.prog 35 #[.slice A n c, .slice B m d] W (fun e w' => ∃ (g ph t x r p l : Int) (A : Option Addr) (n c : Nat), M = [g, ph, t, x, r, p, l] ∧ n = X.length ∧ e = .returned (.tuple #[.agg #[.int .i64 g, .int .i64 ph, .int .i64 t, .int .i64 x, .int .i64 r, .int .i64 p, .int .i64 l, .slice A n c], .int .i64 at', .int .i64 z]) ∧ Src w' (.slice A n c) X ∧ Only (W.heap.size ≤ ·) W w')) (hR : ∀ W, Only (w.heap.size ≤ ·) w W → Calls Tryd.prog 36 #[.slice A n c, .slice B m d] W (fun e w' => ∃ (g ph t x r p l : Int) (A : Option Addr) (n c : Nat), M = [g, ph, t, x, r, p, l] ∧ n = X.length ∧ e = .returned (.tuple #[.agg #[.int .i64 g, .int .i64 ph, .int .i64 t, .int .i64 x, .int .i64 r, .int .i64 p, .int .i64 l, .slice A n c], .int .i64 at', .int .i64 z]) ∧ Src w' (.slice A n c) X ∧ Only (W.heap.size ≤ ·) W w')) : Calls Tryd.prog 9 #[.slice A n c, .slice B m d] w (Told w (.bool true)) := by
  have HAL : Hid (∀ W, Only (w.heap.size ≤ ·) w W → Calls Tryd.prog 25 #[] W (Told W (.bool true))) := Lib.hid fun W hW => malive_c W (hG.later hW)
  have HO : Hid (Only (w.heap.size ≤ ·) w w) := Lib.hid (Only.refl _ _)
  have HCH := Lib.hid hC
  have HRC := Lib.hid hR
  have h1i : ¬ (1000 : Int) < (n : Int) := by omega
  have h2i : ¬ (1000 : Int) < (m : Int) := by omega
  clear hG hn hm hC hR
  go_enter Tryd.func9, Tryd.ntmps9
  go_upto_region 4 with (go_at_call 35; (with_reducible refine (HCH.out _ HO.out).mono ?_); rintro ee w3 ⟨g, ph, t, x, r, p, l, A1, n1, c1, hM, hn1, rfl, hnw, ho⟩; have HM := Lib.hid hM; have HN1 := Lib.hid hn1; have HS1 : Hid (Src (w3.alloc (.cells #[.int .i64 g, .int .i64 ph, .int .i64 t, .int .i64 x, .int .i64 r, .int .i64 p, .int .i64 l, .slice A1 n1 c1] 53)) (.slice A1 n1 c1) X) := Lib.hid (hnw.later ((Only.refl (w3.heap.size ≤ ·) w3).alloc (fun _ h => h) _)); have HB1 : Hid (Blk (w3.alloc (.cells #[.int .i64 g, .int .i64 ph, .int .i64 t, .int .i64 x, .int .i64 r, .int .i64 p, .int .i64 l, .slice A1 n1 c1] 53)) w3.heap.size 53 [.int .i64 g, .int .i64 ph, .int .i64 t, .int .i64 x, .int .i64 r, .int .i64 p, .int .i64 l, .slice A1 n1 c1]) := Lib.hid (Blk.new w3 53 _); (replace ho := ho.alloc (fun _ h => h) (.cells #[.int .i64 g, .int .i64 ph, .int .i64 t, .int .i64 x, .int .i64 r, .int .i64 p, .int .i64 l, .slice A1 n1 c1] 53)); (replace HO := Lib.hid (on_new HO.out ho)); clear ho hM hn1 hnw)
  go_upto_region 5 with (go_at_call 36; (with_reducible refine (HRC.out _ HO.out).mono ?_); rintro ee w4 ⟨g', ph', t', x', r', p', l', A2, n2, c2, hM, hn2, rfl, hs2, ho⟩; (have hq := HM.out.symm.trans hM); (simp only [List.cons.injEq, and_true] at hq); (obtain ⟨rfl, rfl, rfl, rfl, rfl, rfl, rfl⟩ := hq); (obtain rfl : n2 = n1 := hn2.trans HN1.out.symm); have HS2 : Hid (Src (w4.alloc (.cells #[.int .i64 g, .int .i64 ph, .int .i64 t, .int .i64 x, .int .i64 r, .int .i64 p, .int .i64 l, .slice A2 n2 c2] 52)) (.slice A2 n2 c2) X) := Lib.hid (hs2.later ((Only.refl (w4.heap.size ≤ ·) w4).alloc (fun _ h => h) _)); have HB2 : Hid (Blk (w4.alloc (.cells #[.int .i64 g, .int .i64 ph, .int .i64 t, .int .i64 x, .int .i64 r, .int .i64 p, .int .i64 l, .slice A2 n2 c2] 52)) w4.heap.size 52 [.int .i64 g, .int .i64 ph, .int .i64 t, .int .i64 x, .int .i64 r, .int .i64 p, .int .i64 l, .slice A2 n2 c2]) := Lib.hid (Blk.new w4 52 _); (replace ho := ho.alloc (fun _ h => h) (.cells #[.int .i64 g, .int .i64 ph, .int .i64 t, .int .i64 x, .int .i64 r, .int .i64 p, .int .i64 l, .slice A2 n2 c2] 52)); (replace HS1 := Lib.hid (HS1.out.later ho)); (replace HB1 := Lib.hid (HB1.out.later ho)); (replace HO := Lib.hid (on_new HO.out ho)); clear ho hM hn2 hs2)
  (obtain ⟨i0, i1, i2, i3, i4, i5, i6, i7⟩ := HB1.out.eight); (obtain ⟨j0, j1, j2, j3, j4, j5, j6, j7⟩ := HB2.out.eight)
  go_wp2_with (first
    | (go_at_call 25; (with_reducible refine (HAL.out _ HO.out).mono ?_); rintro ee w9 ⟨rfl, ho⟩; (replace HS1 := Lib.hid (HS1.out.later ho)); (replace HB1 := Lib.hid (HB1.out.later ho)); (replace HS2 := Lib.hid (HS2.out.later ho)); (replace HB2 := Lib.hid (HB2.out.later ho)); (replace HO := Lib.hid (on_new HO.out ho)); clear ho i0 i1 i2 i3 i4 i5 i6 i7 j0 j1 j2 j3 j4 j5 j6 j7; (obtain ⟨i0, i1, i2, i3, i4, i5, i6, i7⟩ := HB1.out.eight); (obtain ⟨j0, j1, j2, j3, j4, j5, j6, j7⟩ := HB2.out.eight))
    | (go_at_call 33; (with_reducible refine (rmSame_eq _ g ph t x r p l A1 A2 n2 c1 c2 X HS1.out HS2.out).mono ?_); rintro ee w5 ⟨rfl, ho⟩; (replace HS1 := Lib.hid (HS1.out.later ho)); (replace HB1 := Lib.hid (HB1.out.later ho)); (replace HO := Lib.hid (on_new HO.out ho)); clear ho i0 i1 i2 i3 i4 i5 i6 i7 j0 j1 j2 j3 j4 j5 j6 j7; (obtain ⟨i0, i1, i2, i3, i4, i5, i6, i7⟩ := HB1.out.eight)))
  go_ret
  exact ⟨rfl, HO.out⟩
end
theorem mcho_c (w : World) (hG : Gens w) (A B : Option Addr) (n c m d : Nat) (a b : Bytes) (ha : Src w (.slice A n c) a) (hb : Src w (.slice B m d) b) (hn : n = a.length) (hm : m = b.length) : Calls Tryd.prog 9 #[.slice A n c, .slice B m d] w (Told w (.bool true)) := by
  by_cases h1 : 1000 < n
  · exact mxw_out w hG A B n c m d (.inl h1)
  by_cases h2 : 1000 < m
  · exact mxw_out w hG A B n c m d (.inr h2)
  obtain ⟨e1, e2, e3, e4⟩ := doc_choose a b
  refine mxw_go w hG A B n c m d h1 h2 (mdC a b).N (mdC a b).X (mdC a b).at_ (whyZ (mdC a b)) (fun W hW => ?_) (fun W hW => ?_)
  · refine (MChoose_c W _ _ a b (hG.later hW) (ha.later hW) (hb.later hW) (by omega) (by omega)).mono ?_
    rintro e w' ⟨g, ph, t, x, r, p, l, A', n', c', hM, hn', rfl, hw, ho⟩
    exact ⟨g, ph, t, x, r, p, l, A', n', c', hM, hn', rfl, hw.src, ho⟩
  · refine (rmChoose_c W _ _ a b (ha.later hW) (hb.later hW)).mono ?_
    rintro e w' ⟨g, ph, t, x, r, p, l, A', n', c', hM, hn', rfl, hw, ho⟩
    rw [← e1] at hM
    rw [← e2] at hn' hw
    rw [← e3, ← e4]
    exact ⟨g, ph, t, x, r, p, l, A', n', c', hM, hn', rfl, hw, ho⟩
end Go.Proofs.YtoghojgajpfkkaaDoor
