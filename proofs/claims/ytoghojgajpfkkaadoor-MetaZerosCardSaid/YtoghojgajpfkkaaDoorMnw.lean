/-
  MetaNewer: the walk.
-/
import Derived.Test.YtoghojgajpfkkaaDoorMag
import Derived.Test.YtoghojgajpfkkaaDoorMpl
set_option linter.unusedVariables false
namespace Go.Proofs.YtoghojgajpfkkaaDoor
open Go.RowKit

theorem rmSame_eq (w : World) (g ph t x r p l : Int) (A B : Option Addr) (n c d : Nat) (xs : Bytes) (hx : Src w (.slice A n c) xs) (hy : Src w (.slice B n d) xs) :
    Calls Tryd.prog 33 #[.agg #[.int .i64 g, .int .i64 ph, .int .i64 t, .int .i64 x, .int .i64 r, .int .i64 p, .int .i64 l, .slice A n c], .agg #[.int .i64 g, .int .i64 ph, .int .i64 t, .int .i64 x, .int .i64 r, .int .i64 p, .int .i64 l, .slice B n d]] w (Told w (.bool true)) := by
  have h := rmSame_c w g ph t x r p l g ph t x r p l A B n c n d xs xs hx hy
  rwa [decide_eq_true rfl, decide_eq_true rfl] at h
section
variable (w : World) (hG : Gens w) (g ph t r p l g' ph' t' r' p' l' : Int) (k k' : Nat) (A B : Option Addr) (n c m d : Nat)
include hG
set_option maxRecDepth 100000 in
set_option maxHeartbeats 12800000 in
theorem newer_out (x x' : Int) (PA PB : Bytes) (ea eb : Int) (hEA : ∀ W, Only (w.heap.size ≤ ·) w W → Calls Tryd.prog 26 #[.agg #[.int .i64 g, .int .i64 ph, .int .i64 t, .int .i64 x, .int .i64 r, .int .i64 p, .int .i64 l, .slice A n c]] W (GaveBE W PA ea)) (hEB : ∀ W, Only (w.heap.size ≤ ·) w W → Calls Tryd.prog 26 #[.agg #[.int .i64 g', .int .i64 ph', .int .i64 t', .int .i64 x', .int .i64 r', .int .i64 p', .int .i64 l', .slice B m d]] W (GaveBE W PB eb))
    (h : ea ≠ 0 ∨ (ea = 0 ∧ (eb ≠ 0 ∨ (eb = 0 ∧ (bits .and .i64 x 1 ≠ 0 ∨ (bits .and .i64 x 1 = 0 ∧ bits .and .i64 x' 1 ≠ 1)))))) : Calls Tryd.prog 12 #[.agg #[.int .i64 g, .int .i64 ph, .int .i64 t, .int .i64 x, .int .i64 r, .int .i64 p, .int .i64 l, .slice A n c], .agg #[.int .i64 g', .int .i64 ph', .int .i64 t', .int .i64 x', .int .i64 r', .int .i64 p', .int .i64 l', .slice B m d]] w (Told w (.bool true)) := by
  obtain ⟨w1, hw1⟩ : ∃ W0, W0 = (w.alloc (.cells #[.int .i64 g, .int .i64 ph, .int .i64 t, .int .i64 x, .int .i64 r, .int .i64 p, .int .i64 l, .slice A n c] 52)).alloc (.cells #[.int .i64 g', .int .i64 ph', .int .i64 t', .int .i64 x', .int .i64 r', .int .i64 p', .int .i64 l', .slice B m d] 52) := ⟨_, rfl⟩
  have HO : Hid (Only (w.heap.size ≤ ·) w w1) := Lib.hid (by rw [hw1]; exact ((Only.refl _ w).alloc (fun _ h => h) _).alloc (fun _ h => h) _)
  have HA : Hid (Blk w1 w.heap.size 52 [.int .i64 g, .int .i64 ph, .int .i64 t, .int .i64 x, .int .i64 r, .int .i64 p, .int .i64 l, .slice A n c]) := Lib.hid (by rw [hw1]; exact (Blk.new w 52 _).alloc _)
  have HB : Hid (Blk w1 (w.heap.size + 1) 52 [.int .i64 g', .int .i64 ph', .int .i64 t', .int .i64 x', .int .i64 r', .int .i64 p', .int .i64 l', .slice B m d]) := Lib.hid (by
    rw [hw1]
    have := Blk.new (w.alloc (.cells #[.int .i64 g, .int .i64 ph, .int .i64 t, .int .i64 x, .int .i64 r, .int .i64 p, .int .i64 l, .slice A n c] 52)) 52 [.int .i64 g', .int .i64 ph', .int .i64 t', .int .i64 x', .int .i64 r', .int .i64 p', .int .i64 l', .slice B m d]
    simpa using this)
  have HAL : Hid (∀ W, Only (w.heap.size ≤ ·) w W → Calls Tryd.prog 25 #[] W (Told W (.bool true))) := Lib.hid fun W hW => malive_c W (hG.later hW)
  have HSL : Hid (∀ W (z : Int), Calls Tryd.prog 37 #[.int .i64 z] W fun e w' => e = .returned (.int .i64 (bits .and .i64 z 1)) ∧ W = w') := Lib.hid fun W z => MSlot_c W z
  have HEA := Lib.hid hEA
  have HEB := Lib.hid hEB
  clear hG hEA hEB
  rcases h with h | ⟨rfl, h | ⟨rfl, h | ⟨h1, h⟩⟩⟩
  · have hb : (ea != 0) = true := by rw [bne_iff_ne]; exact h
    clear h
    (obtain ⟨i0, i1, i2, i3, i4, i5, i6, i7⟩ := HA.out.eight); (obtain ⟨j0, j1, j2, j3, j4, j5, j6, j7⟩ := HB.out.eight)
    go_enter Tryd.func12, Tryd.ntmps12
    go_upto_region 1 with (fail)
    rw [← hw1]
    clear hw1
    clear i0 i1 i2 i3 i4 i5 i6 i7
    (obtain ⟨i0, i1, i2, i3, i4, i5, i6, i7⟩ := HA.out.eight)
    go_upto_region 2 with (go_at_call 26; (with_reducible refine (HEA.out _ HO.out).mono ?_); rintro ee w2 ⟨va, rfl, hsa, ho⟩; have HVA := Lib.hid hsa; (replace HA := Lib.hid (HA.out.later ho)); (replace HB := Lib.hid (HB.out.later ho)); (replace HO := Lib.hid (on_new HO.out ho)); clear ho hsa)
    clear i0 i1 i2 i3 i4 i5 i6 i7 j0 j1 j2 j3 j4 j5 j6 j7
    (obtain ⟨j0, j1, j2, j3, j4, j5, j6, j7⟩ := HB.out.eight)
    go_upto_region 3 with (go_at_call 26; (with_reducible refine (HEB.out _ HO.out).mono ?_); rintro ee w2 ⟨vb, rfl, hsb, ho⟩; have HVB := Lib.hid hsb; (replace HA := Lib.hid (HA.out.later ho)); (replace HB := Lib.hid (HB.out.later ho)); (replace HVA := Lib.hid (HVA.out.later ho)); (replace HO := Lib.hid (on_new HO.out ho)); clear ho hsb)
    clear j0 j1 j2 j3 j4 j5 j6 j7
    (obtain ⟨i0, i1, i2, i3, i4, i5, i6, i7⟩ := HA.out.eight); (obtain ⟨j0, j1, j2, j3, j4, j5, j6, j7⟩ := HB.out.eight)
    go_wp2_with (first
      | (go_at_call 37; (with_reducible refine (HSL.out _ _).mono ?_); rintro ee w' ⟨rfl, rfl⟩)
      | (go_at_call 25; (with_reducible refine (HAL.out _ HO.out).mono ?_); rintro ee w9 ⟨rfl, ho⟩; (replace HA := Lib.hid (HA.out.later ho)); (replace HB := Lib.hid (HB.out.later ho)); (replace HO := Lib.hid (on_new HO.out ho)); clear ho))
    go_ret
    exact ⟨rfl, HO.out⟩
  · have hb : (eb != 0) = true := by rw [bne_iff_ne]; exact h
    clear h
    (obtain ⟨i0, i1, i2, i3, i4, i5, i6, i7⟩ := HA.out.eight); (obtain ⟨j0, j1, j2, j3, j4, j5, j6, j7⟩ := HB.out.eight)
    go_enter Tryd.func12, Tryd.ntmps12
    go_upto_region 1 with (fail)
    rw [← hw1]
    clear hw1
    clear i0 i1 i2 i3 i4 i5 i6 i7
    (obtain ⟨i0, i1, i2, i3, i4, i5, i6, i7⟩ := HA.out.eight)
    go_upto_region 2 with (go_at_call 26; (with_reducible refine (HEA.out _ HO.out).mono ?_); rintro ee w2 ⟨va, rfl, hsa, ho⟩; have HVA := Lib.hid hsa; (replace HA := Lib.hid (HA.out.later ho)); (replace HB := Lib.hid (HB.out.later ho)); (replace HO := Lib.hid (on_new HO.out ho)); clear ho hsa)
    clear i0 i1 i2 i3 i4 i5 i6 i7 j0 j1 j2 j3 j4 j5 j6 j7
    (obtain ⟨j0, j1, j2, j3, j4, j5, j6, j7⟩ := HB.out.eight)
    go_upto_region 3 with (go_at_call 26; (with_reducible refine (HEB.out _ HO.out).mono ?_); rintro ee w2 ⟨vb, rfl, hsb, ho⟩; have HVB := Lib.hid hsb; (replace HA := Lib.hid (HA.out.later ho)); (replace HB := Lib.hid (HB.out.later ho)); (replace HVA := Lib.hid (HVA.out.later ho)); (replace HO := Lib.hid (on_new HO.out ho)); clear ho hsb)
    clear j0 j1 j2 j3 j4 j5 j6 j7
    (obtain ⟨i0, i1, i2, i3, i4, i5, i6, i7⟩ := HA.out.eight); (obtain ⟨j0, j1, j2, j3, j4, j5, j6, j7⟩ := HB.out.eight)
    go_wp2_with (first
      | (go_at_call 37; (with_reducible refine (HSL.out _ _).mono ?_); rintro ee w' ⟨rfl, rfl⟩)
      | (go_at_call 25; (with_reducible refine (HAL.out _ HO.out).mono ?_); rintro ee w9 ⟨rfl, ho⟩; (replace HA := Lib.hid (HA.out.later ho)); (replace HB := Lib.hid (HB.out.later ho)); (replace HO := Lib.hid (on_new HO.out ho)); clear ho))
    go_ret
    exact ⟨rfl, HO.out⟩
  · have hb : (bits .and .i64 x 1 != 0) = true := by rw [bne_iff_ne]; exact h
    clear h
    (obtain ⟨i0, i1, i2, i3, i4, i5, i6, i7⟩ := HA.out.eight); (obtain ⟨j0, j1, j2, j3, j4, j5, j6, j7⟩ := HB.out.eight)
    go_enter Tryd.func12, Tryd.ntmps12
    go_upto_region 1 with (fail)
    rw [← hw1]
    clear hw1
    clear i0 i1 i2 i3 i4 i5 i6 i7
    (obtain ⟨i0, i1, i2, i3, i4, i5, i6, i7⟩ := HA.out.eight)
    go_upto_region 2 with (go_at_call 26; (with_reducible refine (HEA.out _ HO.out).mono ?_); rintro ee w2 ⟨va, rfl, hsa, ho⟩; have HVA := Lib.hid hsa; (replace HA := Lib.hid (HA.out.later ho)); (replace HB := Lib.hid (HB.out.later ho)); (replace HO := Lib.hid (on_new HO.out ho)); clear ho hsa)
    clear i0 i1 i2 i3 i4 i5 i6 i7 j0 j1 j2 j3 j4 j5 j6 j7
    (obtain ⟨j0, j1, j2, j3, j4, j5, j6, j7⟩ := HB.out.eight)
    go_upto_region 3 with (go_at_call 26; (with_reducible refine (HEB.out _ HO.out).mono ?_); rintro ee w2 ⟨vb, rfl, hsb, ho⟩; have HVB := Lib.hid hsb; (replace HA := Lib.hid (HA.out.later ho)); (replace HB := Lib.hid (HB.out.later ho)); (replace HVA := Lib.hid (HVA.out.later ho)); (replace HO := Lib.hid (on_new HO.out ho)); clear ho hsb)
    clear j0 j1 j2 j3 j4 j5 j6 j7
    (obtain ⟨i0, i1, i2, i3, i4, i5, i6, i7⟩ := HA.out.eight); (obtain ⟨j0, j1, j2, j3, j4, j5, j6, j7⟩ := HB.out.eight)
    go_wp2_with (first
      | (go_at_call 37; (with_reducible refine (HSL.out _ _).mono ?_); rintro ee w' ⟨rfl, rfl⟩)
      | (go_at_call 25; (with_reducible refine (HAL.out _ HO.out).mono ?_); rintro ee w9 ⟨rfl, ho⟩; (replace HA := Lib.hid (HA.out.later ho)); (replace HB := Lib.hid (HB.out.later ho)); (replace HO := Lib.hid (on_new HO.out ho)); clear ho))
    go_ret
    exact ⟨rfl, HO.out⟩
  · have hb : (bits .and .i64 x' 1 != 1) = true := by rw [bne_iff_ne]; exact h
    clear h
    (obtain ⟨i0, i1, i2, i3, i4, i5, i6, i7⟩ := HA.out.eight); (obtain ⟨j0, j1, j2, j3, j4, j5, j6, j7⟩ := HB.out.eight)
    go_enter Tryd.func12, Tryd.ntmps12
    go_upto_region 1 with (fail)
    rw [← hw1]
    clear hw1
    clear i0 i1 i2 i3 i4 i5 i6 i7
    (obtain ⟨i0, i1, i2, i3, i4, i5, i6, i7⟩ := HA.out.eight)
    go_upto_region 2 with (go_at_call 26; (with_reducible refine (HEA.out _ HO.out).mono ?_); rintro ee w2 ⟨va, rfl, hsa, ho⟩; have HVA := Lib.hid hsa; (replace HA := Lib.hid (HA.out.later ho)); (replace HB := Lib.hid (HB.out.later ho)); (replace HO := Lib.hid (on_new HO.out ho)); clear ho hsa)
    clear i0 i1 i2 i3 i4 i5 i6 i7 j0 j1 j2 j3 j4 j5 j6 j7
    (obtain ⟨j0, j1, j2, j3, j4, j5, j6, j7⟩ := HB.out.eight)
    go_upto_region 3 with (go_at_call 26; (with_reducible refine (HEB.out _ HO.out).mono ?_); rintro ee w2 ⟨vb, rfl, hsb, ho⟩; have HVB := Lib.hid hsb; (replace HA := Lib.hid (HA.out.later ho)); (replace HB := Lib.hid (HB.out.later ho)); (replace HVA := Lib.hid (HVA.out.later ho)); (replace HO := Lib.hid (on_new HO.out ho)); clear ho hsb)
    clear j0 j1 j2 j3 j4 j5 j6 j7
    (obtain ⟨i0, i1, i2, i3, i4, i5, i6, i7⟩ := HA.out.eight); (obtain ⟨j0, j1, j2, j3, j4, j5, j6, j7⟩ := HB.out.eight)
    go_wp2_with (first
      | (go_at_call 37; (with_reducible refine (HSL.out _ _).mono ?_); rintro ee w' ⟨rfl, rfl⟩)
      | (go_at_call 25; (with_reducible refine (HAL.out _ HO.out).mono ?_); rintro ee w9 ⟨rfl, ho⟩; (replace HA := Lib.hid (HA.out.later ho)); (replace HB := Lib.hid (HB.out.later ho)); (replace HO := Lib.hid (on_new HO.out ho)); clear ho))
    go_ret
    exact ⟨rfl, HO.out⟩
set_option maxRecDepth 100000 in
set_option maxHeartbeats 25600000 in
theorem newer_a (xs ys PA PB : Bytes) (hx : Src w (.slice A n c) xs) (hy : Src w (.slice B m d) ys) (hEA : ∀ W, Only (w.heap.size ≤ ·) w W → Calls Tryd.prog 26 #[.agg #[.int .i64 g, .int .i64 ph, .int .i64 t, .int .i64 (k : Nat), .int .i64 r, .int .i64 p, .int .i64 l, .slice A n c]] W (GaveBE W PA 0)) (hEB : ∀ W, Only (w.heap.size ≤ ·) w W → Calls Tryd.prog 26 #[.agg #[.int .i64 g', .int .i64 ph', .int .i64 t', .int .i64 (k' : Nat), .int .i64 r', .int .i64 p', .int .i64 l', .slice B m d]] W (GaveBE W PB 0))
    (hC1 : ∀ W v u, Only (w.heap.size ≤ ·) w W → Src W v PA → Src W u PB → Calls Tryd.prog 35 #[v, u] W (fun e w' => ∃ A c, e = .returned (.tuple #[.agg #[.int .i64 g, .int .i64 ph, .int .i64 t, .int .i64 (k : Nat), .int .i64 r, .int .i64 p, .int .i64 l, .slice A n c], .int .i64 0, .int .i64 0]) ∧ Src w' (.slice A n c) xs ∧ Only (W.heap.size ≤ ·) W w'))
    (hC2 : ∀ W v u, Only (w.heap.size ≤ ·) w W → Src W v PA → u = .slice none 0 0 → Calls Tryd.prog 35 #[v, u] W (fun e w' => ∃ A c, e = .returned (.tuple #[.agg #[.int .i64 g, .int .i64 ph, .int .i64 t, .int .i64 (k : Nat), .int .i64 r, .int .i64 p, .int .i64 l, .slice A n c], .int .i64 0, .int .i64 0]) ∧ Src w' (.slice A n c) xs ∧ Only (W.heap.size ≤ ·) W w'))
    (hC3 : ∀ W v u, Only (w.heap.size ≤ ·) w W → v = .slice none 0 0 → Src W u PB → Calls Tryd.prog 35 #[v, u] W (fun e w' => ∃ A c, e = .returned (.tuple #[.agg #[.int .i64 g', .int .i64 ph', .int .i64 t', .int .i64 (k' : Nat), .int .i64 r', .int .i64 p', .int .i64 l', .slice A m c], .int .i64 1, .int .i64 0]) ∧ Src w' (.slice A m c) ys ∧ Only (W.heap.size ≤ ·) W w'))
    (hka : k % 2 = 0) (hkb : k' % 2 = 1) (hk1 : k < 9223372036854775808) (hk2 : k' < 9223372036854775808) (hc : ¬ k < k') : Calls Tryd.prog 12 #[.agg #[.int .i64 g, .int .i64 ph, .int .i64 t, .int .i64 (k : Nat), .int .i64 r, .int .i64 p, .int .i64 l, .slice A n c], .agg #[.int .i64 g', .int .i64 ph', .int .i64 t', .int .i64 (k' : Nat), .int .i64 r', .int .i64 p', .int .i64 l', .slice B m d]] w (Told w (.bool true)) := by
  obtain ⟨w1, hw1⟩ : ∃ W0, W0 = (w.alloc (.cells #[.int .i64 g, .int .i64 ph, .int .i64 t, .int .i64 (k : Nat), .int .i64 r, .int .i64 p, .int .i64 l, .slice A n c] 52)).alloc (.cells #[.int .i64 g', .int .i64 ph', .int .i64 t', .int .i64 (k' : Nat), .int .i64 r', .int .i64 p', .int .i64 l', .slice B m d] 52) := ⟨_, rfl⟩
  have HO : Hid (Only (w.heap.size ≤ ·) w w1) := Lib.hid (by rw [hw1]; exact ((Only.refl _ w).alloc (fun _ h => h) _).alloc (fun _ h => h) _)
  have HA : Hid (Blk w1 w.heap.size 52 [.int .i64 g, .int .i64 ph, .int .i64 t, .int .i64 (k : Nat), .int .i64 r, .int .i64 p, .int .i64 l, .slice A n c]) := Lib.hid (by rw [hw1]; exact (Blk.new w 52 _).alloc _)
  have HB : Hid (Blk w1 (w.heap.size + 1) 52 [.int .i64 g', .int .i64 ph', .int .i64 t', .int .i64 (k' : Nat), .int .i64 r', .int .i64 p', .int .i64 l', .slice B m d]) := Lib.hid (by
    rw [hw1]
    have := Blk.new (w.alloc (.cells #[.int .i64 g, .int .i64 ph, .int .i64 t, .int .i64 (k : Nat), .int .i64 r, .int .i64 p, .int .i64 l, .slice A n c] 52)) 52 [.int .i64 g', .int .i64 ph', .int .i64 t', .int .i64 (k' : Nat), .int .i64 r', .int .i64 p', .int .i64 l', .slice B m d]
    simpa using this)
  have HAL : Hid (∀ W, Only (w.heap.size ≤ ·) w W → Calls Tryd.prog 25 #[] W (Told W (.bool true))) := Lib.hid fun W hW => malive_c W (hG.later hW)
  have HSL : Hid (∀ W (z : Int), Calls Tryd.prog 37 #[.int .i64 z] W fun e w' => e = .returned (.int .i64 (bits .and .i64 z 1)) ∧ W = w') := Lib.hid fun W z => MSlot_c W z
  have HEA := Lib.hid hEA
  have HEB := Lib.hid hEB
  have HC1 := Lib.hid hC1
  have HC2 := Lib.hid hC2
  have HC3 := Lib.hid hC3
  have HSA : Hid (∀ W, Only (w.heap.size ≤ ·) w W → Src W (.slice A n c) xs) := Lib.hid fun W hW => hx.later hW
  have HSB : Hid (∀ W, Only (w.heap.size ≤ ·) w W → Src W (.slice B m d) ys) := Lib.hid fun W hW => hy.later hW
  have ba : bits .and .i64 (k : Int) 1 = 0 := by rw [and_one k hk1, hka]; rfl
  have bb : bits .and .i64 (k' : Int) 1 = 1 := by rw [and_one k' hk2, hkb]; rfl
  have ta : (k : Int).tmod 2 = 0 := by rw [Int.tmod_eq_emod_of_nonneg (Int.natCast_nonneg k)]; omega
  have tb : (k' : Int).tmod 2 = 1 := by rw [Int.tmod_eq_emod_of_nonneg (Int.natCast_nonneg k')]; omega
  have hlt : ¬ (k : Int) < (k' : Int) := by omega
  clear hG hx hy hEA hEB hC1 hC2 hC3 hka hkb hk1 hk2 hc
  (obtain ⟨i0, i1, i2, i3, i4, i5, i6, i7⟩ := HA.out.eight); (obtain ⟨j0, j1, j2, j3, j4, j5, j6, j7⟩ := HB.out.eight)
  go_enter Tryd.func12, Tryd.ntmps12
  go_upto_region 1 with (fail)
  rw [← hw1]
  clear hw1
  clear i0 i1 i2 i3 i4 i5 i6 i7 j0 j1 j2 j3 j4 j5 j6 j7
  (obtain ⟨i0, i1, i2, i3, i4, i5, i6, i7⟩ := HA.out.eight)
  go_upto_region 2 with (go_at_call 26; (with_reducible refine (HEA.out _ HO.out).mono ?_); rintro ee w2 ⟨va, rfl, hsa, ho⟩; have HVA := Lib.hid hsa; (replace HA := Lib.hid (HA.out.later ho)); (replace HB := Lib.hid (HB.out.later ho)); (replace HO := Lib.hid (on_new HO.out ho)); clear ho hsa)
  clear i0 i1 i2 i3 i4 i5 i6 i7
  (obtain ⟨j0, j1, j2, j3, j4, j5, j6, j7⟩ := HB.out.eight)
  go_upto_region 3 with (go_at_call 26; (with_reducible refine (HEB.out _ HO.out).mono ?_); rintro ee w2 ⟨vb, rfl, hsb, ho⟩; have HVB := Lib.hid hsb; (replace HA := Lib.hid (HA.out.later ho)); (replace HB := Lib.hid (HB.out.later ho)); (replace HVA := Lib.hid (HVA.out.later ho)); (replace HO := Lib.hid (on_new HO.out ho)); clear ho hsb)
  clear j0 j1 j2 j3 j4 j5 j6 j7
  (obtain ⟨i0, i1, i2, i3, i4, i5, i6, i7⟩ := HA.out.eight); (obtain ⟨j0, j1, j2, j3, j4, j5, j6, j7⟩ := HB.out.eight)
  go_upto_region 5 with (go_at_call 37; (with_reducible refine (HSL.out _ _).mono ?_); rintro ee w' ⟨rfl, rfl⟩)
  clear i0 i1 i2 i3 i4 i5 i6 i7 j0 j1 j2 j3 j4 j5 j6 j7 ba bb
  go_upto_region 6 with (go_at_call 35; (with_reducible refine (HC1.out _ _ _ HO.out HVA.out HVB.out).mono ?_); rintro ee w3 ⟨A1, c1, rfl, hs1, ho⟩; have HS1 : Hid (Src (w3.alloc (.cells #[.int .i64 g, .int .i64 ph, .int .i64 t, .int .i64 (k : Nat), .int .i64 r, .int .i64 p, .int .i64 l, .slice A1 n c1] 53)) (.slice A1 n c1) _) := Lib.hid (hs1.later ((Only.refl _ _).alloc (fun _ h => h) _)); have HB1 : Hid (Blk (w3.alloc (.cells #[.int .i64 g, .int .i64 ph, .int .i64 t, .int .i64 (k : Nat), .int .i64 r, .int .i64 p, .int .i64 l, .slice A1 n c1] 53)) w3.heap.size 53 [.int .i64 g, .int .i64 ph, .int .i64 t, .int .i64 (k : Nat), .int .i64 r, .int .i64 p, .int .i64 l, .slice A1 n c1]) := Lib.hid (Blk.new w3 53 _); (replace ho := ho.alloc (fun _ h => h) (.cells #[.int .i64 g, .int .i64 ph, .int .i64 t, .int .i64 (k : Nat), .int .i64 r, .int .i64 p, .int .i64 l, .slice A1 n c1] 53)); (replace HA := Lib.hid (HA.out.later ho)); (replace HB := Lib.hid (HB.out.later ho)); (replace HVA := Lib.hid (HVA.out.later ho)); (replace HVB := Lib.hid (HVB.out.later ho)); (replace HO := Lib.hid (on_new HO.out ho)); clear ho hs1)
  go_upto_region 7 with (go_at_call 35; (with_reducible refine (HC2.out _ _ _ HO.out HVA.out rfl).mono ?_); rintro ee w4 ⟨A2, c2, rfl, hs2, ho⟩; have HS2 : Hid (Src (w4.alloc (.cells #[.int .i64 g, .int .i64 ph, .int .i64 t, .int .i64 (k : Nat), .int .i64 r, .int .i64 p, .int .i64 l, .slice A2 n c2] 53)) (.slice A2 n c2) _) := Lib.hid (hs2.later ((Only.refl _ _).alloc (fun _ h => h) _)); have HB2 : Hid (Blk (w4.alloc (.cells #[.int .i64 g, .int .i64 ph, .int .i64 t, .int .i64 (k : Nat), .int .i64 r, .int .i64 p, .int .i64 l, .slice A2 n c2] 53)) w4.heap.size 53 [.int .i64 g, .int .i64 ph, .int .i64 t, .int .i64 (k : Nat), .int .i64 r, .int .i64 p, .int .i64 l, .slice A2 n c2]) := Lib.hid (Blk.new w4 53 _); (replace ho := ho.alloc (fun _ h => h) (.cells #[.int .i64 g, .int .i64 ph, .int .i64 t, .int .i64 (k : Nat), .int .i64 r, .int .i64 p, .int .i64 l, .slice A2 n c2] 53)); (replace HA := Lib.hid (HA.out.later ho)); (replace HB := Lib.hid (HB.out.later ho)); (replace HVA := Lib.hid (HVA.out.later ho)); (replace HVB := Lib.hid (HVB.out.later ho)); (replace HS1 := Lib.hid (HS1.out.later ho)); (replace HB1 := Lib.hid (HB1.out.later ho)); (replace HO := Lib.hid (on_new HO.out ho)); clear ho hs2)
  go_upto_region 8 with (go_at_call 35; (with_reducible refine (HC3.out _ _ _ HO.out rfl HVB.out).mono ?_); rintro ee w5 ⟨A3, c3, rfl, hs3, ho⟩; have HS3 : Hid (Src (w5.alloc (.cells #[.int .i64 g', .int .i64 ph', .int .i64 t', .int .i64 (k' : Nat), .int .i64 r', .int .i64 p', .int .i64 l', .slice A3 m c3] 53)) (.slice A3 m c3) _) := Lib.hid (hs3.later ((Only.refl _ _).alloc (fun _ h => h) _)); have HB3 : Hid (Blk (w5.alloc (.cells #[.int .i64 g', .int .i64 ph', .int .i64 t', .int .i64 (k' : Nat), .int .i64 r', .int .i64 p', .int .i64 l', .slice A3 m c3] 53)) w5.heap.size 53 [.int .i64 g', .int .i64 ph', .int .i64 t', .int .i64 (k' : Nat), .int .i64 r', .int .i64 p', .int .i64 l', .slice A3 m c3]) := Lib.hid (Blk.new w5 53 _); (replace ho := ho.alloc (fun _ h => h) (.cells #[.int .i64 g', .int .i64 ph', .int .i64 t', .int .i64 (k' : Nat), .int .i64 r', .int .i64 p', .int .i64 l', .slice A3 m c3] 53)); (replace HA := Lib.hid (HA.out.later ho)); (replace HB := Lib.hid (HB.out.later ho)); (replace HVA := Lib.hid (HVA.out.later ho)); (replace HVB := Lib.hid (HVB.out.later ho)); (replace HS1 := Lib.hid (HS1.out.later ho)); (replace HB1 := Lib.hid (HB1.out.later ho)); (replace HS2 := Lib.hid (HS2.out.later ho)); (replace HB2 := Lib.hid (HB2.out.later ho)); (replace HO := Lib.hid (on_new HO.out ho)); clear ho hs3)
  obtain ⟨W5, hW5⟩ : ∃ y, y = w5.alloc (.cells #[.int .i64 g', .int .i64 ph', .int .i64 t', .int .i64 (k' : Nat), .int .i64 r', .int .i64 p', .int .i64 l', .slice A3 m c3] 53) := ⟨_, rfl⟩
  rw [← hW5] at HA HB HVA HVB HS1 HB1 HS2 HB2 HS3 HB3 HO
  rw [← hW5]
  clear hW5
  (obtain ⟨i0, i1, i2, i3, i4, i5, i6, i7⟩ := HA.out.eight)
  obtain ⟨W6, hW6⟩ : ∃ y, y = W5.alloc (.cells #[.int .i64 g, .int .i64 ph, .int .i64 t, .int .i64 (k : Nat), .int .i64 r, .int .i64 p, .int .i64 l, .slice A n c] 52) := ⟨_, rfl⟩
  have HW : Hid (Blk W6 W5.heap.size 52 [.int .i64 g, .int .i64 ph, .int .i64 t, .int .i64 (k : Nat), .int .i64 r, .int .i64 p, .int .i64 l, .slice A n c]) := Lib.hid (by rw [hW6]; exact Blk.new W5 52 _)
  have HO5 : Hid (Only (W5.heap.size ≤ ·) W5 W6) := Lib.hid (by rw [hW6]; exact (Only.refl _ W5).alloc (fun _ h => h) _)
  have HLT : Hid (w.heap.size < W5.heap.size ∧ w.heap.size + 1 < W5.heap.size ∧ w3.heap.size < W5.heap.size ∧ w4.heap.size < W5.heap.size ∧ w5.heap.size < W5.heap.size) := Lib.hid ⟨HA.out.lt, HB.out.lt, HB1.out.lt, HB2.out.lt, HB3.out.lt⟩
  go_upto_region 9 with (fail)
  rw [← hW6]
  clear hW6 i0 i1 i2 i3 i4 i5 i6 i7
  replace HA := Lib.hid (HA.out.later HO5.out)
  replace HB := Lib.hid (HB.out.later HO5.out)
  replace HB1 := Lib.hid (HB1.out.later HO5.out)
  replace HB2 := Lib.hid (HB2.out.later HO5.out)
  replace HB3 := Lib.hid (HB3.out.later HO5.out)
  replace HS1 := Lib.hid (HS1.out.later HO5.out)
  replace HS2 := Lib.hid (HS2.out.later HO5.out)
  replace HS3 := Lib.hid (HS3.out.later HO5.out)
  replace HO := Lib.hid (on_new HO.out HO5.out)
  (obtain ⟨i0, i1, i2, i3, i4, i5, i6, i7⟩ := HA.out.eight); (obtain ⟨j0, j1, j2, j3, j4, j5, j6, j7⟩ := HB.out.eight)
  go_upto_region 11 with (fail)
  clear i0 i1 i2 i3 i4 i5 i6 i7 j0 j1 j2 j3 j4 j5 j6 j7
  (obtain ⟨i0, i1, i2, i3, i4, i5, i6, i7⟩ := HA.out.eight); (obtain ⟨j0, j1, j2, j3, j4, j5, j6, j7⟩ := HB.out.eight); (obtain ⟨k0, k1, k2, k3, k4, k5, k6, k7⟩ := HB1.out.eight); (obtain ⟨m0, m1, m2, m3, m4, m5, m6, m7⟩ := HB2.out.eight); (obtain ⟨n0, n1, n2, n3, n4, n5, n6, n7⟩ := HB3.out.eight); (obtain ⟨o0, o1, o2, o3, o4, o5, o6, o7⟩ := HW.out.eight)
  go_wp2_with (first
    | (go_at_call 33; (with_reducible refine (rmSame_eq _ g ph t (k : Int) r p l A1 A n c1 c xs HS1.out (HSA.out _ HO.out)).mono ?_); rintro ee w9 ⟨rfl, ho⟩; (replace HA := Lib.hid (HA.out.later ho)); (replace HB := Lib.hid (HB.out.later ho)); (replace HB1 := Lib.hid (HB1.out.later ho)); (replace HB2 := Lib.hid (HB2.out.later ho)); (replace HB3 := Lib.hid (HB3.out.later ho)); (replace HW := Lib.hid (HW.out.later ho)); (replace HS1 := Lib.hid (HS1.out.later ho)); (replace HS2 := Lib.hid (HS2.out.later ho)); (replace HS3 := Lib.hid (HS3.out.later ho)); (replace HO := Lib.hid (on_new HO.out ho)); clear ho; clear i0 i1 i2 i3 i4 i5 i6 i7 j0 j1 j2 j3 j4 j5 j6 j7 k0 k1 k2 k3 k4 k5 k6 k7 m0 m1 m2 m3 m4 m5 m6 m7 n0 n1 n2 n3 n4 n5 n6 n7 o0 o1 o2 o3 o4 o5 o6 o7; (obtain ⟨i0, i1, i2, i3, i4, i5, i6, i7⟩ := HA.out.eight); (obtain ⟨j0, j1, j2, j3, j4, j5, j6, j7⟩ := HB.out.eight); (obtain ⟨k0, k1, k2, k3, k4, k5, k6, k7⟩ := HB1.out.eight); (obtain ⟨m0, m1, m2, m3, m4, m5, m6, m7⟩ := HB2.out.eight); (obtain ⟨n0, n1, n2, n3, n4, n5, n6, n7⟩ := HB3.out.eight); (obtain ⟨o0, o1, o2, o3, o4, o5, o6, o7⟩ := HW.out.eight))
    | (go_at_call 33; (with_reducible refine (rmSame_eq _ g ph t (k : Int) r p l A2 A n c2 c xs HS2.out (HSA.out _ HO.out)).mono ?_); rintro ee w9 ⟨rfl, ho⟩; (replace HA := Lib.hid (HA.out.later ho)); (replace HB := Lib.hid (HB.out.later ho)); (replace HB1 := Lib.hid (HB1.out.later ho)); (replace HB2 := Lib.hid (HB2.out.later ho)); (replace HB3 := Lib.hid (HB3.out.later ho)); (replace HW := Lib.hid (HW.out.later ho)); (replace HS1 := Lib.hid (HS1.out.later ho)); (replace HS2 := Lib.hid (HS2.out.later ho)); (replace HS3 := Lib.hid (HS3.out.later ho)); (replace HO := Lib.hid (on_new HO.out ho)); clear ho; clear i0 i1 i2 i3 i4 i5 i6 i7 j0 j1 j2 j3 j4 j5 j6 j7 k0 k1 k2 k3 k4 k5 k6 k7 m0 m1 m2 m3 m4 m5 m6 m7 n0 n1 n2 n3 n4 n5 n6 n7 o0 o1 o2 o3 o4 o5 o6 o7; (obtain ⟨i0, i1, i2, i3, i4, i5, i6, i7⟩ := HA.out.eight); (obtain ⟨j0, j1, j2, j3, j4, j5, j6, j7⟩ := HB.out.eight); (obtain ⟨k0, k1, k2, k3, k4, k5, k6, k7⟩ := HB1.out.eight); (obtain ⟨m0, m1, m2, m3, m4, m5, m6, m7⟩ := HB2.out.eight); (obtain ⟨n0, n1, n2, n3, n4, n5, n6, n7⟩ := HB3.out.eight); (obtain ⟨o0, o1, o2, o3, o4, o5, o6, o7⟩ := HW.out.eight))
    | (go_at_call 33; (with_reducible refine (rmSame_eq _ g' ph' t' (k' : Int) r' p' l' A3 B m c3 d ys HS3.out (HSB.out _ HO.out)).mono ?_); rintro ee w9 ⟨rfl, ho⟩; (replace HA := Lib.hid (HA.out.later ho)); (replace HB := Lib.hid (HB.out.later ho)); (replace HB1 := Lib.hid (HB1.out.later ho)); (replace HB2 := Lib.hid (HB2.out.later ho)); (replace HB3 := Lib.hid (HB3.out.later ho)); (replace HW := Lib.hid (HW.out.later ho)); (replace HS1 := Lib.hid (HS1.out.later ho)); (replace HS2 := Lib.hid (HS2.out.later ho)); (replace HS3 := Lib.hid (HS3.out.later ho)); (replace HO := Lib.hid (on_new HO.out ho)); clear ho; clear i0 i1 i2 i3 i4 i5 i6 i7 j0 j1 j2 j3 j4 j5 j6 j7 k0 k1 k2 k3 k4 k5 k6 k7 m0 m1 m2 m3 m4 m5 m6 m7 n0 n1 n2 n3 n4 n5 n6 n7 o0 o1 o2 o3 o4 o5 o6 o7; (obtain ⟨i0, i1, i2, i3, i4, i5, i6, i7⟩ := HA.out.eight); (obtain ⟨j0, j1, j2, j3, j4, j5, j6, j7⟩ := HB.out.eight); (obtain ⟨k0, k1, k2, k3, k4, k5, k6, k7⟩ := HB1.out.eight); (obtain ⟨m0, m1, m2, m3, m4, m5, m6, m7⟩ := HB2.out.eight); (obtain ⟨n0, n1, n2, n3, n4, n5, n6, n7⟩ := HB3.out.eight); (obtain ⟨o0, o1, o2, o3, o4, o5, o6, o7⟩ := HW.out.eight))
    | (go_at_call 25; (with_reducible refine (HAL.out _ HO.out).mono ?_); rintro ee w9 ⟨rfl, ho⟩; (replace HA := Lib.hid (HA.out.later ho)); (replace HB := Lib.hid (HB.out.later ho)); (replace HB1 := Lib.hid (HB1.out.later ho)); (replace HB2 := Lib.hid (HB2.out.later ho)); (replace HB3 := Lib.hid (HB3.out.later ho)); (replace HW := Lib.hid (HW.out.later ho)); (replace HS1 := Lib.hid (HS1.out.later ho)); (replace HS2 := Lib.hid (HS2.out.later ho)); (replace HS3 := Lib.hid (HS3.out.later ho)); (replace HO := Lib.hid (on_new HO.out ho)); clear ho; clear i0 i1 i2 i3 i4 i5 i6 i7 j0 j1 j2 j3 j4 j5 j6 j7 k0 k1 k2 k3 k4 k5 k6 k7 m0 m1 m2 m3 m4 m5 m6 m7 n0 n1 n2 n3 n4 n5 n6 n7 o0 o1 o2 o3 o4 o5 o6 o7; (obtain ⟨i0, i1, i2, i3, i4, i5, i6, i7⟩ := HA.out.eight); (obtain ⟨j0, j1, j2, j3, j4, j5, j6, j7⟩ := HB.out.eight); (obtain ⟨k0, k1, k2, k3, k4, k5, k6, k7⟩ := HB1.out.eight); (obtain ⟨m0, m1, m2, m3, m4, m5, m6, m7⟩ := HB2.out.eight); (obtain ⟨n0, n1, n2, n3, n4, n5, n6, n7⟩ := HB3.out.eight); (obtain ⟨o0, o1, o2, o3, o4, o5, o6, o7⟩ := HW.out.eight)))
  go_ret
  exact ⟨rfl, HO.out⟩
set_option maxRecDepth 100000 in
set_option maxHeartbeats 25600000 in
theorem newer_b (xs ys PA PB : Bytes) (hx : Src w (.slice A n c) xs) (hy : Src w (.slice B m d) ys) (hEA : ∀ W, Only (w.heap.size ≤ ·) w W → Calls Tryd.prog 26 #[.agg #[.int .i64 g, .int .i64 ph, .int .i64 t, .int .i64 (k : Nat), .int .i64 r, .int .i64 p, .int .i64 l, .slice A n c]] W (GaveBE W PA 0)) (hEB : ∀ W, Only (w.heap.size ≤ ·) w W → Calls Tryd.prog 26 #[.agg #[.int .i64 g', .int .i64 ph', .int .i64 t', .int .i64 (k' : Nat), .int .i64 r', .int .i64 p', .int .i64 l', .slice B m d]] W (GaveBE W PB 0))
    (hC1 : ∀ W v u, Only (w.heap.size ≤ ·) w W → Src W v PA → Src W u PB → Calls Tryd.prog 35 #[v, u] W (fun e w' => ∃ A c, e = .returned (.tuple #[.agg #[.int .i64 g', .int .i64 ph', .int .i64 t', .int .i64 (k' : Nat), .int .i64 r', .int .i64 p', .int .i64 l', .slice A m c], .int .i64 1, .int .i64 0]) ∧ Src w' (.slice A m c) ys ∧ Only (W.heap.size ≤ ·) W w'))
    (hC2 : ∀ W v u, Only (w.heap.size ≤ ·) w W → Src W v PA → u = .slice none 0 0 → Calls Tryd.prog 35 #[v, u] W (fun e w' => ∃ A c, e = .returned (.tuple #[.agg #[.int .i64 g, .int .i64 ph, .int .i64 t, .int .i64 (k : Nat), .int .i64 r, .int .i64 p, .int .i64 l, .slice A n c], .int .i64 0, .int .i64 0]) ∧ Src w' (.slice A n c) xs ∧ Only (W.heap.size ≤ ·) W w'))
    (hC3 : ∀ W v u, Only (w.heap.size ≤ ·) w W → v = .slice none 0 0 → Src W u PB → Calls Tryd.prog 35 #[v, u] W (fun e w' => ∃ A c, e = .returned (.tuple #[.agg #[.int .i64 g', .int .i64 ph', .int .i64 t', .int .i64 (k' : Nat), .int .i64 r', .int .i64 p', .int .i64 l', .slice A m c], .int .i64 1, .int .i64 0]) ∧ Src w' (.slice A m c) ys ∧ Only (W.heap.size ≤ ·) W w'))
    (hka : k % 2 = 0) (hkb : k' % 2 = 1) (hk1 : k < 9223372036854775808) (hk2 : k' < 9223372036854775808) (hc : k < k') : Calls Tryd.prog 12 #[.agg #[.int .i64 g, .int .i64 ph, .int .i64 t, .int .i64 (k : Nat), .int .i64 r, .int .i64 p, .int .i64 l, .slice A n c], .agg #[.int .i64 g', .int .i64 ph', .int .i64 t', .int .i64 (k' : Nat), .int .i64 r', .int .i64 p', .int .i64 l', .slice B m d]] w (Told w (.bool true)) := by
  obtain ⟨w1, hw1⟩ : ∃ W0, W0 = (w.alloc (.cells #[.int .i64 g, .int .i64 ph, .int .i64 t, .int .i64 (k : Nat), .int .i64 r, .int .i64 p, .int .i64 l, .slice A n c] 52)).alloc (.cells #[.int .i64 g', .int .i64 ph', .int .i64 t', .int .i64 (k' : Nat), .int .i64 r', .int .i64 p', .int .i64 l', .slice B m d] 52) := ⟨_, rfl⟩
  have HO : Hid (Only (w.heap.size ≤ ·) w w1) := Lib.hid (by rw [hw1]; exact ((Only.refl _ w).alloc (fun _ h => h) _).alloc (fun _ h => h) _)
  have HA : Hid (Blk w1 w.heap.size 52 [.int .i64 g, .int .i64 ph, .int .i64 t, .int .i64 (k : Nat), .int .i64 r, .int .i64 p, .int .i64 l, .slice A n c]) := Lib.hid (by rw [hw1]; exact (Blk.new w 52 _).alloc _)
  have HB : Hid (Blk w1 (w.heap.size + 1) 52 [.int .i64 g', .int .i64 ph', .int .i64 t', .int .i64 (k' : Nat), .int .i64 r', .int .i64 p', .int .i64 l', .slice B m d]) := Lib.hid (by
    rw [hw1]
    have := Blk.new (w.alloc (.cells #[.int .i64 g, .int .i64 ph, .int .i64 t, .int .i64 (k : Nat), .int .i64 r, .int .i64 p, .int .i64 l, .slice A n c] 52)) 52 [.int .i64 g', .int .i64 ph', .int .i64 t', .int .i64 (k' : Nat), .int .i64 r', .int .i64 p', .int .i64 l', .slice B m d]
    simpa using this)
  have HAL : Hid (∀ W, Only (w.heap.size ≤ ·) w W → Calls Tryd.prog 25 #[] W (Told W (.bool true))) := Lib.hid fun W hW => malive_c W (hG.later hW)
  have HSL : Hid (∀ W (z : Int), Calls Tryd.prog 37 #[.int .i64 z] W fun e w' => e = .returned (.int .i64 (bits .and .i64 z 1)) ∧ W = w') := Lib.hid fun W z => MSlot_c W z
  have HEA := Lib.hid hEA
  have HEB := Lib.hid hEB
  have HC1 := Lib.hid hC1
  have HC2 := Lib.hid hC2
  have HC3 := Lib.hid hC3
  have HSA : Hid (∀ W, Only (w.heap.size ≤ ·) w W → Src W (.slice A n c) xs) := Lib.hid fun W hW => hx.later hW
  have HSB : Hid (∀ W, Only (w.heap.size ≤ ·) w W → Src W (.slice B m d) ys) := Lib.hid fun W hW => hy.later hW
  have ba : bits .and .i64 (k : Int) 1 = 0 := by rw [and_one k hk1, hka]; rfl
  have bb : bits .and .i64 (k' : Int) 1 = 1 := by rw [and_one k' hk2, hkb]; rfl
  have ta : (k : Int).tmod 2 = 0 := by rw [Int.tmod_eq_emod_of_nonneg (Int.natCast_nonneg k)]; omega
  have tb : (k' : Int).tmod 2 = 1 := by rw [Int.tmod_eq_emod_of_nonneg (Int.natCast_nonneg k')]; omega
  have hlt : (k : Int) < (k' : Int) := by omega
  clear hG hx hy hEA hEB hC1 hC2 hC3 hka hkb hk1 hk2 hc
  (obtain ⟨i0, i1, i2, i3, i4, i5, i6, i7⟩ := HA.out.eight); (obtain ⟨j0, j1, j2, j3, j4, j5, j6, j7⟩ := HB.out.eight)
  go_enter Tryd.func12, Tryd.ntmps12
  go_upto_region 1 with (fail)
  rw [← hw1]
  clear hw1
  clear i0 i1 i2 i3 i4 i5 i6 i7 j0 j1 j2 j3 j4 j5 j6 j7
  (obtain ⟨i0, i1, i2, i3, i4, i5, i6, i7⟩ := HA.out.eight)
  go_upto_region 2 with (go_at_call 26; (with_reducible refine (HEA.out _ HO.out).mono ?_); rintro ee w2 ⟨va, rfl, hsa, ho⟩; have HVA := Lib.hid hsa; (replace HA := Lib.hid (HA.out.later ho)); (replace HB := Lib.hid (HB.out.later ho)); (replace HO := Lib.hid (on_new HO.out ho)); clear ho hsa)
  clear i0 i1 i2 i3 i4 i5 i6 i7
  (obtain ⟨j0, j1, j2, j3, j4, j5, j6, j7⟩ := HB.out.eight)
  go_upto_region 3 with (go_at_call 26; (with_reducible refine (HEB.out _ HO.out).mono ?_); rintro ee w2 ⟨vb, rfl, hsb, ho⟩; have HVB := Lib.hid hsb; (replace HA := Lib.hid (HA.out.later ho)); (replace HB := Lib.hid (HB.out.later ho)); (replace HVA := Lib.hid (HVA.out.later ho)); (replace HO := Lib.hid (on_new HO.out ho)); clear ho hsb)
  clear j0 j1 j2 j3 j4 j5 j6 j7
  (obtain ⟨i0, i1, i2, i3, i4, i5, i6, i7⟩ := HA.out.eight); (obtain ⟨j0, j1, j2, j3, j4, j5, j6, j7⟩ := HB.out.eight)
  go_upto_region 5 with (go_at_call 37; (with_reducible refine (HSL.out _ _).mono ?_); rintro ee w' ⟨rfl, rfl⟩)
  clear i0 i1 i2 i3 i4 i5 i6 i7 j0 j1 j2 j3 j4 j5 j6 j7 ba bb
  go_upto_region 6 with (go_at_call 35; (with_reducible refine (HC1.out _ _ _ HO.out HVA.out HVB.out).mono ?_); rintro ee w3 ⟨A1, c1, rfl, hs1, ho⟩; have HS1 : Hid (Src (w3.alloc (.cells #[.int .i64 g', .int .i64 ph', .int .i64 t', .int .i64 (k' : Nat), .int .i64 r', .int .i64 p', .int .i64 l', .slice A1 m c1] 53)) (.slice A1 m c1) _) := Lib.hid (hs1.later ((Only.refl _ _).alloc (fun _ h => h) _)); have HB1 : Hid (Blk (w3.alloc (.cells #[.int .i64 g', .int .i64 ph', .int .i64 t', .int .i64 (k' : Nat), .int .i64 r', .int .i64 p', .int .i64 l', .slice A1 m c1] 53)) w3.heap.size 53 [.int .i64 g', .int .i64 ph', .int .i64 t', .int .i64 (k' : Nat), .int .i64 r', .int .i64 p', .int .i64 l', .slice A1 m c1]) := Lib.hid (Blk.new w3 53 _); (replace ho := ho.alloc (fun _ h => h) (.cells #[.int .i64 g', .int .i64 ph', .int .i64 t', .int .i64 (k' : Nat), .int .i64 r', .int .i64 p', .int .i64 l', .slice A1 m c1] 53)); (replace HA := Lib.hid (HA.out.later ho)); (replace HB := Lib.hid (HB.out.later ho)); (replace HVA := Lib.hid (HVA.out.later ho)); (replace HVB := Lib.hid (HVB.out.later ho)); (replace HO := Lib.hid (on_new HO.out ho)); clear ho hs1)
  go_upto_region 7 with (go_at_call 35; (with_reducible refine (HC2.out _ _ _ HO.out HVA.out rfl).mono ?_); rintro ee w4 ⟨A2, c2, rfl, hs2, ho⟩; have HS2 : Hid (Src (w4.alloc (.cells #[.int .i64 g, .int .i64 ph, .int .i64 t, .int .i64 (k : Nat), .int .i64 r, .int .i64 p, .int .i64 l, .slice A2 n c2] 53)) (.slice A2 n c2) _) := Lib.hid (hs2.later ((Only.refl _ _).alloc (fun _ h => h) _)); have HB2 : Hid (Blk (w4.alloc (.cells #[.int .i64 g, .int .i64 ph, .int .i64 t, .int .i64 (k : Nat), .int .i64 r, .int .i64 p, .int .i64 l, .slice A2 n c2] 53)) w4.heap.size 53 [.int .i64 g, .int .i64 ph, .int .i64 t, .int .i64 (k : Nat), .int .i64 r, .int .i64 p, .int .i64 l, .slice A2 n c2]) := Lib.hid (Blk.new w4 53 _); (replace ho := ho.alloc (fun _ h => h) (.cells #[.int .i64 g, .int .i64 ph, .int .i64 t, .int .i64 (k : Nat), .int .i64 r, .int .i64 p, .int .i64 l, .slice A2 n c2] 53)); (replace HA := Lib.hid (HA.out.later ho)); (replace HB := Lib.hid (HB.out.later ho)); (replace HVA := Lib.hid (HVA.out.later ho)); (replace HVB := Lib.hid (HVB.out.later ho)); (replace HS1 := Lib.hid (HS1.out.later ho)); (replace HB1 := Lib.hid (HB1.out.later ho)); (replace HO := Lib.hid (on_new HO.out ho)); clear ho hs2)
  go_upto_region 8 with (go_at_call 35; (with_reducible refine (HC3.out _ _ _ HO.out rfl HVB.out).mono ?_); rintro ee w5 ⟨A3, c3, rfl, hs3, ho⟩; have HS3 : Hid (Src (w5.alloc (.cells #[.int .i64 g', .int .i64 ph', .int .i64 t', .int .i64 (k' : Nat), .int .i64 r', .int .i64 p', .int .i64 l', .slice A3 m c3] 53)) (.slice A3 m c3) _) := Lib.hid (hs3.later ((Only.refl _ _).alloc (fun _ h => h) _)); have HB3 : Hid (Blk (w5.alloc (.cells #[.int .i64 g', .int .i64 ph', .int .i64 t', .int .i64 (k' : Nat), .int .i64 r', .int .i64 p', .int .i64 l', .slice A3 m c3] 53)) w5.heap.size 53 [.int .i64 g', .int .i64 ph', .int .i64 t', .int .i64 (k' : Nat), .int .i64 r', .int .i64 p', .int .i64 l', .slice A3 m c3]) := Lib.hid (Blk.new w5 53 _); (replace ho := ho.alloc (fun _ h => h) (.cells #[.int .i64 g', .int .i64 ph', .int .i64 t', .int .i64 (k' : Nat), .int .i64 r', .int .i64 p', .int .i64 l', .slice A3 m c3] 53)); (replace HA := Lib.hid (HA.out.later ho)); (replace HB := Lib.hid (HB.out.later ho)); (replace HVA := Lib.hid (HVA.out.later ho)); (replace HVB := Lib.hid (HVB.out.later ho)); (replace HS1 := Lib.hid (HS1.out.later ho)); (replace HB1 := Lib.hid (HB1.out.later ho)); (replace HS2 := Lib.hid (HS2.out.later ho)); (replace HB2 := Lib.hid (HB2.out.later ho)); (replace HO := Lib.hid (on_new HO.out ho)); clear ho hs3)
  obtain ⟨W5, hW5⟩ : ∃ y, y = w5.alloc (.cells #[.int .i64 g', .int .i64 ph', .int .i64 t', .int .i64 (k' : Nat), .int .i64 r', .int .i64 p', .int .i64 l', .slice A3 m c3] 53) := ⟨_, rfl⟩
  rw [← hW5] at HA HB HVA HVB HS1 HB1 HS2 HB2 HS3 HB3 HO
  rw [← hW5]
  clear hW5
  (obtain ⟨i0, i1, i2, i3, i4, i5, i6, i7⟩ := HA.out.eight)
  obtain ⟨W6, hW6⟩ : ∃ y, y = W5.alloc (.cells #[.int .i64 g, .int .i64 ph, .int .i64 t, .int .i64 (k : Nat), .int .i64 r, .int .i64 p, .int .i64 l, .slice A n c] 52) := ⟨_, rfl⟩
  have HW : Hid (Blk W6 W5.heap.size 52 [.int .i64 g, .int .i64 ph, .int .i64 t, .int .i64 (k : Nat), .int .i64 r, .int .i64 p, .int .i64 l, .slice A n c]) := Lib.hid (by rw [hW6]; exact Blk.new W5 52 _)
  have HO5 : Hid (Only (W5.heap.size ≤ ·) W5 W6) := Lib.hid (by rw [hW6]; exact (Only.refl _ W5).alloc (fun _ h => h) _)
  have HLT : Hid (w.heap.size < W5.heap.size ∧ w.heap.size + 1 < W5.heap.size ∧ w3.heap.size < W5.heap.size ∧ w4.heap.size < W5.heap.size ∧ w5.heap.size < W5.heap.size) := Lib.hid ⟨HA.out.lt, HB.out.lt, HB1.out.lt, HB2.out.lt, HB3.out.lt⟩
  go_upto_region 9 with (fail)
  rw [← hW6]
  clear hW6 i0 i1 i2 i3 i4 i5 i6 i7
  have HA6 := Lib.hid (HA.out.later HO5.out)
  have HB6 := Lib.hid (HB.out.later HO5.out)
  (obtain ⟨i0, i1, i2, i3, i4, i5, i6, i7⟩ := HA6.out.eight); (obtain ⟨j0, j1, j2, j3, j4, j5, j6, j7⟩ := HB6.out.eight); (obtain ⟨o0, o1, o2, o3, o4, o5, o6, o7⟩ := HW.out.eight)
  have z0 := HW.out.frozen 0
  have z1 := HW.out.frozen 1
  have z2 := HW.out.frozen 2
  have z3 := HW.out.frozen 3
  have z4 := HW.out.frozen 4
  have z5 := HW.out.frozen 5
  have z6 := HW.out.frozen 6
  have z7 := HW.out.frozen 7
  go_upto_region 11 with (fail)
  clear i0 i1 i2 i3 i4 i5 i6 i7 j0 j1 j2 j3 j4 j5 j6 j7 o0 o1 o2 o3 o4 o5 o6 o7 z0 z1 z2 z3 z4 z5 z6 z7 HA6 HB6
  have HOX : Hid (Only (· = W5.heap.size) W6 _) := Lib.hid (((((((((Only.refl (· = W5.heap.size) W6).setCell (p := ⟨W5.heap.size, 0, none⟩) rfl (.int .i64 g')).setCell (p := ⟨W5.heap.size, 1, none⟩) rfl (.int .i64 ph')).setCell (p := ⟨W5.heap.size, 2, none⟩) rfl (.int .i64 t')).setCell (p := ⟨W5.heap.size, 3, none⟩) rfl (.int .i64 (k' : Nat))).setCell (p := ⟨W5.heap.size, 4, none⟩) rfl (.int .i64 r')).setCell (p := ⟨W5.heap.size, 5, none⟩) rfl (.int .i64 p')).setCell (p := ⟨W5.heap.size, 6, none⟩) rfl (.int .i64 l')).setCell (p := ⟨W5.heap.size, 7, none⟩) rfl (.slice B m d))
  replace HW := Lib.hid ((((((((HW.out.set_ 0 (.int .i64 g')).set_ 1 (.int .i64 ph')).set_ 2 (.int .i64 t')).set_ 3 (.int .i64 (k' : Nat))).set_ 4 (.int .i64 r')).set_ 5 (.int .i64 p')).set_ 6 (.int .i64 l')).set_ 7 (.slice B m d))
  have HOW := Lib.hid (HO5.out.trans (HOX.out.mono fun j hj => by rw [hj]; exact Nat.le_refl _))
  clear HOX HO5
  generalize hW7 : World.setCell _ ⟨W5.heap.size, 7, none⟩ (Value.slice B m d) = W7 at HW HOW ⊢
  clear hW7
  replace HW : Hid (Blk W7 W5.heap.size 52 [.int .i64 g', .int .i64 ph', .int .i64 t', .int .i64 (k' : Nat), .int .i64 r', .int .i64 p', .int .i64 l', .slice B m d]) := HW
  replace HA := Lib.hid (HA.out.later HOW.out)
  replace HB := Lib.hid (HB.out.later HOW.out)
  replace HB1 := Lib.hid (HB1.out.later HOW.out)
  replace HB2 := Lib.hid (HB2.out.later HOW.out)
  replace HB3 := Lib.hid (HB3.out.later HOW.out)
  replace HS1 := Lib.hid (HS1.out.later HOW.out)
  replace HS2 := Lib.hid (HS2.out.later HOW.out)
  replace HS3 := Lib.hid (HS3.out.later HOW.out)
  replace HO := Lib.hid (on_new HO.out HOW.out)
  (obtain ⟨i0, i1, i2, i3, i4, i5, i6, i7⟩ := HA.out.eight); (obtain ⟨j0, j1, j2, j3, j4, j5, j6, j7⟩ := HB.out.eight); (obtain ⟨k0, k1, k2, k3, k4, k5, k6, k7⟩ := HB1.out.eight); (obtain ⟨m0, m1, m2, m3, m4, m5, m6, m7⟩ := HB2.out.eight); (obtain ⟨n0, n1, n2, n3, n4, n5, n6, n7⟩ := HB3.out.eight); (obtain ⟨o0, o1, o2, o3, o4, o5, o6, o7⟩ := HW.out.eight)
  go_wp2_with (first
    | (go_at_call 33; (with_reducible refine (rmSame_eq _ g' ph' t' (k' : Int) r' p' l' A1 B m c1 d ys HS1.out (HSB.out _ HO.out)).mono ?_); rintro ee w9 ⟨rfl, ho⟩; (replace HA := Lib.hid (HA.out.later ho)); (replace HB := Lib.hid (HB.out.later ho)); (replace HB1 := Lib.hid (HB1.out.later ho)); (replace HB2 := Lib.hid (HB2.out.later ho)); (replace HB3 := Lib.hid (HB3.out.later ho)); (replace HW := Lib.hid (HW.out.later ho)); (replace HS1 := Lib.hid (HS1.out.later ho)); (replace HS2 := Lib.hid (HS2.out.later ho)); (replace HS3 := Lib.hid (HS3.out.later ho)); (replace HO := Lib.hid (on_new HO.out ho)); clear ho; clear i0 i1 i2 i3 i4 i5 i6 i7 j0 j1 j2 j3 j4 j5 j6 j7 k0 k1 k2 k3 k4 k5 k6 k7 m0 m1 m2 m3 m4 m5 m6 m7 n0 n1 n2 n3 n4 n5 n6 n7 o0 o1 o2 o3 o4 o5 o6 o7; (obtain ⟨i0, i1, i2, i3, i4, i5, i6, i7⟩ := HA.out.eight); (obtain ⟨j0, j1, j2, j3, j4, j5, j6, j7⟩ := HB.out.eight); (obtain ⟨k0, k1, k2, k3, k4, k5, k6, k7⟩ := HB1.out.eight); (obtain ⟨m0, m1, m2, m3, m4, m5, m6, m7⟩ := HB2.out.eight); (obtain ⟨n0, n1, n2, n3, n4, n5, n6, n7⟩ := HB3.out.eight); (obtain ⟨o0, o1, o2, o3, o4, o5, o6, o7⟩ := HW.out.eight))
    | (go_at_call 33; (with_reducible refine (rmSame_eq _ g ph t (k : Int) r p l A2 A n c2 c xs HS2.out (HSA.out _ HO.out)).mono ?_); rintro ee w9 ⟨rfl, ho⟩; (replace HA := Lib.hid (HA.out.later ho)); (replace HB := Lib.hid (HB.out.later ho)); (replace HB1 := Lib.hid (HB1.out.later ho)); (replace HB2 := Lib.hid (HB2.out.later ho)); (replace HB3 := Lib.hid (HB3.out.later ho)); (replace HW := Lib.hid (HW.out.later ho)); (replace HS1 := Lib.hid (HS1.out.later ho)); (replace HS2 := Lib.hid (HS2.out.later ho)); (replace HS3 := Lib.hid (HS3.out.later ho)); (replace HO := Lib.hid (on_new HO.out ho)); clear ho; clear i0 i1 i2 i3 i4 i5 i6 i7 j0 j1 j2 j3 j4 j5 j6 j7 k0 k1 k2 k3 k4 k5 k6 k7 m0 m1 m2 m3 m4 m5 m6 m7 n0 n1 n2 n3 n4 n5 n6 n7 o0 o1 o2 o3 o4 o5 o6 o7; (obtain ⟨i0, i1, i2, i3, i4, i5, i6, i7⟩ := HA.out.eight); (obtain ⟨j0, j1, j2, j3, j4, j5, j6, j7⟩ := HB.out.eight); (obtain ⟨k0, k1, k2, k3, k4, k5, k6, k7⟩ := HB1.out.eight); (obtain ⟨m0, m1, m2, m3, m4, m5, m6, m7⟩ := HB2.out.eight); (obtain ⟨n0, n1, n2, n3, n4, n5, n6, n7⟩ := HB3.out.eight); (obtain ⟨o0, o1, o2, o3, o4, o5, o6, o7⟩ := HW.out.eight))
    | (go_at_call 33; (with_reducible refine (rmSame_eq _ g' ph' t' (k' : Int) r' p' l' A3 B m c3 d ys HS3.out (HSB.out _ HO.out)).mono ?_); rintro ee w9 ⟨rfl, ho⟩; (replace HA := Lib.hid (HA.out.later ho)); (replace HB := Lib.hid (HB.out.later ho)); (replace HB1 := Lib.hid (HB1.out.later ho)); (replace HB2 := Lib.hid (HB2.out.later ho)); (replace HB3 := Lib.hid (HB3.out.later ho)); (replace HW := Lib.hid (HW.out.later ho)); (replace HS1 := Lib.hid (HS1.out.later ho)); (replace HS2 := Lib.hid (HS2.out.later ho)); (replace HS3 := Lib.hid (HS3.out.later ho)); (replace HO := Lib.hid (on_new HO.out ho)); clear ho; clear i0 i1 i2 i3 i4 i5 i6 i7 j0 j1 j2 j3 j4 j5 j6 j7 k0 k1 k2 k3 k4 k5 k6 k7 m0 m1 m2 m3 m4 m5 m6 m7 n0 n1 n2 n3 n4 n5 n6 n7 o0 o1 o2 o3 o4 o5 o6 o7; (obtain ⟨i0, i1, i2, i3, i4, i5, i6, i7⟩ := HA.out.eight); (obtain ⟨j0, j1, j2, j3, j4, j5, j6, j7⟩ := HB.out.eight); (obtain ⟨k0, k1, k2, k3, k4, k5, k6, k7⟩ := HB1.out.eight); (obtain ⟨m0, m1, m2, m3, m4, m5, m6, m7⟩ := HB2.out.eight); (obtain ⟨n0, n1, n2, n3, n4, n5, n6, n7⟩ := HB3.out.eight); (obtain ⟨o0, o1, o2, o3, o4, o5, o6, o7⟩ := HW.out.eight))
    | (go_at_call 25; (with_reducible refine (HAL.out _ HO.out).mono ?_); rintro ee w9 ⟨rfl, ho⟩; (replace HA := Lib.hid (HA.out.later ho)); (replace HB := Lib.hid (HB.out.later ho)); (replace HB1 := Lib.hid (HB1.out.later ho)); (replace HB2 := Lib.hid (HB2.out.later ho)); (replace HB3 := Lib.hid (HB3.out.later ho)); (replace HW := Lib.hid (HW.out.later ho)); (replace HS1 := Lib.hid (HS1.out.later ho)); (replace HS2 := Lib.hid (HS2.out.later ho)); (replace HS3 := Lib.hid (HS3.out.later ho)); (replace HO := Lib.hid (on_new HO.out ho)); clear ho; clear i0 i1 i2 i3 i4 i5 i6 i7 j0 j1 j2 j3 j4 j5 j6 j7 k0 k1 k2 k3 k4 k5 k6 k7 m0 m1 m2 m3 m4 m5 m6 m7 n0 n1 n2 n3 n4 n5 n6 n7 o0 o1 o2 o3 o4 o5 o6 o7; (obtain ⟨i0, i1, i2, i3, i4, i5, i6, i7⟩ := HA.out.eight); (obtain ⟨j0, j1, j2, j3, j4, j5, j6, j7⟩ := HB.out.eight); (obtain ⟨k0, k1, k2, k3, k4, k5, k6, k7⟩ := HB1.out.eight); (obtain ⟨m0, m1, m2, m3, m4, m5, m6, m7⟩ := HB2.out.eight); (obtain ⟨n0, n1, n2, n3, n4, n5, n6, n7⟩ := HB3.out.eight); (obtain ⟨o0, o1, o2, o3, o4, o5, o6, o7⟩ := HW.out.eight)))
  go_ret
  exact ⟨rfl, HO.out⟩
end
theorem sl_nat (k : Nat) (h : k < 9223372036854775808) : sl (k : Int) = ((k % 2 : Nat) : Int) := and_one k h
theorem mnewer_c (w : World) (hG : Gens w) (g ph t x r p l g' ph' t' x' r' p' l' : Int) (A B : Option Addr) (n c m d : Nat) (xs ys : Bytes) (hx : Src w (.slice A n c) xs) (hy : Src w (.slice B m d) ys) (hn : n = xs.length) (hm : m = ys.length) (hi : ∀ u ∈ [g, ph, t, x, r, p, l], I64 u) (hi' : ∀ u ∈ [g', ph', t', x', r', p', l'], I64 u) :
    Calls Tryd.prog 12 #[.agg #[.int .i64 g, .int .i64 ph, .int .i64 t, .int .i64 x, .int .i64 r, .int .i64 p, .int .i64 l, .slice A n c], .agg #[.int .i64 g', .int .i64 ph', .int .i64 t', .int .i64 x', .int .i64 r', .int .i64 p', .int .i64 l', .slice B m d]] w (Told w (.bool true)) := by
  have hEA : ∀ W, Only (w.heap.size ≤ ·) w W → Calls Tryd.prog 26 #[.agg #[.int .i64 g, .int .i64 ph, .int .i64 t, .int .i64 x, .int .i64 r, .int .i64 p, .int .i64 l, .slice A n c]] W (GaveBE W (if okL [g, ph, t, x, r, p, l] xs.length = true then encB [g, ph, t, x, r, p, l] xs else []) (if okL [g, ph, t, x, r, p, l] xs.length = true then 0 else 92)) := fun W hW => MEncode_l W _ xs hi (hG.later hW) g ph t x r p l A n c rfl hn (hx.later hW)
  have hEB : ∀ W, Only (w.heap.size ≤ ·) w W → Calls Tryd.prog 26 #[.agg #[.int .i64 g', .int .i64 ph', .int .i64 t', .int .i64 x', .int .i64 r', .int .i64 p', .int .i64 l', .slice B m d]] W (GaveBE W (if okL [g', ph', t', x', r', p', l'] ys.length = true then encB [g', ph', t', x', r', p', l'] ys else []) (if okL [g', ph', t', x', r', p', l'] ys.length = true then 0 else 92)) := fun W hW => MEncode_l W _ ys hi' (hG.later hW) g' ph' t' x' r' p' l' B m d rfl hm (hy.later hW)
  by_cases ha : okL [g, ph, t, x, r, p, l] xs.length = true
  · by_cases hb : okL [g', ph', t', x', r', p', l'] ys.length = true
    · rw [if_pos ha, if_pos ha] at hEA
      rw [if_pos hb, if_pos hb] at hEB
      by_cases h1 : bits .and .i64 x 1 = 0
      · by_cases h2 : bits .and .i64 x' 1 = 1
        · obtain ⟨a1, a2, a3, a4⟩ := enc_back (g := g) (ph := ph) (t := t) (x := x) (r := r) (p := p) (l := l) (xs := xs) ha
          obtain ⟨b1, b2, b3, b4⟩ := enc_back (g := g') (ph := ph') (t := t') (x := x') (r := r') (p := p') (l := l') (xs := ys) hb
          have hpa : okP g ph t x r p l xs.length := of_decide_eq_true ha
          have hpb : okP g' ph' t' x' r' p' l' ys.length := of_decide_eq_true hb
          obtain ⟨k, rfl⟩ : ∃ k : Nat, x = (k : Int) := ⟨x.toNat, by have := hpa.2.2.1; omega⟩
          obtain ⟨k', rfl⟩ : ∃ k' : Nat, x' = (k' : Int) := ⟨x'.toNat, by have := hpb.2.2.1; omega⟩
          have hk1 : k < 9223372036854775808 := by have := hpa.2.2.2.1; omega
          have hk2 : k' < 9223372036854775808 := by have := hpb.2.2.2.1; omega
          have hk3 : 1 ≤ k := by have := hpa.2.2.1; omega
          have hk4 : 1 ≤ k' := by have := hpb.2.2.1; omega
          have hka : k % 2 = 0 := by rw [and_one k hk1] at h1; omega
          have hkb : k' % 2 = 1 := by rw [and_one k' hk2] at h2; omega
          obtain ⟨PA, hPA⟩ : ∃ P, P = encB [g, ph, t, (k : Int), r, p, l] xs := ⟨_, rfl⟩
          obtain ⟨PB, hPB⟩ : ∃ P, P = encB [g', ph', t', (k' : Int), r', p', l'] ys := ⟨_, rfl⟩
          rw [← hPA] at hEA a1 a2 a3 a4
          rw [← hPB] at hEB b1 b2 b3 b4
          clear hPA hPB
          have n1 : mdE [] = 90 := nil_dE
          have sA : sl (k : Int) = 0 := h1
          have sB : sl (k' : Int) = 1 := h2
          have C2 : mdC PA [] = ⟨[g, ph, t, (k : Int), r, p, l], xs, 0, 92⟩ := by
            unfold mdC
            rw [rest0_yes ⟨a1, by rw [a2]; exact sA, by rw [a2]; show (0 : Int) < (k : Int); omega⟩, rest1_no ⟨by rw [n1]; decide, fun e => by rw [n1] at e; exact absurd e.1 (by decide)⟩, a2, a3]
            rfl
          have C3 : mdC [] PB = ⟨[g', ph', t', (k' : Int), r', p', l'], ys, 1, 92⟩ := by
            unfold mdC
            rw [show ch0 = ⟨[0, 0, 0, 0, 0, 0, 0], [], -1, 92⟩ from rfl, rest0_no ⟨by rw [n1]; decide, fun e => by rw [n1] at e; exact absurd e.1 (by decide)⟩, rest1_yes ⟨b1, by rw [b2]; exact sB, by rw [b2]; show (0 : Int) < (k' : Int); omega⟩, b2, b3]
            rfl
          have hC2 : ∀ W v u, Only (w.heap.size ≤ ·) w W → Src W v PA → u = .slice none 0 0 → Calls Tryd.prog 35 #[v, u] W (fun e w' => ∃ A c, e = .returned (.tuple #[.agg #[.int .i64 g, .int .i64 ph, .int .i64 t, .int .i64 (k : Nat), .int .i64 r, .int .i64 p, .int .i64 l, .slice A n c], .int .i64 0, .int .i64 0]) ∧ Src w' (.slice A n c) xs ∧ Only (W.heap.size ≤ ·) W w') := fun W v u hW hv hu => by
            subst hu
            refine (MChoose_c W v _ PA [] (hG.later hW) hv (Src.nil_ _) (by rw [a4]; decide) (by decide)).mono ?_
            rw [C2]
            rintro e w' ⟨q1, q2, q3, q4, q5, q6, q7, A', n', c', hM, hn', rfl, hw, ho⟩
            simp only [List.cons.injEq, and_true] at hM
            obtain ⟨rfl, rfl, rfl, rfl, rfl, rfl, rfl⟩ := hM
            obtain rfl : n' = n := hn'.trans hn.symm
            exact ⟨A', c', rfl, hw.src, ho⟩
          have hC3 : ∀ W v u, Only (w.heap.size ≤ ·) w W → v = .slice none 0 0 → Src W u PB → Calls Tryd.prog 35 #[v, u] W (fun e w' => ∃ A c, e = .returned (.tuple #[.agg #[.int .i64 g', .int .i64 ph', .int .i64 t', .int .i64 (k' : Nat), .int .i64 r', .int .i64 p', .int .i64 l', .slice A m c], .int .i64 1, .int .i64 0]) ∧ Src w' (.slice A m c) ys ∧ Only (W.heap.size ≤ ·) W w') := fun W v u hW hu hv => by
            subst hu
            refine (MChoose_c W _ u [] PB (hG.later hW) (Src.nil_ _) hv (by decide) (by rw [b4]; decide)).mono ?_
            rw [C3]
            rintro e w' ⟨q1, q2, q3, q4, q5, q6, q7, A', n', c', hM, hn', rfl, hw, ho⟩
            simp only [List.cons.injEq, and_true] at hM
            obtain ⟨rfl, rfl, rfl, rfl, rfl, rfl, rfl⟩ := hM
            obtain rfl : n' = m := hn'.trans hm.symm
            exact ⟨A', c', rfl, hw.src, ho⟩
          by_cases hlt : k < k'
          · have C1 : mdC PA PB = ⟨[g', ph', t', (k' : Int), r', p', l'], ys, 1, 92⟩ := by
              unfold mdC
              rw [rest0_yes ⟨a1, by rw [a2]; exact sA, by rw [a2]; show (0 : Int) < (k : Int); omega⟩, rest1_yes ⟨b1, by rw [b2]; exact sB, by rw [a2, b2]; show (k : Int) < (k' : Int); omega⟩, b2, b3]
              rfl
            refine newer_b w hG g ph t r p l g' ph' t' r' p' l' k k' A B n c m d xs ys PA PB hx hy hEA hEB (fun W v u hW hv hu => ?_) hC2 hC3 hka hkb hk1 hk2 hlt
            refine (MChoose_c W v u PA PB (hG.later hW) hv hu (by rw [a4]; decide) (by rw [b4]; decide)).mono ?_
            rw [C1]
            rintro e w' ⟨q1, q2, q3, q4, q5, q6, q7, A', n', c', hM, hn', rfl, hw, ho⟩
            simp only [List.cons.injEq, and_true] at hM
            obtain ⟨rfl, rfl, rfl, rfl, rfl, rfl, rfl⟩ := hM
            obtain rfl : n' = m := hn'.trans hm.symm
            exact ⟨A', c', rfl, hw.src, ho⟩
          · have C1 : mdC PA PB = ⟨[g, ph, t, (k : Int), r, p, l], xs, 0, 92⟩ := by
              unfold mdC
              rw [rest0_yes ⟨a1, by rw [a2]; exact sA, by rw [a2]; show (0 : Int) < (k : Int); omega⟩, rest1_no ⟨by rw [b1]; decide, fun e => hlt (by have h := e.2.2; rw [a2, b2] at h; have h' : (k : Int) < (k' : Int) := h; omega)⟩, a2, a3]
              rfl
            refine newer_a w hG g ph t r p l g' ph' t' r' p' l' k k' A B n c m d xs ys PA PB hx hy hEA hEB (fun W v u hW hv hu => ?_) hC2 hC3 hka hkb hk1 hk2 hlt
            refine (MChoose_c W v u PA PB (hG.later hW) hv hu (by rw [a4]; decide) (by rw [b4]; decide)).mono ?_
            rw [C1]
            rintro e w' ⟨q1, q2, q3, q4, q5, q6, q7, A', n', c', hM, hn', rfl, hw, ho⟩
            simp only [List.cons.injEq, and_true] at hM
            obtain ⟨rfl, rfl, rfl, rfl, rfl, rfl, rfl⟩ := hM
            obtain rfl : n' = n := hn'.trans hn.symm
            exact ⟨A', c', rfl, hw.src, ho⟩
        · exact newer_out w hG g ph t r p l g' ph' t' r' p' l' A B n c m d x x' _ _ 0 0 hEA hEB (.inr ⟨rfl, .inr ⟨rfl, .inr ⟨h1, h2⟩⟩⟩)
      · exact newer_out w hG g ph t r p l g' ph' t' r' p' l' A B n c m d x x' _ _ 0 0 hEA hEB (.inr ⟨rfl, .inr ⟨rfl, .inl h1⟩⟩)
    · rw [if_pos ha, if_pos ha] at hEA
      rw [if_neg hb, if_neg hb] at hEB
      exact newer_out w hG g ph t r p l g' ph' t' r' p' l' A B n c m d x x' _ _ 0 92 hEA hEB (.inr ⟨rfl, .inl (by decide)⟩)
  · rw [if_neg ha, if_neg ha] at hEA
    exact newer_out w hG g ph t r p l g' ph' t' r' p' l' A B n c m d x x' _ _ 92 _ hEA hEB (.inl (by decide))
end Go.Proofs.YtoghojgajpfkkaaDoor
