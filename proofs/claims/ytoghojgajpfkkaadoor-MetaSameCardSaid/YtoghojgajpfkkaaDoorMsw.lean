/-
  MetaSame: the walk.
-/
import Derived.Test.YtoghojgajpfkkaaDoorMag
set_option linter.unusedVariables false
namespace Go.Proofs.YtoghojgajpfkkaaDoor
open Go.RowKit

section
variable (w : World) (hG : Gens w)
include hG
set_option maxRecDepth 100000 in
set_option maxHeartbeats 6400000 in
theorem msame_out (g ph t x r p l g' ph' t' x' r' p' l' : Int) (A B : Option Addr) (n c m d : Nat) (h : 300 < n ∨ 300 < m ∨ x < 0) : Calls Tryd.prog 10 #[.agg #[.int .i64 g, .int .i64 ph, .int .i64 t, .int .i64 x, .int .i64 r, .int .i64 p, .int .i64 l, .slice A n c], .agg #[.int .i64 g', .int .i64 ph', .int .i64 t', .int .i64 x', .int .i64 r', .int .i64 p', .int .i64 l', .slice B m d]] w (Told w (.bool true)) := by
  obtain ⟨w1, hw1⟩ : ∃ W0, W0 = (w.alloc (.cells #[.int .i64 g, .int .i64 ph, .int .i64 t, .int .i64 x, .int .i64 r, .int .i64 p, .int .i64 l, .slice A n c] 52)).alloc (.cells #[.int .i64 g', .int .i64 ph', .int .i64 t', .int .i64 x', .int .i64 r', .int .i64 p', .int .i64 l', .slice B m d] 52) := ⟨_, rfl⟩
  have HO : Hid (Only (w.heap.size ≤ ·) w w1) := Lib.hid (by rw [hw1]; exact ((Only.refl _ w).alloc (fun _ h => h) _).alloc (fun _ h => h) _)
  have HA : Hid (Blk w1 w.heap.size 52 [.int .i64 g, .int .i64 ph, .int .i64 t, .int .i64 x, .int .i64 r, .int .i64 p, .int .i64 l, .slice A n c]) := Lib.hid (by rw [hw1]; exact (Blk.new w 52 _).alloc _)
  have HB : Hid (Blk w1 (w.heap.size + 1) 52 [.int .i64 g', .int .i64 ph', .int .i64 t', .int .i64 x', .int .i64 r', .int .i64 p', .int .i64 l', .slice B m d]) := Lib.hid (by
    rw [hw1]
    have := Blk.new (w.alloc (.cells #[.int .i64 g, .int .i64 ph, .int .i64 t, .int .i64 x, .int .i64 r, .int .i64 p, .int .i64 l, .slice A n c] 52)) 52 [.int .i64 g', .int .i64 ph', .int .i64 t', .int .i64 x', .int .i64 r', .int .i64 p', .int .i64 l', .slice B m d]
    simpa using this)
  have HAL : Hid (∀ W, Only (w.heap.size ≤ ·) w W → Calls Tryd.prog 25 #[] W (Told W (.bool true))) := Lib.hid fun W hW => malive_c W (hG.later hW)
  clear hG
  by_cases h1 : 300 < n
  · have h1i : (300 : Int) < (n : Int) := by omega
    clear h
    (obtain ⟨i0, i1, i2, i3, i4, i5, i6, i7⟩ := HA.out.eight); (obtain ⟨j0, j1, j2, j3, j4, j5, j6, j7⟩ := HB.out.eight)
    go_enter Tryd.func10, Tryd.ntmps10
    go_upto_region 1 with (fail)
    rw [← hw1]
    clear hw1
    go_wp2_with (go_at_call 25; (with_reducible refine (HAL.out _ HO.out).mono ?_); rintro ee w2 ⟨rfl, ho⟩; (replace HO := Lib.hid (on_new HO.out ho)); clear ho)
    go_ret
    exact ⟨rfl, HO.out⟩
  have h1i : ¬ (300 : Int) < (n : Int) := by omega
  by_cases h2 : 300 < m
  · have h2i : (300 : Int) < (m : Int) := by omega
    clear h
    (obtain ⟨i0, i1, i2, i3, i4, i5, i6, i7⟩ := HA.out.eight); (obtain ⟨j0, j1, j2, j3, j4, j5, j6, j7⟩ := HB.out.eight)
    go_enter Tryd.func10, Tryd.ntmps10
    go_upto_region 1 with (fail)
    rw [← hw1]
    clear hw1
    go_wp2_with (go_at_call 25; (with_reducible refine (HAL.out _ HO.out).mono ?_); rintro ee w2 ⟨rfl, ho⟩; (replace HO := Lib.hid (on_new HO.out ho)); clear ho)
    go_ret
    exact ⟨rfl, HO.out⟩
  have h2i : ¬ (300 : Int) < (m : Int) := by omega
  have h3i : x < 0 := by omega
  clear h
  (obtain ⟨i0, i1, i2, i3, i4, i5, i6, i7⟩ := HA.out.eight); (obtain ⟨j0, j1, j2, j3, j4, j5, j6, j7⟩ := HB.out.eight)
  go_enter Tryd.func10, Tryd.ntmps10
  go_upto_region 1 with (fail)
  rw [← hw1]
  clear hw1
  go_wp2_with (go_at_call 25; (with_reducible refine (HAL.out _ HO.out).mono ?_); rintro ee w2 ⟨rfl, ho⟩; (replace HO := Lib.hid (on_new HO.out ho)); clear ho)
  go_ret
  exact ⟨rfl, HO.out⟩
set_option maxRecDepth 100000 in
set_option maxHeartbeats 6400000 in
theorem msame_go (k : Nat) (g ph t r p l g' ph' t' x' r' p' l' : Int) (A B : Option Addr) (n c m d : Nat) (h1 : ¬ 300 < n) (h2 : ¬ 300 < m) (hk : k < 9223372036854775808) (q : Bool) (hS : ∀ W, Only (w.heap.size ≤ ·) w W → Calls Tryd.prog 31 #[.agg #[.int .i64 g, .int .i64 ph, .int .i64 t, .int .i64 (k : Nat), .int .i64 r, .int .i64 p, .int .i64 l, .slice A n c], .agg #[.int .i64 g', .int .i64 ph', .int .i64 t', .int .i64 x', .int .i64 r', .int .i64 p', .int .i64 l', .slice B m d]] W (Told W (.bool q))) (hR : ∀ W, Only (w.heap.size ≤ ·) w W → Calls Tryd.prog 33 #[.agg #[.int .i64 g, .int .i64 ph, .int .i64 t, .int .i64 (k : Nat), .int .i64 r, .int .i64 p, .int .i64 l, .slice A n c], .agg #[.int .i64 g', .int .i64 ph', .int .i64 t', .int .i64 x', .int .i64 r', .int .i64 p', .int .i64 l', .slice B m d]] W (Told W (.bool q))) : Calls Tryd.prog 10 #[.agg #[.int .i64 g, .int .i64 ph, .int .i64 t, .int .i64 (k : Nat), .int .i64 r, .int .i64 p, .int .i64 l, .slice A n c], .agg #[.int .i64 g', .int .i64 ph', .int .i64 t', .int .i64 x', .int .i64 r', .int .i64 p', .int .i64 l', .slice B m d]] w (Told w (.bool true)) := by
  obtain ⟨w1, hw1⟩ : ∃ W0, W0 = (w.alloc (.cells #[.int .i64 g, .int .i64 ph, .int .i64 t, .int .i64 (k : Nat), .int .i64 r, .int .i64 p, .int .i64 l, .slice A n c] 52)).alloc (.cells #[.int .i64 g', .int .i64 ph', .int .i64 t', .int .i64 x', .int .i64 r', .int .i64 p', .int .i64 l', .slice B m d] 52) := ⟨_, rfl⟩
  have HO : Hid (Only (w.heap.size ≤ ·) w w1) := Lib.hid (by rw [hw1]; exact ((Only.refl _ w).alloc (fun _ h => h) _).alloc (fun _ h => h) _)
  have HA : Hid (Blk w1 w.heap.size 52 [.int .i64 g, .int .i64 ph, .int .i64 t, .int .i64 (k : Nat), .int .i64 r, .int .i64 p, .int .i64 l, .slice A n c]) := Lib.hid (by rw [hw1]; exact (Blk.new w 52 _).alloc _)
  have HB : Hid (Blk w1 (w.heap.size + 1) 52 [.int .i64 g', .int .i64 ph', .int .i64 t', .int .i64 x', .int .i64 r', .int .i64 p', .int .i64 l', .slice B m d]) := Lib.hid (by
    rw [hw1]
    have := Blk.new (w.alloc (.cells #[.int .i64 g, .int .i64 ph, .int .i64 t, .int .i64 (k : Nat), .int .i64 r, .int .i64 p, .int .i64 l, .slice A n c] 52)) 52 [.int .i64 g', .int .i64 ph', .int .i64 t', .int .i64 x', .int .i64 r', .int .i64 p', .int .i64 l', .slice B m d]
    simpa using this)
  have HAL : Hid (∀ W, Only (w.heap.size ≤ ·) w W → Calls Tryd.prog 25 #[] W (Told W (.bool true))) := Lib.hid fun W hW => malive_c W (hG.later hW)
  have HSM := Lib.hid hS
  have HRS := Lib.hid hR
  have HSL : Hid (∀ W, Calls Tryd.prog 37 #[.int .i64 (k : Nat)] W fun e w' => e = .returned (.int .i64 ((k % 2 : Nat) : Int)) ∧ W = w') := Lib.hid fun W => by have h := MSlot_c W (k : Int); rwa [and_one k hk] at h
  have h1i : ¬ (300 : Int) < (n : Int) := by omega
  have h2i : ¬ (300 : Int) < (m : Int) := by omega
  have h3i : ¬ (k : Int) < 0 := by omega
  clear hG hS hR h1 h2
  (obtain ⟨i0, i1, i2, i3, i4, i5, i6, i7⟩ := HA.out.eight); (obtain ⟨j0, j1, j2, j3, j4, j5, j6, j7⟩ := HB.out.eight)
  go_enter Tryd.func10, Tryd.ntmps10
  go_upto_region 1 with (fail)
  rw [← hw1]
  clear hw1
  go_upto_region 3 with (fail)
  clear i0 i1 i2 i3 i4 i5 i6 i7 j0 j1 j2 j3 j4 j5 j6 j7
  replace HA := Lib.hid HA.out.drew
  replace HB := Lib.hid HB.out.drew
  replace HO := Lib.hid HO.out.drew
  refine wp_region_list (B := [false, false, false, false, false, false, false, false, false, false, false, false, false, false, false, false, false, false, false, false]) (S := (fun W => W.cell? ⟨w.heap.size, 0, none⟩ = some (.int .i64 g) ∧ W.cell? ⟨w.heap.size, 1, none⟩ = some (.int .i64 ph) ∧ W.cell? ⟨w.heap.size, 2, none⟩ = some (.int .i64 t) ∧ W.cell? ⟨w.heap.size, 3, none⟩ = some (.int .i64 (k : Nat)) ∧ W.cell? ⟨w.heap.size, 4, none⟩ = some (.int .i64 r) ∧ W.cell? ⟨w.heap.size, 5, none⟩ = some (.int .i64 p) ∧ W.cell? ⟨w.heap.size, 6, none⟩ = some (.int .i64 l) ∧ W.cell? ⟨w.heap.size, 7, none⟩ = some (.slice A n c) ∧ W.cell? ⟨w.heap.size + 1, 0, none⟩ = some (.int .i64 g') ∧ W.cell? ⟨w.heap.size + 1, 1, none⟩ = some (.int .i64 ph') ∧ W.cell? ⟨w.heap.size + 1, 2, none⟩ = some (.int .i64 t') ∧ W.cell? ⟨w.heap.size + 1, 3, none⟩ = some (.int .i64 x') ∧ W.cell? ⟨w.heap.size + 1, 4, none⟩ = some (.int .i64 r') ∧ W.cell? ⟨w.heap.size + 1, 5, none⟩ = some (.int .i64 p') ∧ W.cell? ⟨w.heap.size + 1, 6, none⟩ = some (.int .i64 l') ∧ W.cell? ⟨w.heap.size + 1, 7, none⟩ = some (.slice B m d))) (by kernel_rfl) (by kernel_rfl) (by kernel_rfl) (by obtain ⟨i0, i1, i2, i3, i4, i5, i6, i7⟩ := HA.out.eight; obtain ⟨j0, j1, j2, j3, j4, j5, j6, j7⟩ := HB.out.eight; exact ⟨i0, i1, i2, i3, i4, i5, i6, i7, j0, j1, j2, j3, j4, j5, j6, j7⟩) (fun hsel hHeld => ?_)
  generalize hwz : World.drew _ = wz at HA HB HO hHeld ⊢
  clear hwz
  have HOZ := Lib.hid (Only.refl (wz.heap.size ≤ ·) wz)
  have KC : Hid (∀ W, Only (wz.heap.size ≤ ·) wz W → W.cell? ⟨w.heap.size, 0, none⟩ = some (.int .i64 g) ∧ W.cell? ⟨w.heap.size, 1, none⟩ = some (.int .i64 ph) ∧ W.cell? ⟨w.heap.size, 2, none⟩ = some (.int .i64 t) ∧ W.cell? ⟨w.heap.size, 3, none⟩ = some (.int .i64 (k : Nat)) ∧ W.cell? ⟨w.heap.size, 4, none⟩ = some (.int .i64 r) ∧ W.cell? ⟨w.heap.size, 5, none⟩ = some (.int .i64 p) ∧ W.cell? ⟨w.heap.size, 6, none⟩ = some (.int .i64 l) ∧ W.cell? ⟨w.heap.size, 7, none⟩ = some (.slice A n c) ∧ W.cell? ⟨w.heap.size + 1, 0, none⟩ = some (.int .i64 g') ∧ W.cell? ⟨w.heap.size + 1, 1, none⟩ = some (.int .i64 ph') ∧ W.cell? ⟨w.heap.size + 1, 2, none⟩ = some (.int .i64 t') ∧ W.cell? ⟨w.heap.size + 1, 3, none⟩ = some (.int .i64 x') ∧ W.cell? ⟨w.heap.size + 1, 4, none⟩ = some (.int .i64 r') ∧ W.cell? ⟨w.heap.size + 1, 5, none⟩ = some (.int .i64 p') ∧ W.cell? ⟨w.heap.size + 1, 6, none⟩ = some (.int .i64 l') ∧ W.cell? ⟨w.heap.size + 1, 7, none⟩ = some (.slice B m d)) := Lib.hid fun W hW => by
    obtain ⟨i0, i1, i2, i3, i4, i5, i6, i7⟩ := (HA.out.later hW).eight
    obtain ⟨j0, j1, j2, j3, j4, j5, j6, j7⟩ := (HB.out.later hW).eight
    exact ⟨i0, i1, i2, i3, i4, i5, i6, i7, j0, j1, j2, j3, j4, j5, j6, j7⟩
  refine wpAnyL_ready (rs := [0]) (by kernel_rfl) (by kernel_rfl) (by simp) ?_
  refine AllReadyL.cons (o := ?_) ?_ (fun K hK => ?_) AllReadyL.nil
  case refine_2 => (simp only [List.getElem?_cons_zero]; rfl)
  go_simp
  (go_at_call 25; (with_reducible refine (HAL.out _ (on_new HO.out HOZ.out)).mono ?_); rintro ee w2 ⟨rfl, ho⟩; (replace HOZ := Lib.hid (on_new HOZ.out ho)); clear ho)
  go_wp2_with (fail)
  clear hHeld
  refine hK.out _ _ (KC.out _ HOZ.out) (fun hHeld => ?_)
  clear hK K
  try simp only [List.set_cons_zero]
  refine oneA 1 22 hsel (h := ?_)
  simp only [Act.put, List.setIfInBounds_toArray, List.set_cons_zero, List.set_cons_succ]
  refine oneA 2 23 hsel (h := ?_)
  simp only [Act.put, List.setIfInBounds_toArray, List.set_cons_zero, List.set_cons_succ]
  refine oneA 3 24 hsel (h := ?_)
  simp only [Act.put, List.setIfInBounds_toArray, List.set_cons_zero, List.set_cons_succ]
  refine oneA 5 26 hsel (h := ?_)
  simp only [Act.put, List.setIfInBounds_toArray, List.set_cons_zero, List.set_cons_succ]
  refine oneA 6 27 hsel (h := ?_)
  simp only [Act.put, List.setIfInBounds_toArray, List.set_cons_zero, List.set_cons_succ]
  refine wpAnyL_ready (rs := [4]) (by kernel_rfl) (by kernel_rfl) (by simp) ?_
  refine AllReadyL.cons (o := ?_) ?_ (fun K hK => ?_) AllReadyL.nil
  case refine_2 => (simp only [List.getElem?_cons_succ, List.getElem?_cons_zero]; rfl)
  go_simp
  (go_at_call 31; (with_reducible refine (HSM.out _ (on_new HO.out HOZ.out)).mono ?_); rintro ee w2 ⟨rfl, ho⟩; (replace HOZ := Lib.hid (on_new HOZ.out ho)); clear ho)
  go_wp2_with (fail)
  clear hHeld
  refine hK.out _ _ (KC.out _ HOZ.out) (fun hHeld => ?_)
  clear hK K
  try simp only [List.set_cons_zero, List.set_cons_succ]
  refine wpAnyL_ready (rs := [7]) (by kernel_rfl) (by kernel_rfl) (by simp) ?_
  refine AllReadyL.cons (o := ?_) ?_ (fun K hK => ?_) AllReadyL.nil
  case refine_2 => (simp only [List.getElem?_cons_succ, List.getElem?_cons_zero]; rfl)
  go_simp
  (go_at_call 33; (with_reducible refine (HRS.out _ (on_new HO.out HOZ.out)).mono ?_); rintro ee w2 ⟨rfl, ho⟩; (replace HOZ := Lib.hid (on_new HOZ.out ho)); clear ho)
  go_wp2_with (fail)
  clear hHeld
  refine hK.out _ _ (KC.out _ HOZ.out) (fun hHeld => ?_)
  clear hK K
  try simp only [List.set_cons_zero, List.set_cons_succ]
  refine oneA 8 29 hsel (h := ?_)
  simp only [Act.put, List.setIfInBounds_toArray, List.set_cons_zero, List.set_cons_succ]
  refine oneA 9 30 hsel (h := ?_)
  simp only [Act.put, List.setIfInBounds_toArray, List.set_cons_zero, List.set_cons_succ]
  refine oneA 10 31 hsel (h := ?_)
  simp only [Act.put, List.setIfInBounds_toArray, List.set_cons_zero, List.set_cons_succ]
  refine oneA 11 32 hsel (h := ?_)
  simp only [Act.put, List.setIfInBounds_toArray, List.set_cons_zero, List.set_cons_succ]
  refine oneA 12 33 hsel (h := ?_)
  simp only [Act.put, List.setIfInBounds_toArray, List.set_cons_zero, List.set_cons_succ]
  refine oneA 14 35 hsel (h := ?_)
  simp only [Act.put, List.setIfInBounds_toArray, List.set_cons_zero, List.set_cons_succ]
  refine oneA 15 36 hsel (h := ?_)
  simp only [Act.put, List.setIfInBounds_toArray, List.set_cons_zero, List.set_cons_succ]
  refine oneA 16 37 hsel (h := ?_)
  simp only [Act.put, List.setIfInBounds_toArray, List.set_cons_zero, List.set_cons_succ]
  refine wpAnyL_ready (rs := [13]) (by kernel_rfl) (by kernel_rfl) (by simp) ?_
  refine AllReadyL.cons (o := ?_) ?_ (fun K hK => ?_) AllReadyL.nil
  case refine_2 => (simp only [List.getElem?_cons_succ, List.getElem?_cons_zero]; rfl)
  go_simp
  (go_at_call 37; (with_reducible refine (HSL.out _).mono ?_); rintro ee w2 ⟨rfl, rfl⟩)
  go_wp2_with (fail)
  clear hHeld
  refine hK.out _ _ (KC.out _ HOZ.out) (fun hHeld => ?_)
  clear hK K
  try simp only [List.set_cons_zero, List.set_cons_succ]
  refine oneA 17 38 hsel (h := ?_)
  simp only [Act.put, List.setIfInBounds_toArray, List.set_cons_zero, List.set_cons_succ]
  refine oneA 18 39 hsel (h := ?_)
  simp only [Act.put, List.setIfInBounds_toArray, List.set_cons_zero, List.set_cons_succ]
  refine oneA 19 4 hsel (h := ?_)
  simp only [Act.put, List.setIfInBounds_toArray, List.set_cons_zero, List.set_cons_succ]
  refine wpAnyL_done (by kernel_rfl) (by kernel_rfl) ?_ _
  clear hsel hHeld
  go_wp2
  go_ret
  exact ⟨by simp; rw [Int.tmod_eq_emod_of_nonneg (Int.natCast_nonneg k)], on_new HO.out HOZ.out⟩
end
theorem msame_c (w : World) (g ph t x r p l g' ph' t' x' r' p' l' : Int) (A B : Option Addr) (n c m d : Nat) (xs ys : Bytes) (hG : Gens w) (hx : Src w (.slice A n c) xs) (hy : Src w (.slice B m d) ys) (hI : I64 x) : Calls Tryd.prog 10 #[.agg #[.int .i64 g, .int .i64 ph, .int .i64 t, .int .i64 x, .int .i64 r, .int .i64 p, .int .i64 l, .slice A n c], .agg #[.int .i64 g', .int .i64 ph', .int .i64 t', .int .i64 x', .int .i64 r', .int .i64 p', .int .i64 l', .slice B m d]] w (Told w (.bool true)) := by
  by_cases h : 300 < n ∨ 300 < m ∨ x < 0
  · exact msame_out w hG g ph t x r p l g' ph' t' x' r' p' l' A B n c m d h
  · obtain ⟨k, rfl⟩ : ∃ k : Nat, x = (k : Int) := ⟨x.toNat, by omega⟩
    exact msame_go w hG k g ph t r p l g' ph' t' x' r' p' l' A B n c m d (by omega) (by omega) (by unfold I64 at hI; omega) (decide ([g, ph, t, (k : Int), r, p, l] = [g', ph', t', x', r', p', l']) && decide (xs = ys))
      (fun W hW => MSame_c W g ph t k r p l g' ph' t' x' r' p' l' A B n c m d _ rfl _ (fun W' hW' => Equal_b W' _ _ xs ys _ ((hx.later hW).later hW') ((hy.later hW).later hW') rfl))
      (fun W hW => rmSame_c W g ph t k r p l g' ph' t' x' r' p' l' A B n c m d xs ys (hx.later hW) (hy.later hW))
end Go.Proofs.YtoghojgajpfkkaaDoor
