/-
  MetaEncodes: the walk.
-/
import Derived.Test.YtoghojgajpfkkaaDoorMre
import Derived.Test.YtoghojgajpfkkaaDoorMnw
set_option linter.unusedVariables false
namespace Go.Proofs.YtoghojgajpfkkaaDoor
open Go.RowKit

section
variable (w : World) (hG : Gens w) (g ph t x r p l : Int) (A : Option Addr) (n c : Nat)
include hG
set_option maxRecDepth 100000 in
set_option maxHeartbeats 3200000 in
theorem menc_out (hn : 300 < n) : Calls Tryd.prog 7 #[.agg #[.int .i64 g, .int .i64 ph, .int .i64 t, .int .i64 x, .int .i64 r, .int .i64 p, .int .i64 l, .slice A n c]] w (Told w (.bool true)) := by
  obtain ⟨w1, hw1⟩ : ∃ W0, W0 = w.alloc (.cells #[.int .i64 g, .int .i64 ph, .int .i64 t, .int .i64 x, .int .i64 r, .int .i64 p, .int .i64 l, .slice A n c] 52) := ⟨_, rfl⟩
  have HO : Hid (Only (w.heap.size ≤ ·) w w1) := Lib.hid (by rw [hw1]; exact (Only.refl _ w).alloc (fun _ h => h) _)
  have HA : Hid (Blk w1 w.heap.size 52 [.int .i64 g, .int .i64 ph, .int .i64 t, .int .i64 x, .int .i64 r, .int .i64 p, .int .i64 l, .slice A n c]) := Lib.hid (by rw [hw1]; exact Blk.new w 52 _)
  have HAL : Hid (∀ W, Only (w.heap.size ≤ ·) w W → Calls Tryd.prog 25 #[] W (Told W (.bool true))) := Lib.hid fun W hW => malive_c W (hG.later hW)
  have h1i : (300 : Int) < (n : Int) := by omega
  clear hG hn
  obtain ⟨i0, i1, i2, i3, i4, i5, i6, i7⟩ := HA.out.eight
  go_enter Tryd.func7, Tryd.ntmps7
  go_upto_region 1 with (fail)
  rw [← hw1]
  clear hw1
  go_wp2_with (go_at_call 25; (with_reducible refine (HAL.out _ HO.out).mono ?_); rintro ee w2 ⟨rfl, ho⟩; (replace HO := Lib.hid (on_new HO.out ho)); clear ho)
  go_ret
  exact ⟨rfl, HO.out⟩
set_option maxRecDepth 100000 in
set_option maxHeartbeats 25600000 in
theorem menc_n1 (xs PB : Bytes) (q : Bool) (hn : ¬ 300 < n) (hs : Src w (.slice A n c) xs)
    (hEN : ∀ W, Only (w.heap.size ≤ ·) w W → Calls Tryd.prog 26 #[.agg #[.int .i64 g, .int .i64 1, .int .i64 t, .int .i64 x, .int .i64 r, .int .i64 p, .int .i64 l, .slice A n c]] W (GaveBE W PB 92)) (hRE : ∀ W, Only (w.heap.size ≤ ·) w W → Calls Tryd.prog 27 #[.agg #[.int .i64 g, .int .i64 1, .int .i64 t, .int .i64 x, .int .i64 r, .int .i64 p, .int .i64 l, .slice A n c]] W (GaveBE W PB 92))
    (hR1 : ∀ W, Only (w.heap.size ≤ ·) w W → Calls Tryd.prog 28 #[.agg #[.int .i64 g, .int .i64 1, .int .i64 t, .int .i64 x, .int .i64 r, .int .i64 p, .int .i64 l, .slice A n c]] W (Told W (.bool q))) (hR2 : ∀ W, Calls Tryd.prog 29 #[.agg #[.int .i64 g, .int .i64 1, .int .i64 t, .int .i64 x, .int .i64 r, .int .i64 p, .int .i64 l, .slice A n c]] W (Told W (.bool q)))
    (hWR : ∀ W, Calls Tryd.prog 30 #[.agg #[.int .i64 g, .int .i64 1, .int .i64 t, .int .i64 x, .int .i64 r, .int .i64 p, .int .i64 l, .slice A n c]] W (Told W (.int .i64 t))) (hSM : ∀ W, Only (w.heap.size ≤ ·) w W → Calls Tryd.prog 31 #[.agg #[.int .i64 g, .int .i64 1, .int .i64 t, .int .i64 x, .int .i64 r, .int .i64 p, .int .i64 l, .slice A n c], .agg #[.int .i64 g, .int .i64 1, .int .i64 t, .int .i64 x, .int .i64 r, .int .i64 p, .int .i64 l, .slice A n c]] W (Told W (.bool true))) : Calls Tryd.prog 7 #[.agg #[.int .i64 g, .int .i64 1, .int .i64 t, .int .i64 x, .int .i64 r, .int .i64 p, .int .i64 l, .slice A n c]] w (Told w (.bool true)) := by
  obtain ⟨w1, hw1⟩ : ∃ W0, W0 = w.alloc (.cells #[.int .i64 g, .int .i64 1, .int .i64 t, .int .i64 x, .int .i64 r, .int .i64 p, .int .i64 l, .slice A n c] 52) := ⟨_, rfl⟩
  have HO : Hid (Only (w.heap.size ≤ ·) w w1) := Lib.hid (by rw [hw1]; exact (Only.refl _ w).alloc (fun _ h => h) _)
  have HA : Hid (Blk w1 w.heap.size 52 [.int .i64 g, .int .i64 1, .int .i64 t, .int .i64 x, .int .i64 r, .int .i64 p, .int .i64 l, .slice A n c]) := Lib.hid (by rw [hw1]; exact Blk.new w 52 _)
  have HAL : Hid (∀ W, Only (w.heap.size ≤ ·) w W → Calls Tryd.prog 25 #[] W (Told W (.bool true))) := Lib.hid fun W hW => malive_c W (hG.later hW)
  have HEN := Lib.hid hEN
  have HRE := Lib.hid hRE
  have HR1 := Lib.hid hR1
  have HR2 := Lib.hid hR2
  have HWR : Hid (∀ W, Calls Tryd.prog 30 #[.agg #[.int .i64 g, .int .i64 1, .int .i64 t, .int .i64 x, .int .i64 r, .int .i64 p, .int .i64 l, .slice A n c]] W (Told W (.int .i64 t))) := Lib.hid hWR
  have HSM := Lib.hid hSM
  have HSC : Hid (∀ W, Only (w.heap.size ≤ ·) w W → Src W (.slice A n c) xs) := Lib.hid fun W hW => hs.later hW
  have h1i : ¬ (300 : Int) < (n : Int) := by omega

  clear hG hn hEN hRE hR1 hR2 hWR hSM hs 
  obtain ⟨i0, i1, i2, i3, i4, i5, i6, i7⟩ := HA.out.eight
  go_enter Tryd.func7, Tryd.ntmps7
  go_upto_region 1 with (fail)
  rw [← hw1]
  clear hw1
  go_upto_region 3 with (fail)
  obtain ⟨W2, hW2⟩ : ∃ y, y = w1.alloc (.cells #[.int .i64 g, .int .i64 1, .int .i64 t, .int .i64 x, .int .i64 r, .int .i64 p, .int .i64 l, .slice A n c] 53) := ⟨_, rfl⟩
  have HB : Hid (Blk W2 w1.heap.size 53 [.int .i64 g, .int .i64 1, .int .i64 t, .int .i64 x, .int .i64 r, .int .i64 p, .int .i64 l, .slice A n c]) := Lib.hid (by rw [hW2]; exact Blk.new w1 53 _)
  have HO2 : Hid (Only (w1.heap.size ≤ ·) w1 W2) := Lib.hid (by rw [hW2]; exact (Only.refl _ w1).alloc (fun _ h => h) _)
  go_upto_region 4 with (fail)
  rw [← hW2]
  clear hW2 i0 i1 i2 i3 i4 i5 i6 i7
  replace HA := Lib.hid (HA.out.later HO2.out)
  replace HO := Lib.hid (on_new HO.out HO2.out)
  clear HO2
  (obtain ⟨i0, i1, i2, i3, i4, i5, i6, i7⟩ := HA.out.eight); (obtain ⟨j0, j1, j2, j3, j4, j5, j6, j7⟩ := HB.out.eight)
  go_upto_region 9 with (first
    | (go_at_call 26; (with_reducible refine (HEN.out _ HO.out).mono ?_); rintro ee w2 ⟨v1, rfl, hv1, ho⟩; have HV1 := Lib.hid hv1; (replace HA := Lib.hid (HA.out.later ho)); (replace HB := Lib.hid (HB.out.later ho)); (replace HO := Lib.hid (on_new HO.out ho)); clear hv1 ho i0 i1 i2 i3 i4 i5 i6 i7 j0 j1 j2 j3 j4 j5 j6 j7; (obtain ⟨i0, i1, i2, i3, i4, i5, i6, i7⟩ := HA.out.eight); (obtain ⟨j0, j1, j2, j3, j4, j5, j6, j7⟩ := HB.out.eight))
    | (go_at_call 27; (with_reducible refine (HRE.out _ HO.out).mono ?_); rintro ee w3 ⟨v2, rfl, hv2, ho⟩; have HV2 := Lib.hid hv2; (replace HV1 := Lib.hid (HV1.out.later ho)); (replace HA := Lib.hid (HA.out.later ho)); (replace HB := Lib.hid (HB.out.later ho)); (replace HO := Lib.hid (on_new HO.out ho)); clear hv2 ho i0 i1 i2 i3 i4 i5 i6 i7 j0 j1 j2 j3 j4 j5 j6 j7; (obtain ⟨i0, i1, i2, i3, i4, i5, i6, i7⟩ := HA.out.eight); (obtain ⟨j0, j1, j2, j3, j4, j5, j6, j7⟩ := HB.out.eight)))
  clear i0 i1 i2 i3 i4 i5 i6 i7 j0 j1 j2 j3 j4 j5 j6 j7
  replace HA := Lib.hid HA.out.drew
  replace HB := Lib.hid HB.out.drew
  replace HO := Lib.hid HO.out.drew
  replace HV1 := Lib.hid (HV1.out.later (Only.refl _ _).drew)
  replace HV2 := Lib.hid (HV2.out.later (Only.refl _ _).drew)
  refine wp_region_list (B := [false, false, false, false, false, false, false, false, false, false, false, false, false, false, false, false, false, false, false, false, false, false, false, false, false, false, false, false]) (S := (fun W => W.cell? ⟨w.heap.size, 0, none⟩ = some (.int .i64 g) ∧ W.cell? ⟨w.heap.size, 1, none⟩ = some (.int .i64 1) ∧ W.cell? ⟨w.heap.size, 2, none⟩ = some (.int .i64 t) ∧ W.cell? ⟨w.heap.size, 3, none⟩ = some (.int .i64 x) ∧ W.cell? ⟨w.heap.size, 4, none⟩ = some (.int .i64 r) ∧ W.cell? ⟨w.heap.size, 5, none⟩ = some (.int .i64 p) ∧ W.cell? ⟨w.heap.size, 6, none⟩ = some (.int .i64 l) ∧ W.cell? ⟨w.heap.size, 7, none⟩ = some (.slice A n c) ∧ W.cell? ⟨w1.heap.size, 0, none⟩ = some (.int .i64 g) ∧ W.cell? ⟨w1.heap.size, 1, none⟩ = some (.int .i64 1) ∧ W.cell? ⟨w1.heap.size, 2, none⟩ = some (.int .i64 t) ∧ W.cell? ⟨w1.heap.size, 3, none⟩ = some (.int .i64 x) ∧ W.cell? ⟨w1.heap.size, 4, none⟩ = some (.int .i64 r) ∧ W.cell? ⟨w1.heap.size, 5, none⟩ = some (.int .i64 p) ∧ W.cell? ⟨w1.heap.size, 6, none⟩ = some (.int .i64 l) ∧ W.cell? ⟨w1.heap.size, 7, none⟩ = some (.slice A n c))) (by kernel_rfl) (by kernel_rfl) (by kernel_rfl) (by obtain ⟨i0, i1, i2, i3, i4, i5, i6, i7⟩ := HA.out.eight; obtain ⟨j0, j1, j2, j3, j4, j5, j6, j7⟩ := HB.out.eight; exact ⟨i0, i1, i2, i3, i4, i5, i6, i7, j0, j1, j2, j3, j4, j5, j6, j7⟩) (fun hsel hHeld => ?_)
  generalize hwz : World.drew _ = wz at HA HB HO HV1 HV2 hHeld ⊢
  clear hwz
  have HOZ := Lib.hid (Only.refl (wz.heap.size ≤ ·) wz)
  have KC : Hid (∀ W, Only (wz.heap.size ≤ ·) wz W → W.cell? ⟨w.heap.size, 0, none⟩ = some (.int .i64 g) ∧ W.cell? ⟨w.heap.size, 1, none⟩ = some (.int .i64 1) ∧ W.cell? ⟨w.heap.size, 2, none⟩ = some (.int .i64 t) ∧ W.cell? ⟨w.heap.size, 3, none⟩ = some (.int .i64 x) ∧ W.cell? ⟨w.heap.size, 4, none⟩ = some (.int .i64 r) ∧ W.cell? ⟨w.heap.size, 5, none⟩ = some (.int .i64 p) ∧ W.cell? ⟨w.heap.size, 6, none⟩ = some (.int .i64 l) ∧ W.cell? ⟨w.heap.size, 7, none⟩ = some (.slice A n c) ∧ W.cell? ⟨w1.heap.size, 0, none⟩ = some (.int .i64 g) ∧ W.cell? ⟨w1.heap.size, 1, none⟩ = some (.int .i64 1) ∧ W.cell? ⟨w1.heap.size, 2, none⟩ = some (.int .i64 t) ∧ W.cell? ⟨w1.heap.size, 3, none⟩ = some (.int .i64 x) ∧ W.cell? ⟨w1.heap.size, 4, none⟩ = some (.int .i64 r) ∧ W.cell? ⟨w1.heap.size, 5, none⟩ = some (.int .i64 p) ∧ W.cell? ⟨w1.heap.size, 6, none⟩ = some (.int .i64 l) ∧ W.cell? ⟨w1.heap.size, 7, none⟩ = some (.slice A n c)) := Lib.hid fun W hW => by
    obtain ⟨i0, i1, i2, i3, i4, i5, i6, i7⟩ := (HA.out.later hW).eight
    obtain ⟨j0, j1, j2, j3, j4, j5, j6, j7⟩ := (HB.out.later hW).eight
    exact ⟨i0, i1, i2, i3, i4, i5, i6, i7, j0, j1, j2, j3, j4, j5, j6, j7⟩
  refine oneA 0 34 hsel (h := ?_)
  simp only [Act.put, List.setIfInBounds_toArray, List.set_cons_zero, List.set_cons_succ]
  refine oneA 1 35 hsel (h := ?_)
  simp only [Act.put, List.setIfInBounds_toArray, List.set_cons_zero, List.set_cons_succ]
  refine oneA 2 36 hsel (h := ?_)
  simp only [Act.put, List.setIfInBounds_toArray, List.set_cons_zero, List.set_cons_succ]
  refine oneA 3 37 hsel (h := ?_)
  simp only [Act.put, List.setIfInBounds_toArray, List.set_cons_zero, List.set_cons_succ]
  refine oneA 4 38 hsel (h := ?_)
  simp only [Act.put, List.setIfInBounds_toArray, List.set_cons_zero, List.set_cons_succ]
  refine oneA 5 39 hsel (h := ?_)
  simp only [Act.put, List.setIfInBounds_toArray, List.set_cons_zero, List.set_cons_succ]
  refine wpAnyL_ready (rs := [6]) (by kernel_rfl) (by kernel_rfl) (by simp) ?_
  refine AllReadyL.cons (o := ?_) ?_ (fun K hK => ?_) AllReadyL.nil
  case refine_2 => (simp only [List.getElem?_cons_succ, List.getElem?_cons_zero]; rfl)
  go_simp
  (go_at_call 22; (with_reducible refine (Equal_b _ _ _ PB PB true (HV1.out.later HOZ.out) (HV2.out.later HOZ.out) (by simp)).mono ?_); rintro ee w' ⟨rfl, rfl⟩)
  go_wp2_with (fail)
  clear hHeld
  refine hK.out _ _ (KC.out _ HOZ.out) (fun hHeld => ?_)
  clear hK K
  try simp only [List.set_cons_zero, List.set_cons_succ]
  refine oneA 7 41 hsel (h := ?_)
  simp only [Act.put, List.setIfInBounds_toArray, List.set_cons_zero, List.set_cons_succ]
  refine oneA 8 42 hsel (h := ?_)
  simp only [Act.put, List.setIfInBounds_toArray, List.set_cons_zero, List.set_cons_succ]
  refine oneA 9 43 hsel (h := ?_)
  simp only [Act.put, List.setIfInBounds_toArray, List.set_cons_zero, List.set_cons_succ]
  refine oneA 10 44 hsel (h := ?_)
  simp only [Act.put, List.setIfInBounds_toArray, List.set_cons_zero, List.set_cons_succ]
  refine oneA 12 46 hsel (h := ?_)
  simp only [Act.put, List.setIfInBounds_toArray, List.set_cons_zero, List.set_cons_succ]
  refine wpAnyL_ready (rs := [11]) (by kernel_rfl) (by kernel_rfl) (by simp) ?_
  refine AllReadyL.cons (o := ?_) ?_ (fun K hK => ?_) AllReadyL.nil
  case refine_2 => (simp only [List.getElem?_cons_succ, List.getElem?_cons_zero]; rfl)
  go_simp
  (go_at_call 28; (with_reducible refine (HR1.out _ (on_new HO.out HOZ.out)).mono ?_); rintro ee w2 ⟨rfl, ho⟩; (replace HOZ := Lib.hid (on_new HOZ.out ho)); clear ho)
  go_wp2_with (fail)
  clear hHeld
  refine hK.out _ _ (KC.out _ HOZ.out) (fun hHeld => ?_)
  clear hK K
  try simp only [List.set_cons_zero, List.set_cons_succ]
  refine wpAnyL_ready (rs := [13]) (by kernel_rfl) (by kernel_rfl) (by simp) ?_
  refine AllReadyL.cons (o := ?_) ?_ (fun K hK => ?_) AllReadyL.nil
  case refine_2 => (simp only [List.getElem?_cons_succ, List.getElem?_cons_zero]; rfl)
  go_simp
  (go_at_call 29; (with_reducible refine (HR2.out _).mono ?_); rintro ee w2 ⟨rfl, ho⟩; (replace HOZ := Lib.hid (on_new HOZ.out ho)); clear ho)
  go_wp2_with (fail)
  clear hHeld
  refine hK.out _ _ (KC.out _ HOZ.out) (fun hHeld => ?_)
  clear hK K
  try simp only [List.set_cons_zero, List.set_cons_succ]
  refine oneA 14 48 hsel (h := ?_)
  simp only [Act.put, List.setIfInBounds_toArray, List.set_cons_zero, List.set_cons_succ]
  refine oneA 15 49 hsel (h := ?_)
  simp only [Act.put, List.setIfInBounds_toArray, List.set_cons_zero, List.set_cons_succ]
  refine oneA 16 50 hsel (h := ?_)
  simp only [Act.put, List.setIfInBounds_toArray, List.set_cons_zero, List.set_cons_succ]
  refine oneA 17 51 hsel (h := ?_)
  simp only [Act.put, List.setIfInBounds_toArray, List.set_cons_zero, List.set_cons_succ]
  refine oneA 19 53 hsel (h := ?_)
  simp only [Act.put, List.setIfInBounds_toArray, List.set_cons_zero, List.set_cons_succ]
  refine wpAnyL_ready (rs := [18]) (by kernel_rfl) (by kernel_rfl) (by simp) ?_
  refine AllReadyL.cons (o := ?_) ?_ (fun K hK => ?_) AllReadyL.nil
  case refine_2 => (simp only [List.getElem?_cons_succ, List.getElem?_cons_zero]; rfl)
  go_simp
  (go_at_call 30; (with_reducible refine (HWR.out _).mono ?_); rintro ee w2 ⟨rfl, ho⟩; (replace HOZ := Lib.hid (on_new HOZ.out ho)); clear ho)
  go_wp2_with (fail)
  clear hHeld
  refine hK.out _ _ (KC.out _ HOZ.out) (fun hHeld => ?_)
  clear hK K
  try simp only [List.set_cons_zero, List.set_cons_succ]
  refine oneA 20 54 hsel (h := ?_)
  simp only [Act.put, List.setIfInBounds_toArray, List.set_cons_zero, List.set_cons_succ]
  refine oneA 21 55 hsel (h := ?_)
  simp only [Act.put, List.setIfInBounds_toArray, List.set_cons_zero, List.set_cons_succ]
  refine oneA 22 56 hsel (h := ?_)
  simp only [Act.put, List.setIfInBounds_toArray, List.set_cons_zero, List.set_cons_succ]
  refine oneA 23 57 hsel (h := ?_)
  simp only [Act.put, List.setIfInBounds_toArray, List.set_cons_zero, List.set_cons_succ]
  refine oneA 24 58 hsel (h := ?_)
  simp only [Act.put, List.setIfInBounds_toArray, List.set_cons_zero, List.set_cons_succ]
  refine wpAnyL_ready (rs := [25]) (by kernel_rfl) (by kernel_rfl) (by simp) ?_
  refine AllReadyL.cons (o := ?_) ?_ (fun K hK => ?_) AllReadyL.nil
  case refine_2 => (simp only [List.getElem?_cons_succ, List.getElem?_cons_zero]; rfl)
  go_simp
  (go_at_call 31; (with_reducible refine (HSM.out _ (on_new HO.out HOZ.out)).mono ?_); rintro ee w2 ⟨rfl, ho⟩; (replace HOZ := Lib.hid (on_new HOZ.out ho)); clear ho)
  go_wp2_with (fail)
  clear hHeld
  refine hK.out _ _ (KC.out _ HOZ.out) (fun hHeld => ?_)
  clear hK K
  try simp only [List.set_cons_zero, List.set_cons_succ]
  refine oneA 26 60 hsel (h := ?_)
  simp only [Act.put, List.setIfInBounds_toArray, List.set_cons_zero, List.set_cons_succ]
  refine oneA 27 61 hsel (h := ?_)
  simp only [Act.put, List.setIfInBounds_toArray, List.set_cons_zero, List.set_cons_succ]
  refine wpAnyL_done (by kernel_rfl) (by kernel_rfl) ?_ _
  clear hsel hHeld
  go_wp2_with (go_at_call 25; (with_reducible refine (HAL.out _ (on_new HO.out HOZ.out)).mono ?_); rintro ee w2 ⟨rfl, ho⟩; (replace HOZ := Lib.hid (on_new HOZ.out ho)); clear ho)
  go_ret
  exact ⟨rfl, on_new HO.out HOZ.out⟩
set_option maxRecDepth 100000 in
set_option maxHeartbeats 25600000 in
theorem menc_n0 (hp : ph ≠ 1) (xs PB : Bytes) (q : Bool) (hn : ¬ 300 < n) (hs : Src w (.slice A n c) xs)
    (hEN : ∀ W, Only (w.heap.size ≤ ·) w W → Calls Tryd.prog 26 #[.agg #[.int .i64 g, .int .i64 ph, .int .i64 t, .int .i64 x, .int .i64 r, .int .i64 p, .int .i64 l, .slice A n c]] W (GaveBE W PB 92)) (hRE : ∀ W, Only (w.heap.size ≤ ·) w W → Calls Tryd.prog 27 #[.agg #[.int .i64 g, .int .i64 ph, .int .i64 t, .int .i64 x, .int .i64 r, .int .i64 p, .int .i64 l, .slice A n c]] W (GaveBE W PB 92))
    (hR1 : ∀ W, Only (w.heap.size ≤ ·) w W → Calls Tryd.prog 28 #[.agg #[.int .i64 g, .int .i64 ph, .int .i64 t, .int .i64 x, .int .i64 r, .int .i64 p, .int .i64 l, .slice A n c]] W (Told W (.bool q))) (hR2 : ∀ W, Calls Tryd.prog 29 #[.agg #[.int .i64 g, .int .i64 ph, .int .i64 t, .int .i64 x, .int .i64 r, .int .i64 p, .int .i64 l, .slice A n c]] W (Told W (.bool q)))
    (hWR : ∀ W, Calls Tryd.prog 30 #[.agg #[.int .i64 g, .int .i64 ph, .int .i64 t, .int .i64 x, .int .i64 r, .int .i64 p, .int .i64 l, .slice A n c]] W (Told W (.int .i64 g))) (hSM : ∀ W, Only (w.heap.size ≤ ·) w W → Calls Tryd.prog 31 #[.agg #[.int .i64 g, .int .i64 ph, .int .i64 t, .int .i64 x, .int .i64 r, .int .i64 p, .int .i64 l, .slice A n c], .agg #[.int .i64 g, .int .i64 ph, .int .i64 t, .int .i64 x, .int .i64 r, .int .i64 p, .int .i64 l, .slice A n c]] W (Told W (.bool true))) : Calls Tryd.prog 7 #[.agg #[.int .i64 g, .int .i64 ph, .int .i64 t, .int .i64 x, .int .i64 r, .int .i64 p, .int .i64 l, .slice A n c]] w (Told w (.bool true)) := by
  have hpb : (ph == 1) = false := by rw [beq_eq_false_iff_ne]; exact hp
  clear hp
  obtain ⟨w1, hw1⟩ : ∃ W0, W0 = w.alloc (.cells #[.int .i64 g, .int .i64 ph, .int .i64 t, .int .i64 x, .int .i64 r, .int .i64 p, .int .i64 l, .slice A n c] 52) := ⟨_, rfl⟩
  have HO : Hid (Only (w.heap.size ≤ ·) w w1) := Lib.hid (by rw [hw1]; exact (Only.refl _ w).alloc (fun _ h => h) _)
  have HA : Hid (Blk w1 w.heap.size 52 [.int .i64 g, .int .i64 ph, .int .i64 t, .int .i64 x, .int .i64 r, .int .i64 p, .int .i64 l, .slice A n c]) := Lib.hid (by rw [hw1]; exact Blk.new w 52 _)
  have HAL : Hid (∀ W, Only (w.heap.size ≤ ·) w W → Calls Tryd.prog 25 #[] W (Told W (.bool true))) := Lib.hid fun W hW => malive_c W (hG.later hW)
  have HEN := Lib.hid hEN
  have HRE := Lib.hid hRE
  have HR1 := Lib.hid hR1
  have HR2 := Lib.hid hR2
  have HWR : Hid (∀ W, Calls Tryd.prog 30 #[.agg #[.int .i64 g, .int .i64 ph, .int .i64 t, .int .i64 x, .int .i64 r, .int .i64 p, .int .i64 l, .slice A n c]] W (Told W (.int .i64 g))) := Lib.hid hWR
  have HSM := Lib.hid hSM
  have HSC : Hid (∀ W, Only (w.heap.size ≤ ·) w W → Src W (.slice A n c) xs) := Lib.hid fun W hW => hs.later hW
  have h1i : ¬ (300 : Int) < (n : Int) := by omega

  clear hG hn hEN hRE hR1 hR2 hWR hSM hs 
  obtain ⟨i0, i1, i2, i3, i4, i5, i6, i7⟩ := HA.out.eight
  go_enter Tryd.func7, Tryd.ntmps7
  go_upto_region 1 with (fail)
  rw [← hw1]
  clear hw1
  go_upto_region 3 with (fail)
  obtain ⟨W2, hW2⟩ : ∃ y, y = w1.alloc (.cells #[.int .i64 g, .int .i64 ph, .int .i64 t, .int .i64 x, .int .i64 r, .int .i64 p, .int .i64 l, .slice A n c] 53) := ⟨_, rfl⟩
  have HB : Hid (Blk W2 w1.heap.size 53 [.int .i64 g, .int .i64 ph, .int .i64 t, .int .i64 x, .int .i64 r, .int .i64 p, .int .i64 l, .slice A n c]) := Lib.hid (by rw [hW2]; exact Blk.new w1 53 _)
  have HO2 : Hid (Only (w1.heap.size ≤ ·) w1 W2) := Lib.hid (by rw [hW2]; exact (Only.refl _ w1).alloc (fun _ h => h) _)
  go_upto_region 4 with (fail)
  rw [← hW2]
  clear hW2 i0 i1 i2 i3 i4 i5 i6 i7
  replace HA := Lib.hid (HA.out.later HO2.out)
  replace HO := Lib.hid (on_new HO.out HO2.out)
  clear HO2
  (obtain ⟨i0, i1, i2, i3, i4, i5, i6, i7⟩ := HA.out.eight); (obtain ⟨j0, j1, j2, j3, j4, j5, j6, j7⟩ := HB.out.eight)
  go_upto_region 9 with (first
    | (go_at_call 26; (with_reducible refine (HEN.out _ HO.out).mono ?_); rintro ee w2 ⟨v1, rfl, hv1, ho⟩; have HV1 := Lib.hid hv1; (replace HA := Lib.hid (HA.out.later ho)); (replace HB := Lib.hid (HB.out.later ho)); (replace HO := Lib.hid (on_new HO.out ho)); clear hv1 ho i0 i1 i2 i3 i4 i5 i6 i7 j0 j1 j2 j3 j4 j5 j6 j7; (obtain ⟨i0, i1, i2, i3, i4, i5, i6, i7⟩ := HA.out.eight); (obtain ⟨j0, j1, j2, j3, j4, j5, j6, j7⟩ := HB.out.eight))
    | (go_at_call 27; (with_reducible refine (HRE.out _ HO.out).mono ?_); rintro ee w3 ⟨v2, rfl, hv2, ho⟩; have HV2 := Lib.hid hv2; (replace HV1 := Lib.hid (HV1.out.later ho)); (replace HA := Lib.hid (HA.out.later ho)); (replace HB := Lib.hid (HB.out.later ho)); (replace HO := Lib.hid (on_new HO.out ho)); clear hv2 ho i0 i1 i2 i3 i4 i5 i6 i7 j0 j1 j2 j3 j4 j5 j6 j7; (obtain ⟨i0, i1, i2, i3, i4, i5, i6, i7⟩ := HA.out.eight); (obtain ⟨j0, j1, j2, j3, j4, j5, j6, j7⟩ := HB.out.eight)))
  clear i0 i1 i2 i3 i4 i5 i6 i7 j0 j1 j2 j3 j4 j5 j6 j7
  replace HA := Lib.hid HA.out.drew
  replace HB := Lib.hid HB.out.drew
  replace HO := Lib.hid HO.out.drew
  replace HV1 := Lib.hid (HV1.out.later (Only.refl _ _).drew)
  replace HV2 := Lib.hid (HV2.out.later (Only.refl _ _).drew)
  refine wp_region_list (B := [false, false, false, false, false, false, false, false, false, false, false, false, false, false, false, false, false, false, false, false, false, false, false, false, false, false, false, false]) (S := (fun W => W.cell? ⟨w.heap.size, 0, none⟩ = some (.int .i64 g) ∧ W.cell? ⟨w.heap.size, 1, none⟩ = some (.int .i64 ph) ∧ W.cell? ⟨w.heap.size, 2, none⟩ = some (.int .i64 t) ∧ W.cell? ⟨w.heap.size, 3, none⟩ = some (.int .i64 x) ∧ W.cell? ⟨w.heap.size, 4, none⟩ = some (.int .i64 r) ∧ W.cell? ⟨w.heap.size, 5, none⟩ = some (.int .i64 p) ∧ W.cell? ⟨w.heap.size, 6, none⟩ = some (.int .i64 l) ∧ W.cell? ⟨w.heap.size, 7, none⟩ = some (.slice A n c) ∧ W.cell? ⟨w1.heap.size, 0, none⟩ = some (.int .i64 g) ∧ W.cell? ⟨w1.heap.size, 1, none⟩ = some (.int .i64 ph) ∧ W.cell? ⟨w1.heap.size, 2, none⟩ = some (.int .i64 t) ∧ W.cell? ⟨w1.heap.size, 3, none⟩ = some (.int .i64 x) ∧ W.cell? ⟨w1.heap.size, 4, none⟩ = some (.int .i64 r) ∧ W.cell? ⟨w1.heap.size, 5, none⟩ = some (.int .i64 p) ∧ W.cell? ⟨w1.heap.size, 6, none⟩ = some (.int .i64 l) ∧ W.cell? ⟨w1.heap.size, 7, none⟩ = some (.slice A n c))) (by kernel_rfl) (by kernel_rfl) (by kernel_rfl) (by obtain ⟨i0, i1, i2, i3, i4, i5, i6, i7⟩ := HA.out.eight; obtain ⟨j0, j1, j2, j3, j4, j5, j6, j7⟩ := HB.out.eight; exact ⟨i0, i1, i2, i3, i4, i5, i6, i7, j0, j1, j2, j3, j4, j5, j6, j7⟩) (fun hsel hHeld => ?_)
  generalize hwz : World.drew _ = wz at HA HB HO HV1 HV2 hHeld ⊢
  clear hwz
  have HOZ := Lib.hid (Only.refl (wz.heap.size ≤ ·) wz)
  have KC : Hid (∀ W, Only (wz.heap.size ≤ ·) wz W → W.cell? ⟨w.heap.size, 0, none⟩ = some (.int .i64 g) ∧ W.cell? ⟨w.heap.size, 1, none⟩ = some (.int .i64 ph) ∧ W.cell? ⟨w.heap.size, 2, none⟩ = some (.int .i64 t) ∧ W.cell? ⟨w.heap.size, 3, none⟩ = some (.int .i64 x) ∧ W.cell? ⟨w.heap.size, 4, none⟩ = some (.int .i64 r) ∧ W.cell? ⟨w.heap.size, 5, none⟩ = some (.int .i64 p) ∧ W.cell? ⟨w.heap.size, 6, none⟩ = some (.int .i64 l) ∧ W.cell? ⟨w.heap.size, 7, none⟩ = some (.slice A n c) ∧ W.cell? ⟨w1.heap.size, 0, none⟩ = some (.int .i64 g) ∧ W.cell? ⟨w1.heap.size, 1, none⟩ = some (.int .i64 ph) ∧ W.cell? ⟨w1.heap.size, 2, none⟩ = some (.int .i64 t) ∧ W.cell? ⟨w1.heap.size, 3, none⟩ = some (.int .i64 x) ∧ W.cell? ⟨w1.heap.size, 4, none⟩ = some (.int .i64 r) ∧ W.cell? ⟨w1.heap.size, 5, none⟩ = some (.int .i64 p) ∧ W.cell? ⟨w1.heap.size, 6, none⟩ = some (.int .i64 l) ∧ W.cell? ⟨w1.heap.size, 7, none⟩ = some (.slice A n c)) := Lib.hid fun W hW => by
    obtain ⟨i0, i1, i2, i3, i4, i5, i6, i7⟩ := (HA.out.later hW).eight
    obtain ⟨j0, j1, j2, j3, j4, j5, j6, j7⟩ := (HB.out.later hW).eight
    exact ⟨i0, i1, i2, i3, i4, i5, i6, i7, j0, j1, j2, j3, j4, j5, j6, j7⟩
  refine oneA 0 34 hsel (h := ?_)
  simp only [Act.put, List.setIfInBounds_toArray, List.set_cons_zero, List.set_cons_succ]
  refine oneA 1 35 hsel (h := ?_)
  simp only [Act.put, List.setIfInBounds_toArray, List.set_cons_zero, List.set_cons_succ]
  refine oneA 2 36 hsel (h := ?_)
  simp only [Act.put, List.setIfInBounds_toArray, List.set_cons_zero, List.set_cons_succ]
  refine oneA 3 37 hsel (h := ?_)
  simp only [Act.put, List.setIfInBounds_toArray, List.set_cons_zero, List.set_cons_succ]
  refine oneA 4 38 hsel (h := ?_)
  simp only [Act.put, List.setIfInBounds_toArray, List.set_cons_zero, List.set_cons_succ]
  refine oneA 5 39 hsel (h := ?_)
  simp only [Act.put, List.setIfInBounds_toArray, List.set_cons_zero, List.set_cons_succ]
  refine wpAnyL_ready (rs := [6]) (by kernel_rfl) (by kernel_rfl) (by simp) ?_
  refine AllReadyL.cons (o := ?_) ?_ (fun K hK => ?_) AllReadyL.nil
  case refine_2 => (simp only [List.getElem?_cons_succ, List.getElem?_cons_zero]; rfl)
  go_simp
  (go_at_call 22; (with_reducible refine (Equal_b _ _ _ PB PB true (HV1.out.later HOZ.out) (HV2.out.later HOZ.out) (by simp)).mono ?_); rintro ee w' ⟨rfl, rfl⟩)
  go_wp2_with (fail)
  clear hHeld
  refine hK.out _ _ (KC.out _ HOZ.out) (fun hHeld => ?_)
  clear hK K
  try simp only [List.set_cons_zero, List.set_cons_succ]
  refine oneA 7 41 hsel (h := ?_)
  simp only [Act.put, List.setIfInBounds_toArray, List.set_cons_zero, List.set_cons_succ]
  refine oneA 8 42 hsel (h := ?_)
  simp only [Act.put, List.setIfInBounds_toArray, List.set_cons_zero, List.set_cons_succ]
  refine oneA 9 43 hsel (h := ?_)
  simp only [Act.put, List.setIfInBounds_toArray, List.set_cons_zero, List.set_cons_succ]
  refine oneA 10 44 hsel (h := ?_)
  simp only [Act.put, List.setIfInBounds_toArray, List.set_cons_zero, List.set_cons_succ]
  refine oneA 12 46 hsel (h := ?_)
  simp only [Act.put, List.setIfInBounds_toArray, List.set_cons_zero, List.set_cons_succ]
  refine wpAnyL_ready (rs := [11]) (by kernel_rfl) (by kernel_rfl) (by simp) ?_
  refine AllReadyL.cons (o := ?_) ?_ (fun K hK => ?_) AllReadyL.nil
  case refine_2 => (simp only [List.getElem?_cons_succ, List.getElem?_cons_zero]; rfl)
  go_simp
  (go_at_call 28; (with_reducible refine (HR1.out _ (on_new HO.out HOZ.out)).mono ?_); rintro ee w2 ⟨rfl, ho⟩; (replace HOZ := Lib.hid (on_new HOZ.out ho)); clear ho)
  go_wp2_with (fail)
  clear hHeld
  refine hK.out _ _ (KC.out _ HOZ.out) (fun hHeld => ?_)
  clear hK K
  try simp only [List.set_cons_zero, List.set_cons_succ]
  refine wpAnyL_ready (rs := [13]) (by kernel_rfl) (by kernel_rfl) (by simp) ?_
  refine AllReadyL.cons (o := ?_) ?_ (fun K hK => ?_) AllReadyL.nil
  case refine_2 => (simp only [List.getElem?_cons_succ, List.getElem?_cons_zero]; rfl)
  go_simp
  (go_at_call 29; (with_reducible refine (HR2.out _).mono ?_); rintro ee w2 ⟨rfl, ho⟩; (replace HOZ := Lib.hid (on_new HOZ.out ho)); clear ho)
  go_wp2_with (fail)
  clear hHeld
  refine hK.out _ _ (KC.out _ HOZ.out) (fun hHeld => ?_)
  clear hK K
  try simp only [List.set_cons_zero, List.set_cons_succ]
  refine oneA 14 48 hsel (h := ?_)
  simp only [Act.put, List.setIfInBounds_toArray, List.set_cons_zero, List.set_cons_succ]
  refine oneA 15 49 hsel (h := ?_)
  simp only [Act.put, List.setIfInBounds_toArray, List.set_cons_zero, List.set_cons_succ]
  refine oneA 16 50 hsel (h := ?_)
  simp only [Act.put, List.setIfInBounds_toArray, List.set_cons_zero, List.set_cons_succ]
  refine oneA 17 51 hsel (h := ?_)
  simp only [Act.put, List.setIfInBounds_toArray, List.set_cons_zero, List.set_cons_succ]
  refine oneA 19 53 hsel (h := ?_)
  simp only [Act.put, List.setIfInBounds_toArray, List.set_cons_zero, List.set_cons_succ]
  refine wpAnyL_ready (rs := [18]) (by kernel_rfl) (by kernel_rfl) (by simp) ?_
  refine AllReadyL.cons (o := ?_) ?_ (fun K hK => ?_) AllReadyL.nil
  case refine_2 => (simp only [List.getElem?_cons_succ, List.getElem?_cons_zero]; rfl)
  go_simp
  (go_at_call 30; (with_reducible refine (HWR.out _).mono ?_); rintro ee w2 ⟨rfl, ho⟩; (replace HOZ := Lib.hid (on_new HOZ.out ho)); clear ho)
  go_wp2_with (fail)
  clear hHeld
  refine hK.out _ _ (KC.out _ HOZ.out) (fun hHeld => ?_)
  clear hK K
  try simp only [List.set_cons_zero, List.set_cons_succ]
  refine oneA 20 54 hsel (h := ?_)
  simp only [Act.put, List.setIfInBounds_toArray, List.set_cons_zero, List.set_cons_succ]
  refine oneA 21 55 hsel (h := ?_)
  simp only [Act.put, List.setIfInBounds_toArray, List.set_cons_zero, List.set_cons_succ]
  refine oneA 22 56 hsel (h := ?_)
  simp only [Act.put, List.setIfInBounds_toArray, List.set_cons_zero, List.set_cons_succ]
  refine oneA 23 57 hsel (h := ?_)
  simp only [Act.put, List.setIfInBounds_toArray, List.set_cons_zero, List.set_cons_succ]
  refine oneA 24 58 hsel (h := ?_)
  simp only [Act.put, List.setIfInBounds_toArray, List.set_cons_zero, List.set_cons_succ]
  refine wpAnyL_ready (rs := [25]) (by kernel_rfl) (by kernel_rfl) (by simp) ?_
  refine AllReadyL.cons (o := ?_) ?_ (fun K hK => ?_) AllReadyL.nil
  case refine_2 => (simp only [List.getElem?_cons_succ, List.getElem?_cons_zero]; rfl)
  go_simp
  (go_at_call 31; (with_reducible refine (HSM.out _ (on_new HO.out HOZ.out)).mono ?_); rintro ee w2 ⟨rfl, ho⟩; (replace HOZ := Lib.hid (on_new HOZ.out ho)); clear ho)
  go_wp2_with (fail)
  clear hHeld
  refine hK.out _ _ (KC.out _ HOZ.out) (fun hHeld => ?_)
  clear hK K
  try simp only [List.set_cons_zero, List.set_cons_succ]
  refine oneA 26 60 hsel (h := ?_)
  simp only [Act.put, List.setIfInBounds_toArray, List.set_cons_zero, List.set_cons_succ]
  refine oneA 27 61 hsel (h := ?_)
  simp only [Act.put, List.setIfInBounds_toArray, List.set_cons_zero, List.set_cons_succ]
  refine wpAnyL_done (by kernel_rfl) (by kernel_rfl) ?_ _
  clear hsel hHeld
  go_wp2_with (go_at_call 25; (with_reducible refine (HAL.out _ (on_new HO.out HOZ.out)).mono ?_); rintro ee w2 ⟨rfl, ho⟩; (replace HOZ := Lib.hid (on_new HOZ.out ho)); clear ho)
  go_ret
  exact ⟨rfl, on_new HO.out HOZ.out⟩
set_option maxRecDepth 100000 in
set_option maxHeartbeats 25600000 in
theorem menc_y1 (xs PB : Bytes) (q : Bool) (hn : ¬ 300 < n) (hs : Src w (.slice A n c) xs)
    (hEN : ∀ W, Only (w.heap.size ≤ ·) w W → Calls Tryd.prog 26 #[.agg #[.int .i64 g, .int .i64 1, .int .i64 t, .int .i64 x, .int .i64 r, .int .i64 p, .int .i64 l, .slice A n c]] W (GaveBE W PB 0)) (hRE : ∀ W, Only (w.heap.size ≤ ·) w W → Calls Tryd.prog 27 #[.agg #[.int .i64 g, .int .i64 1, .int .i64 t, .int .i64 x, .int .i64 r, .int .i64 p, .int .i64 l, .slice A n c]] W (GaveBE W PB 0))
    (hR1 : ∀ W, Only (w.heap.size ≤ ·) w W → Calls Tryd.prog 28 #[.agg #[.int .i64 g, .int .i64 1, .int .i64 t, .int .i64 x, .int .i64 r, .int .i64 p, .int .i64 l, .slice A n c]] W (Told W (.bool q))) (hR2 : ∀ W, Calls Tryd.prog 29 #[.agg #[.int .i64 g, .int .i64 1, .int .i64 t, .int .i64 x, .int .i64 r, .int .i64 p, .int .i64 l, .slice A n c]] W (Told W (.bool q)))
    (hWR : ∀ W, Calls Tryd.prog 30 #[.agg #[.int .i64 g, .int .i64 1, .int .i64 t, .int .i64 x, .int .i64 r, .int .i64 p, .int .i64 l, .slice A n c]] W (Told W (.int .i64 t))) (hSM : ∀ W, Only (w.heap.size ≤ ·) w W → Calls Tryd.prog 31 #[.agg #[.int .i64 g, .int .i64 1, .int .i64 t, .int .i64 x, .int .i64 r, .int .i64 p, .int .i64 l, .slice A n c], .agg #[.int .i64 g, .int .i64 1, .int .i64 t, .int .i64 x, .int .i64 r, .int .i64 p, .int .i64 l, .slice A n c]] W (Told W (.bool true)))
    (hDE : ∀ W v, Only (w.heap.size ≤ ·) w W → Src W v PB → Calls Tryd.prog 32 #[v] W (fun e w' => ∃ A2 c2, e = .returned (.tuple #[.agg #[.int .i64 g, .int .i64 1, .int .i64 t, .int .i64 x, .int .i64 r, .int .i64 p, .int .i64 l, .slice A2 n c2], .int .i64 0]) ∧ Src w' (.slice A2 n c2) xs ∧ Only (W.heap.size ≤ ·) W w')) : Calls Tryd.prog 7 #[.agg #[.int .i64 g, .int .i64 1, .int .i64 t, .int .i64 x, .int .i64 r, .int .i64 p, .int .i64 l, .slice A n c]] w (Told w (.bool true)) := by
  obtain ⟨w1, hw1⟩ : ∃ W0, W0 = w.alloc (.cells #[.int .i64 g, .int .i64 1, .int .i64 t, .int .i64 x, .int .i64 r, .int .i64 p, .int .i64 l, .slice A n c] 52) := ⟨_, rfl⟩
  have HO : Hid (Only (w.heap.size ≤ ·) w w1) := Lib.hid (by rw [hw1]; exact (Only.refl _ w).alloc (fun _ h => h) _)
  have HA : Hid (Blk w1 w.heap.size 52 [.int .i64 g, .int .i64 1, .int .i64 t, .int .i64 x, .int .i64 r, .int .i64 p, .int .i64 l, .slice A n c]) := Lib.hid (by rw [hw1]; exact Blk.new w 52 _)
  have HAL : Hid (∀ W, Only (w.heap.size ≤ ·) w W → Calls Tryd.prog 25 #[] W (Told W (.bool true))) := Lib.hid fun W hW => malive_c W (hG.later hW)
  have HEN := Lib.hid hEN
  have HRE := Lib.hid hRE
  have HR1 := Lib.hid hR1
  have HR2 := Lib.hid hR2
  have HWR : Hid (∀ W, Calls Tryd.prog 30 #[.agg #[.int .i64 g, .int .i64 1, .int .i64 t, .int .i64 x, .int .i64 r, .int .i64 p, .int .i64 l, .slice A n c]] W (Told W (.int .i64 t))) := Lib.hid hWR
  have HSM := Lib.hid hSM
  have HSC : Hid (∀ W, Only (w.heap.size ≤ ·) w W → Src W (.slice A n c) xs) := Lib.hid fun W hW => hs.later hW
  have h1i : ¬ (300 : Int) < (n : Int) := by omega
  have HDE := Lib.hid hDE
  clear hG hn hEN hRE hR1 hR2 hWR hSM hs hDE
  obtain ⟨i0, i1, i2, i3, i4, i5, i6, i7⟩ := HA.out.eight
  go_enter Tryd.func7, Tryd.ntmps7
  go_upto_region 1 with (fail)
  rw [← hw1]
  clear hw1
  go_upto_region 3 with (fail)
  obtain ⟨W2, hW2⟩ : ∃ y, y = w1.alloc (.cells #[.int .i64 g, .int .i64 1, .int .i64 t, .int .i64 x, .int .i64 r, .int .i64 p, .int .i64 l, .slice A n c] 53) := ⟨_, rfl⟩
  have HB : Hid (Blk W2 w1.heap.size 53 [.int .i64 g, .int .i64 1, .int .i64 t, .int .i64 x, .int .i64 r, .int .i64 p, .int .i64 l, .slice A n c]) := Lib.hid (by rw [hW2]; exact Blk.new w1 53 _)
  have HO2 : Hid (Only (w1.heap.size ≤ ·) w1 W2) := Lib.hid (by rw [hW2]; exact (Only.refl _ w1).alloc (fun _ h => h) _)
  go_upto_region 4 with (fail)
  rw [← hW2]
  clear hW2 i0 i1 i2 i3 i4 i5 i6 i7
  replace HA := Lib.hid (HA.out.later HO2.out)
  replace HO := Lib.hid (on_new HO.out HO2.out)
  clear HO2
  (obtain ⟨i0, i1, i2, i3, i4, i5, i6, i7⟩ := HA.out.eight); (obtain ⟨j0, j1, j2, j3, j4, j5, j6, j7⟩ := HB.out.eight)
  go_upto_region 9 with (first
    | (go_at_call 26; (with_reducible refine (HEN.out _ HO.out).mono ?_); rintro ee w2 ⟨v1, rfl, hv1, ho⟩; have HV1 := Lib.hid hv1; (replace HA := Lib.hid (HA.out.later ho)); (replace HB := Lib.hid (HB.out.later ho)); (replace HO := Lib.hid (on_new HO.out ho)); clear hv1 ho i0 i1 i2 i3 i4 i5 i6 i7 j0 j1 j2 j3 j4 j5 j6 j7; (obtain ⟨i0, i1, i2, i3, i4, i5, i6, i7⟩ := HA.out.eight); (obtain ⟨j0, j1, j2, j3, j4, j5, j6, j7⟩ := HB.out.eight))
    | (go_at_call 27; (with_reducible refine (HRE.out _ HO.out).mono ?_); rintro ee w3 ⟨v2, rfl, hv2, ho⟩; have HV2 := Lib.hid hv2; (replace HV1 := Lib.hid (HV1.out.later ho)); (replace HA := Lib.hid (HA.out.later ho)); (replace HB := Lib.hid (HB.out.later ho)); (replace HO := Lib.hid (on_new HO.out ho)); clear hv2 ho i0 i1 i2 i3 i4 i5 i6 i7 j0 j1 j2 j3 j4 j5 j6 j7; (obtain ⟨i0, i1, i2, i3, i4, i5, i6, i7⟩ := HA.out.eight); (obtain ⟨j0, j1, j2, j3, j4, j5, j6, j7⟩ := HB.out.eight)))
  clear i0 i1 i2 i3 i4 i5 i6 i7 j0 j1 j2 j3 j4 j5 j6 j7
  replace HA := Lib.hid HA.out.drew
  replace HB := Lib.hid HB.out.drew
  replace HO := Lib.hid HO.out.drew
  replace HV1 := Lib.hid (HV1.out.later (Only.refl _ _).drew)
  replace HV2 := Lib.hid (HV2.out.later (Only.refl _ _).drew)
  refine wp_region_list (B := [false, false, false, false, false, false, false, false, false, false, false, false, false, false, false, false, false, false, false, false, false, false, false, false, false, false, false, false]) (S := (fun W => W.cell? ⟨w.heap.size, 0, none⟩ = some (.int .i64 g) ∧ W.cell? ⟨w.heap.size, 1, none⟩ = some (.int .i64 1) ∧ W.cell? ⟨w.heap.size, 2, none⟩ = some (.int .i64 t) ∧ W.cell? ⟨w.heap.size, 3, none⟩ = some (.int .i64 x) ∧ W.cell? ⟨w.heap.size, 4, none⟩ = some (.int .i64 r) ∧ W.cell? ⟨w.heap.size, 5, none⟩ = some (.int .i64 p) ∧ W.cell? ⟨w.heap.size, 6, none⟩ = some (.int .i64 l) ∧ W.cell? ⟨w.heap.size, 7, none⟩ = some (.slice A n c) ∧ W.cell? ⟨w1.heap.size, 0, none⟩ = some (.int .i64 g) ∧ W.cell? ⟨w1.heap.size, 1, none⟩ = some (.int .i64 1) ∧ W.cell? ⟨w1.heap.size, 2, none⟩ = some (.int .i64 t) ∧ W.cell? ⟨w1.heap.size, 3, none⟩ = some (.int .i64 x) ∧ W.cell? ⟨w1.heap.size, 4, none⟩ = some (.int .i64 r) ∧ W.cell? ⟨w1.heap.size, 5, none⟩ = some (.int .i64 p) ∧ W.cell? ⟨w1.heap.size, 6, none⟩ = some (.int .i64 l) ∧ W.cell? ⟨w1.heap.size, 7, none⟩ = some (.slice A n c))) (by kernel_rfl) (by kernel_rfl) (by kernel_rfl) (by obtain ⟨i0, i1, i2, i3, i4, i5, i6, i7⟩ := HA.out.eight; obtain ⟨j0, j1, j2, j3, j4, j5, j6, j7⟩ := HB.out.eight; exact ⟨i0, i1, i2, i3, i4, i5, i6, i7, j0, j1, j2, j3, j4, j5, j6, j7⟩) (fun hsel hHeld => ?_)
  generalize hwz : World.drew _ = wz at HA HB HO HV1 HV2 hHeld ⊢
  clear hwz
  have HOZ := Lib.hid (Only.refl (wz.heap.size ≤ ·) wz)
  have KC : Hid (∀ W, Only (wz.heap.size ≤ ·) wz W → W.cell? ⟨w.heap.size, 0, none⟩ = some (.int .i64 g) ∧ W.cell? ⟨w.heap.size, 1, none⟩ = some (.int .i64 1) ∧ W.cell? ⟨w.heap.size, 2, none⟩ = some (.int .i64 t) ∧ W.cell? ⟨w.heap.size, 3, none⟩ = some (.int .i64 x) ∧ W.cell? ⟨w.heap.size, 4, none⟩ = some (.int .i64 r) ∧ W.cell? ⟨w.heap.size, 5, none⟩ = some (.int .i64 p) ∧ W.cell? ⟨w.heap.size, 6, none⟩ = some (.int .i64 l) ∧ W.cell? ⟨w.heap.size, 7, none⟩ = some (.slice A n c) ∧ W.cell? ⟨w1.heap.size, 0, none⟩ = some (.int .i64 g) ∧ W.cell? ⟨w1.heap.size, 1, none⟩ = some (.int .i64 1) ∧ W.cell? ⟨w1.heap.size, 2, none⟩ = some (.int .i64 t) ∧ W.cell? ⟨w1.heap.size, 3, none⟩ = some (.int .i64 x) ∧ W.cell? ⟨w1.heap.size, 4, none⟩ = some (.int .i64 r) ∧ W.cell? ⟨w1.heap.size, 5, none⟩ = some (.int .i64 p) ∧ W.cell? ⟨w1.heap.size, 6, none⟩ = some (.int .i64 l) ∧ W.cell? ⟨w1.heap.size, 7, none⟩ = some (.slice A n c)) := Lib.hid fun W hW => by
    obtain ⟨i0, i1, i2, i3, i4, i5, i6, i7⟩ := (HA.out.later hW).eight
    obtain ⟨j0, j1, j2, j3, j4, j5, j6, j7⟩ := (HB.out.later hW).eight
    exact ⟨i0, i1, i2, i3, i4, i5, i6, i7, j0, j1, j2, j3, j4, j5, j6, j7⟩
  refine oneA 0 34 hsel (h := ?_)
  simp only [Act.put, List.setIfInBounds_toArray, List.set_cons_zero, List.set_cons_succ]
  refine oneA 1 35 hsel (h := ?_)
  simp only [Act.put, List.setIfInBounds_toArray, List.set_cons_zero, List.set_cons_succ]
  refine oneA 2 36 hsel (h := ?_)
  simp only [Act.put, List.setIfInBounds_toArray, List.set_cons_zero, List.set_cons_succ]
  refine oneA 3 37 hsel (h := ?_)
  simp only [Act.put, List.setIfInBounds_toArray, List.set_cons_zero, List.set_cons_succ]
  refine oneA 4 38 hsel (h := ?_)
  simp only [Act.put, List.setIfInBounds_toArray, List.set_cons_zero, List.set_cons_succ]
  refine oneA 5 39 hsel (h := ?_)
  simp only [Act.put, List.setIfInBounds_toArray, List.set_cons_zero, List.set_cons_succ]
  refine wpAnyL_ready (rs := [6]) (by kernel_rfl) (by kernel_rfl) (by simp) ?_
  refine AllReadyL.cons (o := ?_) ?_ (fun K hK => ?_) AllReadyL.nil
  case refine_2 => (simp only [List.getElem?_cons_succ, List.getElem?_cons_zero]; rfl)
  go_simp
  (go_at_call 22; (with_reducible refine (Equal_b _ _ _ PB PB true (HV1.out.later HOZ.out) (HV2.out.later HOZ.out) (by simp)).mono ?_); rintro ee w' ⟨rfl, rfl⟩)
  go_wp2_with (fail)
  clear hHeld
  refine hK.out _ _ (KC.out _ HOZ.out) (fun hHeld => ?_)
  clear hK K
  try simp only [List.set_cons_zero, List.set_cons_succ]
  refine oneA 7 41 hsel (h := ?_)
  simp only [Act.put, List.setIfInBounds_toArray, List.set_cons_zero, List.set_cons_succ]
  refine oneA 8 42 hsel (h := ?_)
  simp only [Act.put, List.setIfInBounds_toArray, List.set_cons_zero, List.set_cons_succ]
  refine oneA 9 43 hsel (h := ?_)
  simp only [Act.put, List.setIfInBounds_toArray, List.set_cons_zero, List.set_cons_succ]
  refine oneA 10 44 hsel (h := ?_)
  simp only [Act.put, List.setIfInBounds_toArray, List.set_cons_zero, List.set_cons_succ]
  refine oneA 12 46 hsel (h := ?_)
  simp only [Act.put, List.setIfInBounds_toArray, List.set_cons_zero, List.set_cons_succ]
  refine wpAnyL_ready (rs := [11]) (by kernel_rfl) (by kernel_rfl) (by simp) ?_
  refine AllReadyL.cons (o := ?_) ?_ (fun K hK => ?_) AllReadyL.nil
  case refine_2 => (simp only [List.getElem?_cons_succ, List.getElem?_cons_zero]; rfl)
  go_simp
  (go_at_call 28; (with_reducible refine (HR1.out _ (on_new HO.out HOZ.out)).mono ?_); rintro ee w2 ⟨rfl, ho⟩; (replace HOZ := Lib.hid (on_new HOZ.out ho)); clear ho)
  go_wp2_with (fail)
  clear hHeld
  refine hK.out _ _ (KC.out _ HOZ.out) (fun hHeld => ?_)
  clear hK K
  try simp only [List.set_cons_zero, List.set_cons_succ]
  refine wpAnyL_ready (rs := [13]) (by kernel_rfl) (by kernel_rfl) (by simp) ?_
  refine AllReadyL.cons (o := ?_) ?_ (fun K hK => ?_) AllReadyL.nil
  case refine_2 => (simp only [List.getElem?_cons_succ, List.getElem?_cons_zero]; rfl)
  go_simp
  (go_at_call 29; (with_reducible refine (HR2.out _).mono ?_); rintro ee w2 ⟨rfl, ho⟩; (replace HOZ := Lib.hid (on_new HOZ.out ho)); clear ho)
  go_wp2_with (fail)
  clear hHeld
  refine hK.out _ _ (KC.out _ HOZ.out) (fun hHeld => ?_)
  clear hK K
  try simp only [List.set_cons_zero, List.set_cons_succ]
  refine oneA 14 48 hsel (h := ?_)
  simp only [Act.put, List.setIfInBounds_toArray, List.set_cons_zero, List.set_cons_succ]
  refine oneA 15 49 hsel (h := ?_)
  simp only [Act.put, List.setIfInBounds_toArray, List.set_cons_zero, List.set_cons_succ]
  refine oneA 16 50 hsel (h := ?_)
  simp only [Act.put, List.setIfInBounds_toArray, List.set_cons_zero, List.set_cons_succ]
  refine oneA 17 51 hsel (h := ?_)
  simp only [Act.put, List.setIfInBounds_toArray, List.set_cons_zero, List.set_cons_succ]
  refine oneA 19 53 hsel (h := ?_)
  simp only [Act.put, List.setIfInBounds_toArray, List.set_cons_zero, List.set_cons_succ]
  refine wpAnyL_ready (rs := [18]) (by kernel_rfl) (by kernel_rfl) (by simp) ?_
  refine AllReadyL.cons (o := ?_) ?_ (fun K hK => ?_) AllReadyL.nil
  case refine_2 => (simp only [List.getElem?_cons_succ, List.getElem?_cons_zero]; rfl)
  go_simp
  (go_at_call 30; (with_reducible refine (HWR.out _).mono ?_); rintro ee w2 ⟨rfl, ho⟩; (replace HOZ := Lib.hid (on_new HOZ.out ho)); clear ho)
  go_wp2_with (fail)
  clear hHeld
  refine hK.out _ _ (KC.out _ HOZ.out) (fun hHeld => ?_)
  clear hK K
  try simp only [List.set_cons_zero, List.set_cons_succ]
  refine oneA 20 54 hsel (h := ?_)
  simp only [Act.put, List.setIfInBounds_toArray, List.set_cons_zero, List.set_cons_succ]
  refine oneA 21 55 hsel (h := ?_)
  simp only [Act.put, List.setIfInBounds_toArray, List.set_cons_zero, List.set_cons_succ]
  refine oneA 22 56 hsel (h := ?_)
  simp only [Act.put, List.setIfInBounds_toArray, List.set_cons_zero, List.set_cons_succ]
  refine oneA 23 57 hsel (h := ?_)
  simp only [Act.put, List.setIfInBounds_toArray, List.set_cons_zero, List.set_cons_succ]
  refine oneA 24 58 hsel (h := ?_)
  simp only [Act.put, List.setIfInBounds_toArray, List.set_cons_zero, List.set_cons_succ]
  refine wpAnyL_ready (rs := [25]) (by kernel_rfl) (by kernel_rfl) (by simp) ?_
  refine AllReadyL.cons (o := ?_) ?_ (fun K hK => ?_) AllReadyL.nil
  case refine_2 => (simp only [List.getElem?_cons_succ, List.getElem?_cons_zero]; rfl)
  go_simp
  (go_at_call 31; (with_reducible refine (HSM.out _ (on_new HO.out HOZ.out)).mono ?_); rintro ee w2 ⟨rfl, ho⟩; (replace HOZ := Lib.hid (on_new HOZ.out ho)); clear ho)
  go_wp2_with (fail)
  clear hHeld
  refine hK.out _ _ (KC.out _ HOZ.out) (fun hHeld => ?_)
  clear hK K
  try simp only [List.set_cons_zero, List.set_cons_succ]
  refine oneA 26 60 hsel (h := ?_)
  simp only [Act.put, List.setIfInBounds_toArray, List.set_cons_zero, List.set_cons_succ]
  refine oneA 27 61 hsel (h := ?_)
  simp only [Act.put, List.setIfInBounds_toArray, List.set_cons_zero, List.set_cons_succ]
  refine wpAnyL_done (by kernel_rfl) (by kernel_rfl) ?_ _
  clear hsel hHeld
  go_upto_region 14 with (go_at_call 32; (with_reducible refine (HDE.out _ _ (on_new HO.out HOZ.out) (HV1.out.later HOZ.out)).mono ?_); rintro ee w3 ⟨A2, c2, rfl, hsn, ho⟩; have HSN := Lib.hid (hsn.later ((Only.refl (w3.heap.size ≤ ·) w3).alloc (fun _ h => h) (.cells #[.int .i64 g, .int .i64 1, .int .i64 t, .int .i64 x, .int .i64 r, .int .i64 p, .int .i64 l, .slice A2 n c2] 53))); have HD : Hid (Blk (w3.alloc (.cells #[.int .i64 g, .int .i64 1, .int .i64 t, .int .i64 x, .int .i64 r, .int .i64 p, .int .i64 l, .slice A2 n c2] 53)) w3.heap.size 53 [.int .i64 g, .int .i64 1, .int .i64 t, .int .i64 x, .int .i64 r, .int .i64 p, .int .i64 l, .slice A2 n c2]) := Lib.hid (Blk.new w3 53 _); (replace ho := ho.alloc (fun _ h => h) (.cells #[.int .i64 g, .int .i64 1, .int .i64 t, .int .i64 x, .int .i64 r, .int .i64 p, .int .i64 l, .slice A2 n c2] 53)); (replace HOZ := Lib.hid (on_new HOZ.out ho)); clear hsn ho)
  go_wp2_with (first
    | (go_at_call 25; (with_reducible refine (HAL.out _ (on_new HO.out HOZ.out)).mono ?_); rintro ee w2 ⟨rfl, ho⟩; (replace HSN := Lib.hid (HSN.out.later ho)); (replace HD := Lib.hid (HD.out.later ho)); (replace HOZ := Lib.hid (on_new HOZ.out ho)); clear ho; (obtain ⟨i0, i1, i2, i3, i4, i5, i6, i7⟩ := (HA.out.later HOZ.out).eight); (obtain ⟨k0, k1, k2, k3, k4, k5, k6, k7⟩ := HD.out.eight))
    | (go_at_call 33; (with_reducible refine (rmSame_eq _ g 1 t x r p l A2 A n c2 c xs HSN.out (HSC.out _ (on_new HO.out HOZ.out))).mono ?_); rintro ee w2 ⟨rfl, ho⟩; (replace HOZ := Lib.hid (on_new HOZ.out ho)); clear ho))
  go_ret
  exact ⟨rfl, on_new HO.out HOZ.out⟩
set_option maxRecDepth 100000 in
set_option maxHeartbeats 25600000 in
theorem menc_y0 (hp : ph ≠ 1) (xs PB : Bytes) (q : Bool) (hn : ¬ 300 < n) (hs : Src w (.slice A n c) xs)
    (hEN : ∀ W, Only (w.heap.size ≤ ·) w W → Calls Tryd.prog 26 #[.agg #[.int .i64 g, .int .i64 ph, .int .i64 t, .int .i64 x, .int .i64 r, .int .i64 p, .int .i64 l, .slice A n c]] W (GaveBE W PB 0)) (hRE : ∀ W, Only (w.heap.size ≤ ·) w W → Calls Tryd.prog 27 #[.agg #[.int .i64 g, .int .i64 ph, .int .i64 t, .int .i64 x, .int .i64 r, .int .i64 p, .int .i64 l, .slice A n c]] W (GaveBE W PB 0))
    (hR1 : ∀ W, Only (w.heap.size ≤ ·) w W → Calls Tryd.prog 28 #[.agg #[.int .i64 g, .int .i64 ph, .int .i64 t, .int .i64 x, .int .i64 r, .int .i64 p, .int .i64 l, .slice A n c]] W (Told W (.bool q))) (hR2 : ∀ W, Calls Tryd.prog 29 #[.agg #[.int .i64 g, .int .i64 ph, .int .i64 t, .int .i64 x, .int .i64 r, .int .i64 p, .int .i64 l, .slice A n c]] W (Told W (.bool q)))
    (hWR : ∀ W, Calls Tryd.prog 30 #[.agg #[.int .i64 g, .int .i64 ph, .int .i64 t, .int .i64 x, .int .i64 r, .int .i64 p, .int .i64 l, .slice A n c]] W (Told W (.int .i64 g))) (hSM : ∀ W, Only (w.heap.size ≤ ·) w W → Calls Tryd.prog 31 #[.agg #[.int .i64 g, .int .i64 ph, .int .i64 t, .int .i64 x, .int .i64 r, .int .i64 p, .int .i64 l, .slice A n c], .agg #[.int .i64 g, .int .i64 ph, .int .i64 t, .int .i64 x, .int .i64 r, .int .i64 p, .int .i64 l, .slice A n c]] W (Told W (.bool true)))
    (hDE : ∀ W v, Only (w.heap.size ≤ ·) w W → Src W v PB → Calls Tryd.prog 32 #[v] W (fun e w' => ∃ A2 c2, e = .returned (.tuple #[.agg #[.int .i64 g, .int .i64 ph, .int .i64 t, .int .i64 x, .int .i64 r, .int .i64 p, .int .i64 l, .slice A2 n c2], .int .i64 0]) ∧ Src w' (.slice A2 n c2) xs ∧ Only (W.heap.size ≤ ·) W w')) : Calls Tryd.prog 7 #[.agg #[.int .i64 g, .int .i64 ph, .int .i64 t, .int .i64 x, .int .i64 r, .int .i64 p, .int .i64 l, .slice A n c]] w (Told w (.bool true)) := by
  have hpb : (ph == 1) = false := by rw [beq_eq_false_iff_ne]; exact hp
  clear hp
  obtain ⟨w1, hw1⟩ : ∃ W0, W0 = w.alloc (.cells #[.int .i64 g, .int .i64 ph, .int .i64 t, .int .i64 x, .int .i64 r, .int .i64 p, .int .i64 l, .slice A n c] 52) := ⟨_, rfl⟩
  have HO : Hid (Only (w.heap.size ≤ ·) w w1) := Lib.hid (by rw [hw1]; exact (Only.refl _ w).alloc (fun _ h => h) _)
  have HA : Hid (Blk w1 w.heap.size 52 [.int .i64 g, .int .i64 ph, .int .i64 t, .int .i64 x, .int .i64 r, .int .i64 p, .int .i64 l, .slice A n c]) := Lib.hid (by rw [hw1]; exact Blk.new w 52 _)
  have HAL : Hid (∀ W, Only (w.heap.size ≤ ·) w W → Calls Tryd.prog 25 #[] W (Told W (.bool true))) := Lib.hid fun W hW => malive_c W (hG.later hW)
  have HEN := Lib.hid hEN
  have HRE := Lib.hid hRE
  have HR1 := Lib.hid hR1
  have HR2 := Lib.hid hR2
  have HWR : Hid (∀ W, Calls Tryd.prog 30 #[.agg #[.int .i64 g, .int .i64 ph, .int .i64 t, .int .i64 x, .int .i64 r, .int .i64 p, .int .i64 l, .slice A n c]] W (Told W (.int .i64 g))) := Lib.hid hWR
  have HSM := Lib.hid hSM
  have HSC : Hid (∀ W, Only (w.heap.size ≤ ·) w W → Src W (.slice A n c) xs) := Lib.hid fun W hW => hs.later hW
  have h1i : ¬ (300 : Int) < (n : Int) := by omega
  have HDE := Lib.hid hDE
  clear hG hn hEN hRE hR1 hR2 hWR hSM hs hDE
  obtain ⟨i0, i1, i2, i3, i4, i5, i6, i7⟩ := HA.out.eight
  go_enter Tryd.func7, Tryd.ntmps7
  go_upto_region 1 with (fail)
  rw [← hw1]
  clear hw1
  go_upto_region 3 with (fail)
  obtain ⟨W2, hW2⟩ : ∃ y, y = w1.alloc (.cells #[.int .i64 g, .int .i64 ph, .int .i64 t, .int .i64 x, .int .i64 r, .int .i64 p, .int .i64 l, .slice A n c] 53) := ⟨_, rfl⟩
  have HB : Hid (Blk W2 w1.heap.size 53 [.int .i64 g, .int .i64 ph, .int .i64 t, .int .i64 x, .int .i64 r, .int .i64 p, .int .i64 l, .slice A n c]) := Lib.hid (by rw [hW2]; exact Blk.new w1 53 _)
  have HO2 : Hid (Only (w1.heap.size ≤ ·) w1 W2) := Lib.hid (by rw [hW2]; exact (Only.refl _ w1).alloc (fun _ h => h) _)
  go_upto_region 4 with (fail)
  rw [← hW2]
  clear hW2 i0 i1 i2 i3 i4 i5 i6 i7
  replace HA := Lib.hid (HA.out.later HO2.out)
  replace HO := Lib.hid (on_new HO.out HO2.out)
  clear HO2
  (obtain ⟨i0, i1, i2, i3, i4, i5, i6, i7⟩ := HA.out.eight); (obtain ⟨j0, j1, j2, j3, j4, j5, j6, j7⟩ := HB.out.eight)
  go_upto_region 9 with (first
    | (go_at_call 26; (with_reducible refine (HEN.out _ HO.out).mono ?_); rintro ee w2 ⟨v1, rfl, hv1, ho⟩; have HV1 := Lib.hid hv1; (replace HA := Lib.hid (HA.out.later ho)); (replace HB := Lib.hid (HB.out.later ho)); (replace HO := Lib.hid (on_new HO.out ho)); clear hv1 ho i0 i1 i2 i3 i4 i5 i6 i7 j0 j1 j2 j3 j4 j5 j6 j7; (obtain ⟨i0, i1, i2, i3, i4, i5, i6, i7⟩ := HA.out.eight); (obtain ⟨j0, j1, j2, j3, j4, j5, j6, j7⟩ := HB.out.eight))
    | (go_at_call 27; (with_reducible refine (HRE.out _ HO.out).mono ?_); rintro ee w3 ⟨v2, rfl, hv2, ho⟩; have HV2 := Lib.hid hv2; (replace HV1 := Lib.hid (HV1.out.later ho)); (replace HA := Lib.hid (HA.out.later ho)); (replace HB := Lib.hid (HB.out.later ho)); (replace HO := Lib.hid (on_new HO.out ho)); clear hv2 ho i0 i1 i2 i3 i4 i5 i6 i7 j0 j1 j2 j3 j4 j5 j6 j7; (obtain ⟨i0, i1, i2, i3, i4, i5, i6, i7⟩ := HA.out.eight); (obtain ⟨j0, j1, j2, j3, j4, j5, j6, j7⟩ := HB.out.eight)))
  clear i0 i1 i2 i3 i4 i5 i6 i7 j0 j1 j2 j3 j4 j5 j6 j7
  replace HA := Lib.hid HA.out.drew
  replace HB := Lib.hid HB.out.drew
  replace HO := Lib.hid HO.out.drew
  replace HV1 := Lib.hid (HV1.out.later (Only.refl _ _).drew)
  replace HV2 := Lib.hid (HV2.out.later (Only.refl _ _).drew)
  refine wp_region_list (B := [false, false, false, false, false, false, false, false, false, false, false, false, false, false, false, false, false, false, false, false, false, false, false, false, false, false, false, false]) (S := (fun W => W.cell? ⟨w.heap.size, 0, none⟩ = some (.int .i64 g) ∧ W.cell? ⟨w.heap.size, 1, none⟩ = some (.int .i64 ph) ∧ W.cell? ⟨w.heap.size, 2, none⟩ = some (.int .i64 t) ∧ W.cell? ⟨w.heap.size, 3, none⟩ = some (.int .i64 x) ∧ W.cell? ⟨w.heap.size, 4, none⟩ = some (.int .i64 r) ∧ W.cell? ⟨w.heap.size, 5, none⟩ = some (.int .i64 p) ∧ W.cell? ⟨w.heap.size, 6, none⟩ = some (.int .i64 l) ∧ W.cell? ⟨w.heap.size, 7, none⟩ = some (.slice A n c) ∧ W.cell? ⟨w1.heap.size, 0, none⟩ = some (.int .i64 g) ∧ W.cell? ⟨w1.heap.size, 1, none⟩ = some (.int .i64 ph) ∧ W.cell? ⟨w1.heap.size, 2, none⟩ = some (.int .i64 t) ∧ W.cell? ⟨w1.heap.size, 3, none⟩ = some (.int .i64 x) ∧ W.cell? ⟨w1.heap.size, 4, none⟩ = some (.int .i64 r) ∧ W.cell? ⟨w1.heap.size, 5, none⟩ = some (.int .i64 p) ∧ W.cell? ⟨w1.heap.size, 6, none⟩ = some (.int .i64 l) ∧ W.cell? ⟨w1.heap.size, 7, none⟩ = some (.slice A n c))) (by kernel_rfl) (by kernel_rfl) (by kernel_rfl) (by obtain ⟨i0, i1, i2, i3, i4, i5, i6, i7⟩ := HA.out.eight; obtain ⟨j0, j1, j2, j3, j4, j5, j6, j7⟩ := HB.out.eight; exact ⟨i0, i1, i2, i3, i4, i5, i6, i7, j0, j1, j2, j3, j4, j5, j6, j7⟩) (fun hsel hHeld => ?_)
  generalize hwz : World.drew _ = wz at HA HB HO HV1 HV2 hHeld ⊢
  clear hwz
  have HOZ := Lib.hid (Only.refl (wz.heap.size ≤ ·) wz)
  have KC : Hid (∀ W, Only (wz.heap.size ≤ ·) wz W → W.cell? ⟨w.heap.size, 0, none⟩ = some (.int .i64 g) ∧ W.cell? ⟨w.heap.size, 1, none⟩ = some (.int .i64 ph) ∧ W.cell? ⟨w.heap.size, 2, none⟩ = some (.int .i64 t) ∧ W.cell? ⟨w.heap.size, 3, none⟩ = some (.int .i64 x) ∧ W.cell? ⟨w.heap.size, 4, none⟩ = some (.int .i64 r) ∧ W.cell? ⟨w.heap.size, 5, none⟩ = some (.int .i64 p) ∧ W.cell? ⟨w.heap.size, 6, none⟩ = some (.int .i64 l) ∧ W.cell? ⟨w.heap.size, 7, none⟩ = some (.slice A n c) ∧ W.cell? ⟨w1.heap.size, 0, none⟩ = some (.int .i64 g) ∧ W.cell? ⟨w1.heap.size, 1, none⟩ = some (.int .i64 ph) ∧ W.cell? ⟨w1.heap.size, 2, none⟩ = some (.int .i64 t) ∧ W.cell? ⟨w1.heap.size, 3, none⟩ = some (.int .i64 x) ∧ W.cell? ⟨w1.heap.size, 4, none⟩ = some (.int .i64 r) ∧ W.cell? ⟨w1.heap.size, 5, none⟩ = some (.int .i64 p) ∧ W.cell? ⟨w1.heap.size, 6, none⟩ = some (.int .i64 l) ∧ W.cell? ⟨w1.heap.size, 7, none⟩ = some (.slice A n c)) := Lib.hid fun W hW => by
    obtain ⟨i0, i1, i2, i3, i4, i5, i6, i7⟩ := (HA.out.later hW).eight
    obtain ⟨j0, j1, j2, j3, j4, j5, j6, j7⟩ := (HB.out.later hW).eight
    exact ⟨i0, i1, i2, i3, i4, i5, i6, i7, j0, j1, j2, j3, j4, j5, j6, j7⟩
  refine oneA 0 34 hsel (h := ?_)
  simp only [Act.put, List.setIfInBounds_toArray, List.set_cons_zero, List.set_cons_succ]
  refine oneA 1 35 hsel (h := ?_)
  simp only [Act.put, List.setIfInBounds_toArray, List.set_cons_zero, List.set_cons_succ]
  refine oneA 2 36 hsel (h := ?_)
  simp only [Act.put, List.setIfInBounds_toArray, List.set_cons_zero, List.set_cons_succ]
  refine oneA 3 37 hsel (h := ?_)
  simp only [Act.put, List.setIfInBounds_toArray, List.set_cons_zero, List.set_cons_succ]
  refine oneA 4 38 hsel (h := ?_)
  simp only [Act.put, List.setIfInBounds_toArray, List.set_cons_zero, List.set_cons_succ]
  refine oneA 5 39 hsel (h := ?_)
  simp only [Act.put, List.setIfInBounds_toArray, List.set_cons_zero, List.set_cons_succ]
  refine wpAnyL_ready (rs := [6]) (by kernel_rfl) (by kernel_rfl) (by simp) ?_
  refine AllReadyL.cons (o := ?_) ?_ (fun K hK => ?_) AllReadyL.nil
  case refine_2 => (simp only [List.getElem?_cons_succ, List.getElem?_cons_zero]; rfl)
  go_simp
  (go_at_call 22; (with_reducible refine (Equal_b _ _ _ PB PB true (HV1.out.later HOZ.out) (HV2.out.later HOZ.out) (by simp)).mono ?_); rintro ee w' ⟨rfl, rfl⟩)
  go_wp2_with (fail)
  clear hHeld
  refine hK.out _ _ (KC.out _ HOZ.out) (fun hHeld => ?_)
  clear hK K
  try simp only [List.set_cons_zero, List.set_cons_succ]
  refine oneA 7 41 hsel (h := ?_)
  simp only [Act.put, List.setIfInBounds_toArray, List.set_cons_zero, List.set_cons_succ]
  refine oneA 8 42 hsel (h := ?_)
  simp only [Act.put, List.setIfInBounds_toArray, List.set_cons_zero, List.set_cons_succ]
  refine oneA 9 43 hsel (h := ?_)
  simp only [Act.put, List.setIfInBounds_toArray, List.set_cons_zero, List.set_cons_succ]
  refine oneA 10 44 hsel (h := ?_)
  simp only [Act.put, List.setIfInBounds_toArray, List.set_cons_zero, List.set_cons_succ]
  refine oneA 12 46 hsel (h := ?_)
  simp only [Act.put, List.setIfInBounds_toArray, List.set_cons_zero, List.set_cons_succ]
  refine wpAnyL_ready (rs := [11]) (by kernel_rfl) (by kernel_rfl) (by simp) ?_
  refine AllReadyL.cons (o := ?_) ?_ (fun K hK => ?_) AllReadyL.nil
  case refine_2 => (simp only [List.getElem?_cons_succ, List.getElem?_cons_zero]; rfl)
  go_simp
  (go_at_call 28; (with_reducible refine (HR1.out _ (on_new HO.out HOZ.out)).mono ?_); rintro ee w2 ⟨rfl, ho⟩; (replace HOZ := Lib.hid (on_new HOZ.out ho)); clear ho)
  go_wp2_with (fail)
  clear hHeld
  refine hK.out _ _ (KC.out _ HOZ.out) (fun hHeld => ?_)
  clear hK K
  try simp only [List.set_cons_zero, List.set_cons_succ]
  refine wpAnyL_ready (rs := [13]) (by kernel_rfl) (by kernel_rfl) (by simp) ?_
  refine AllReadyL.cons (o := ?_) ?_ (fun K hK => ?_) AllReadyL.nil
  case refine_2 => (simp only [List.getElem?_cons_succ, List.getElem?_cons_zero]; rfl)
  go_simp
  (go_at_call 29; (with_reducible refine (HR2.out _).mono ?_); rintro ee w2 ⟨rfl, ho⟩; (replace HOZ := Lib.hid (on_new HOZ.out ho)); clear ho)
  go_wp2_with (fail)
  clear hHeld
  refine hK.out _ _ (KC.out _ HOZ.out) (fun hHeld => ?_)
  clear hK K
  try simp only [List.set_cons_zero, List.set_cons_succ]
  refine oneA 14 48 hsel (h := ?_)
  simp only [Act.put, List.setIfInBounds_toArray, List.set_cons_zero, List.set_cons_succ]
  refine oneA 15 49 hsel (h := ?_)
  simp only [Act.put, List.setIfInBounds_toArray, List.set_cons_zero, List.set_cons_succ]
  refine oneA 16 50 hsel (h := ?_)
  simp only [Act.put, List.setIfInBounds_toArray, List.set_cons_zero, List.set_cons_succ]
  refine oneA 17 51 hsel (h := ?_)
  simp only [Act.put, List.setIfInBounds_toArray, List.set_cons_zero, List.set_cons_succ]
  refine oneA 19 53 hsel (h := ?_)
  simp only [Act.put, List.setIfInBounds_toArray, List.set_cons_zero, List.set_cons_succ]
  refine wpAnyL_ready (rs := [18]) (by kernel_rfl) (by kernel_rfl) (by simp) ?_
  refine AllReadyL.cons (o := ?_) ?_ (fun K hK => ?_) AllReadyL.nil
  case refine_2 => (simp only [List.getElem?_cons_succ, List.getElem?_cons_zero]; rfl)
  go_simp
  (go_at_call 30; (with_reducible refine (HWR.out _).mono ?_); rintro ee w2 ⟨rfl, ho⟩; (replace HOZ := Lib.hid (on_new HOZ.out ho)); clear ho)
  go_wp2_with (fail)
  clear hHeld
  refine hK.out _ _ (KC.out _ HOZ.out) (fun hHeld => ?_)
  clear hK K
  try simp only [List.set_cons_zero, List.set_cons_succ]
  refine oneA 20 54 hsel (h := ?_)
  simp only [Act.put, List.setIfInBounds_toArray, List.set_cons_zero, List.set_cons_succ]
  refine oneA 21 55 hsel (h := ?_)
  simp only [Act.put, List.setIfInBounds_toArray, List.set_cons_zero, List.set_cons_succ]
  refine oneA 22 56 hsel (h := ?_)
  simp only [Act.put, List.setIfInBounds_toArray, List.set_cons_zero, List.set_cons_succ]
  refine oneA 23 57 hsel (h := ?_)
  simp only [Act.put, List.setIfInBounds_toArray, List.set_cons_zero, List.set_cons_succ]
  refine oneA 24 58 hsel (h := ?_)
  simp only [Act.put, List.setIfInBounds_toArray, List.set_cons_zero, List.set_cons_succ]
  refine wpAnyL_ready (rs := [25]) (by kernel_rfl) (by kernel_rfl) (by simp) ?_
  refine AllReadyL.cons (o := ?_) ?_ (fun K hK => ?_) AllReadyL.nil
  case refine_2 => (simp only [List.getElem?_cons_succ, List.getElem?_cons_zero]; rfl)
  go_simp
  (go_at_call 31; (with_reducible refine (HSM.out _ (on_new HO.out HOZ.out)).mono ?_); rintro ee w2 ⟨rfl, ho⟩; (replace HOZ := Lib.hid (on_new HOZ.out ho)); clear ho)
  go_wp2_with (fail)
  clear hHeld
  refine hK.out _ _ (KC.out _ HOZ.out) (fun hHeld => ?_)
  clear hK K
  try simp only [List.set_cons_zero, List.set_cons_succ]
  refine oneA 26 60 hsel (h := ?_)
  simp only [Act.put, List.setIfInBounds_toArray, List.set_cons_zero, List.set_cons_succ]
  refine oneA 27 61 hsel (h := ?_)
  simp only [Act.put, List.setIfInBounds_toArray, List.set_cons_zero, List.set_cons_succ]
  refine wpAnyL_done (by kernel_rfl) (by kernel_rfl) ?_ _
  clear hsel hHeld
  go_upto_region 14 with (go_at_call 32; (with_reducible refine (HDE.out _ _ (on_new HO.out HOZ.out) (HV1.out.later HOZ.out)).mono ?_); rintro ee w3 ⟨A2, c2, rfl, hsn, ho⟩; have HSN := Lib.hid (hsn.later ((Only.refl (w3.heap.size ≤ ·) w3).alloc (fun _ h => h) (.cells #[.int .i64 g, .int .i64 ph, .int .i64 t, .int .i64 x, .int .i64 r, .int .i64 p, .int .i64 l, .slice A2 n c2] 53))); have HD : Hid (Blk (w3.alloc (.cells #[.int .i64 g, .int .i64 ph, .int .i64 t, .int .i64 x, .int .i64 r, .int .i64 p, .int .i64 l, .slice A2 n c2] 53)) w3.heap.size 53 [.int .i64 g, .int .i64 ph, .int .i64 t, .int .i64 x, .int .i64 r, .int .i64 p, .int .i64 l, .slice A2 n c2]) := Lib.hid (Blk.new w3 53 _); (replace ho := ho.alloc (fun _ h => h) (.cells #[.int .i64 g, .int .i64 ph, .int .i64 t, .int .i64 x, .int .i64 r, .int .i64 p, .int .i64 l, .slice A2 n c2] 53)); (replace HOZ := Lib.hid (on_new HOZ.out ho)); clear hsn ho)
  go_wp2_with (first
    | (go_at_call 25; (with_reducible refine (HAL.out _ (on_new HO.out HOZ.out)).mono ?_); rintro ee w2 ⟨rfl, ho⟩; (replace HSN := Lib.hid (HSN.out.later ho)); (replace HD := Lib.hid (HD.out.later ho)); (replace HOZ := Lib.hid (on_new HOZ.out ho)); clear ho; (obtain ⟨i0, i1, i2, i3, i4, i5, i6, i7⟩ := (HA.out.later HOZ.out).eight); (obtain ⟨k0, k1, k2, k3, k4, k5, k6, k7⟩ := HD.out.eight))
    | (go_at_call 33; (with_reducible refine (rmSame_eq _ g ph t x r p l A2 A n c2 c xs HSN.out (HSC.out _ (on_new HO.out HOZ.out))).mono ?_); rintro ee w2 ⟨rfl, ho⟩; (replace HOZ := Lib.hid (on_new HOZ.out ho)); clear ho))
  go_ret
  exact ⟨rfl, on_new HO.out HOZ.out⟩
end
theorem menc_c (w : World) (hG : Gens w) (g ph t x r p l : Int) (A : Option Addr) (n c : Nat) (xs : Bytes) (hs : Src w (.slice A n c) xs) (hne : n = xs.length) (hi : ∀ u ∈ [g, ph, t, x, r, p, l], I64 u) : Calls Tryd.prog 7 #[.agg #[.int .i64 g, .int .i64 ph, .int .i64 t, .int .i64 x, .int .i64 r, .int .i64 p, .int .i64 l, .slice A n c]] w (Told w (.bool true)) := by
  by_cases hn : 300 < n
  · exact menc_out w hG g ph t x r p l A n c hn
  have hEN : ∀ W, Only (w.heap.size ≤ ·) w W → Calls Tryd.prog 26 #[.agg #[.int .i64 g, .int .i64 ph, .int .i64 t, .int .i64 x, .int .i64 r, .int .i64 p, .int .i64 l, .slice A n c]] W (GaveBE W (if okL [g, ph, t, x, r, p, l] xs.length = true then encB [g, ph, t, x, r, p, l] xs else []) (if okL [g, ph, t, x, r, p, l] xs.length = true then 0 else 92)) := fun W hW => MEncode_l W _ xs hi (hG.later hW) g ph t x r p l A n c rfl hne (hs.later hW)
  have hRE : ∀ W, Only (w.heap.size ≤ ·) w W → Calls Tryd.prog 27 #[.agg #[.int .i64 g, .int .i64 ph, .int .i64 t, .int .i64 x, .int .i64 r, .int .i64 p, .int .i64 l, .slice A n c]] W (GaveBE W (if okL [g, ph, t, x, r, p, l] xs.length = true then encB [g, ph, t, x, r, p, l] xs else []) (if okL [g, ph, t, x, r, p, l] xs.length = true then 0 else 92)) := fun W hW => rmEncode_l W g ph t x r p l A n c xs (hs.later hW) hne
  have hR1 : ∀ W, Only (w.heap.size ≤ ·) w W → Calls Tryd.prog 28 #[.agg #[.int .i64 g, .int .i64 ph, .int .i64 t, .int .i64 x, .int .i64 r, .int .i64 p, .int .i64 l, .slice A n c]] W (Told W (.bool (okM g ph t x r p l n))) := fun W hW => MRight_c W g ph t x r p l A n c (hG.later hW)
  have hR2 : ∀ W, Calls Tryd.prog 29 #[.agg #[.int .i64 g, .int .i64 ph, .int .i64 t, .int .i64 x, .int .i64 r, .int .i64 p, .int .i64 l, .slice A n c]] W (Told W (.bool (okM g ph t x r p l n))) := fun W => rmRight_c W g ph t x r p l A n c
  have hWR : ∀ W, Calls Tryd.prog 30 #[.agg #[.int .i64 g, .int .i64 ph, .int .i64 t, .int .i64 x, .int .i64 r, .int .i64 p, .int .i64 l, .slice A n c]] W (Told W (.int .i64 (if ph = 1 then t else g))) := fun W => MWrite_c W g ph t x r p l A n c
  have hSM : ∀ W, Only (w.heap.size ≤ ·) w W → Calls Tryd.prog 31 #[.agg #[.int .i64 g, .int .i64 ph, .int .i64 t, .int .i64 x, .int .i64 r, .int .i64 p, .int .i64 l, .slice A n c], .agg #[.int .i64 g, .int .i64 ph, .int .i64 t, .int .i64 x, .int .i64 r, .int .i64 p, .int .i64 l, .slice A n c]] W (Told W (.bool true)) := fun W hW => by
    have h := MSame_c W g ph t x r p l g ph t x r p l A A n c n c true (decide_eq_true rfl) true (fun W' hW' => Equal_b W' _ _ xs xs true ((hs.later hW).later hW') ((hs.later hW).later hW') (decide_eq_true rfl))
    exact h
  by_cases hok : okL [g, ph, t, x, r, p, l] xs.length = true
  · rw [if_pos hok, if_pos hok] at hEN hRE
    obtain ⟨a1, a2, a3, a4⟩ := enc_back (g := g) (ph := ph) (t := t) (x := x) (r := r) (p := p) (l := l) (xs := xs) hok
    have hDE : ∀ W v, Only (w.heap.size ≤ ·) w W → Src W v (encB [g, ph, t, x, r, p, l] xs) → Calls Tryd.prog 32 #[v] W (fun e w' => ∃ A2 c2, e = .returned (.tuple #[.agg #[.int .i64 g, .int .i64 ph, .int .i64 t, .int .i64 x, .int .i64 r, .int .i64 p, .int .i64 l, .slice A2 n c2], .int .i64 0]) ∧ Src w' (.slice A2 n c2) xs ∧ Only (W.heap.size ≤ ·) W w') := fun W v hW hv => by
      refine (MDecode_c W v _ (hG.later hW) hv (by rw [a4]; decide)).mono ?_
      rw [a1, a2, a3]
      rintro e w' ⟨q1, q2, q3, q4, q5, q6, q7, A', n', c', hM, hn', rfl, hw, ho⟩
      simp only [List.cons.injEq, and_true] at hM
      obtain ⟨rfl, rfl, rfl, rfl, rfl, rfl, rfl⟩ := hM
      obtain rfl : n' = n := hn'.trans hne.symm
      exact ⟨A', c', rfl, hw.src, ho⟩
    by_cases hp : ph = 1
    · subst hp
      exact menc_y1 w hG g t x r p l A n c xs _ _ hn hs hEN hRE hR1 hR2 hWR hSM hDE
    · rw [if_neg hp] at hWR
      exact menc_y0 w hG g ph t x r p l A n c hp xs _ _ hn hs hEN hRE hR1 hR2 hWR hSM hDE
  · rw [if_neg hok, if_neg hok] at hEN hRE
    by_cases hp : ph = 1
    · subst hp
      exact menc_n1 w hG g t x r p l A n c xs _ _ hn hs hEN hRE hR1 hR2 hWR hSM
    · rw [if_neg hp] at hWR
      exact menc_n0 w hG g ph t x r p l A n c hp xs _ _ hn hs hEN hRE hR1 hR2 hWR hSM
end Go.Proofs.YtoghojgajpfkkaaDoor
