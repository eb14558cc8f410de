/-
  NodeThree: the walk.
-/
import Derived.Test.YtjbbljnfgpggkaaDoorThr
import Derived.Test.YtjbbljnfgpggkaaDoorSwk
import Derived.Test.YtjbbljnfgpggkaaDoorWit
import Derived.Test.YtjbbljnfgpggkaaDoorFre
import Derived.Test.YtjbbljnfgpggkaaDoorPts
import Derived.Test.YtjbbljnfgpggkaaDoorCpy
import Derived.Test.YtjbbljnfgpggkaaDoorSem
set_option linter.unusedVariables false
namespace Go.Proofs.YtjbbljnfgpggkaaDoor
open Go.RowKit

/-- A node came back; its kind as a literal. -/
def GaveL (w : World) (f : Bool) (x : Nd) (e : Ending) (w' : World) : Prop := ∃ A n c B m d, e = .returned (.agg #[.bool f, .slice A n c, .slice B m d]) ∧ Nod w' x f (.slice A n c) (.slice B m d) ∧ Only (w.heap.size ≤ ·) w w'
theorem GaveN.toL {w : World} {f : Bool} {x : Nd} {e : Ending} {w' : World} (h : GaveN w x e w') (hf : f = x.leaf) : GaveL w f x e w' := by
  subst hf
  exact h
/-- A right node is small. -/
theorem fine_small {g : Int} {x : Nd} (h : Fine g x) : Small x ∧ x.its.length ≤ 60 ∧ x.kds.length ≤ 60 := by
  obtain ⟨hg, hf, h1, h2⟩ := h
  have hcap : tr g 248 240 240 ≤ 248 := by unfold tr; split <;> (try split) <;> (try split) <;> omega
  have hk24 : tr g 16 20 24 ≤ 24 := by unfold tr; split <;> (try split) <;> (try split) <;> omega
  unfold nfit nrm at hf
  rw [decide_eq_true_eq] at hf
  have hgg : 1 ≤ g ∧ g ≤ g ∧ g ≤ 3 := ⟨hg.1, Int.le_refl _, hg.2⟩
  cases hl : x.leaf
  · obtain ⟨hi, h0⟩ := h2 hl
    rw [rms_kids g hl] at hf
    have hr := sum_ratio (f := krm g) (f' := krm g) (a := 5) (b := 9) (l := x.kds) fun j hj => ⟨(krm_two hgg (hi j hj)).1, (krm_two hgg (hi j hj)).2.2.2⟩
    have hn : x.its.length = 0 := by rw [h0]; rfl
    refine ⟨⟨by omega, by omega, fun i hi' => ?_, fun i hi' => ?_⟩, by omega, by omega⟩
    · rw [h0] at hi'
      simp at hi'
    · have := hi i hi'
      omega
  · obtain ⟨hi, h0⟩ := h1 hl
    rw [rms_leaf g hl] at hf
    have hr := sum_ratio (f := irm g) (f' := irm g) (a := 9) (b := 13) (l := x.its) fun j hj => ⟨(irm_two hgg (hi j hj)).1, (irm_two hgg (hi j hj)).2.2.2⟩
    have hn : x.kds.length = 0 := by rw [h0]; rfl
    refine ⟨⟨by omega, by omega, fun i hi' => ?_, fun i hi' => ?_⟩, by omega, by omega⟩
    · have := okay_small (hi i hi')
      omega
    · rw [h0] at hi'
      simp at hi'
theorem okay_key {g : Int} {n m : Nat} {s r : Int} (h : okay g n m s r = true) : (n : Int) ≤ tr g 16 20 24 := by
  unfold okay keyOk at h
  simp only [Bool.and_eq_true, decide_eq_true_eq] at h
  exact h.2.1.2

set_option maxRecDepth 100000 in
set_option maxHeartbeats 12800000 in
theorem three_c (hal : ∀ W, Gens W → Calls Tryd.prog 7 #[] W (Told W (.bool true))) (w : World) (f : Bool) (A B P Q : Option Addr) (n c m d t p e q : Nat) (s r u v z : Int) (x : Nd) (xs ys : Bytes) (hN : Nod w x f (.slice A n c) (.slice B m d)) (hm : many x ≤ 70368744177664) (hk : Src w (.slice P t p) xs) (hv : Src w (.slice Q e q) ys) (ht : xs.length = t) (he : ys.length = e) (hG : Gens w) :
    Calls Tryd.prog 4 #[.agg #[.bool f, .slice A n c, .slice B m d], .agg #[.slice P t p, .slice Q e q, .int .i64 s, .int .i64 r], .agg #[.int .i64 u, .int .i64 v, .int .i64 z]] w (Told w (.bool true)) := by
  obtain ⟨W0, hW0⟩ : ∃ W0, W0 = (((w.alloc (.cells #[.bool f, .slice A n c, .slice B m d] 25)).alloc (.cells #[.slice P t p, .slice Q e q, .int .i64 s, .int .i64 r] 52)).alloc (.cells #[.int .i64 u, .int .i64 v, .int .i64 z] 53)) := ⟨_, rfl⟩
  have hz1 : (w.alloc (.cells #[.bool f, .slice A n c, .slice B m d] 25)).heap.size = w.heap.size + 1 := by simp
  have hz2 : ((w.alloc (.cells #[.bool f, .slice A n c, .slice B m d] 25)).alloc (.cells #[.slice P t p, .slice Q e q, .int .i64 s, .int .i64 r] 52)).heap.size = w.heap.size + 1 + 1 := by simp
  have HO : Hid (Only (w.heap.size ≤ ·) w W0) := Lib.hid (by rw [hW0]; exact (((Only.refl _ w).alloc (fun _ h => h) _).alloc (fun _ h => h) _).alloc (fun _ h => h) _)
  have HB : Hid (Blk W0 w.heap.size 25 [.bool f, .slice A n c, .slice B m d]) := Lib.hid (by rw [hW0]; exact ((Blk.new w 25 _).alloc _).alloc _)
  have HC : Hid (Blk W0 (w.heap.size + 1) 52 [.slice P t p, .slice Q e q, .int .i64 s, .int .i64 r]) := Lib.hid (by
    have h := (Blk.new (w.alloc (.cells #[.bool f, .slice A n c, .slice B m d] 25)) 52 [.slice P t p, .slice Q e q, .int .i64 s, .int .i64 r]).alloc (.cells #[.int .i64 u, .int .i64 v, .int .i64 z] 53)
    rw [hz1] at h
    rw [hW0]
    exact h)
  have HD : Hid (Blk W0 (w.heap.size + 1 + 1) 53 [.int .i64 u, .int .i64 v, .int .i64 z]) := Lib.hid (by
    have h := Blk.new ((w.alloc (.cells #[.bool f, .slice A n c, .slice B m d] 25)).alloc (.cells #[.slice P t p, .slice Q e q, .int .i64 s, .int .i64 r] 52)) 53 [.int .i64 u, .int .i64 v, .int .i64 z]
    rw [hz2] at h
    rw [hW0]
    exact h)
  clear hz1 hz2
  have HN := Lib.hid hN
  have HSK := Lib.hid hk
  have HSV := Lib.hid hv
  have HTX : Hid (t = xs.length) := Lib.hid ht.symm
  have HEX : Hid (e = ys.length) := Lib.hid he.symm
  have HXF := Lib.hid hN.1
  have HAL : Hid (∀ W, Only (w.heap.size ≤ ·) w W → Calls Tryd.prog 7 #[] W (Told W (.bool true))) := Lib.hid fun W hW => hal W (hG.later hW)
  have HG := Lib.hid hG
  have HDR : Hid (∀ W, Only (w.heap.size ≤ ·) w W → Calls Tryd.prog 17 #[.int .i64 u, .agg #[.bool f, .slice A n c, .slice B m d]] W (ToldB W (fun b => b = true → Fine u x))) := Lib.hid fun W hW => DRight_w W f A B n c m d x u (HN.out.later hW) hm
  have hcn := hN.2.1.cap
  have hcm := hN.2.2.cap
  clear hal hN hm hk hv ht he hG
  have KP : Hid (∀ W, Only (W0.heap.size ≤ ·) W0 W → W.cell? ⟨w.heap.size + 1 + 1, 0, none⟩ = some (.int .i64 u) ∧ W.cell? ⟨w.heap.size + 1 + 1, 1, none⟩ = some (.int .i64 v) ∧ W.cell? ⟨w.heap.size + 1 + 1, 2, none⟩ = some (.int .i64 z)) := Lib.hid fun W hW => (HD.out.later hW).tri
  have HOZ : Hid (Only (W0.heap.size ≤ ·) W0 W0.drew) := Lib.hid (Only.refl _ W0).drew
  go_enter Tryd.func4, Tryd.ntmps4
  go_upto_region 1 with (fail)
  rw [← hW0]
  clear hW0
  refine wp_region_list (B := [false, false, false, false, false, false]) (S := (fun W => W.cell? ⟨w.heap.size + 1 + 1, 0, none⟩ = some (.int .i64 u) ∧ W.cell? ⟨w.heap.size + 1 + 1, 1, none⟩ = some (.int .i64 v) ∧ W.cell? ⟨w.heap.size + 1 + 1, 2, none⟩ = some (.int .i64 z))) (by kernel_rfl) (by kernel_rfl) (by kernel_rfl) (KP.out _ HOZ.out) (fun hsel hHeld => ?_)
  obtain ⟨W1, hW1⟩ : ∃ W1, W1 = W0.drew := ⟨_, rfl⟩
  rw [← hW1] at HOZ hHeld
  rw [← hW1]
  clear hW1
  refine take_oneL (i := 0) (d := 13) (oi := ?_) (v := ?_) ?_ hsel (by kernel_rfl) (by kernel_rfl) (fun _ _ _ h => h) ?_ ?_ ?_ (by assumption) ?_
  case refine_3 => (simp only [List.getElem?_cons_zero]; rfl)
  case refine_4 => rfl
  case refine_5 => rfl
  case refine_6 => (intro w' hSw; (try dsimp only at hSw); go_simp; (try with_reducible rfl))
  simp only [Act.put, List.setIfInBounds_toArray, List.set_cons_zero, List.set_cons_succ]
  refine take_oneL (i := 1) (d := 14) (oi := ?_) (v := ?_) ?_ hsel (by kernel_rfl) (by kernel_rfl) (fun _ _ _ h => h) ?_ ?_ ?_ (by assumption) ?_
  case refine_3 => (simp only [List.getElem?_cons_succ, List.getElem?_cons_zero]; rfl)
  case refine_4 => rfl
  case refine_5 => rfl
  case refine_6 => (intro w' hSw; (try dsimp only at hSw); go_simp; (try with_reducible rfl))
  simp only [Act.put, List.setIfInBounds_toArray, List.set_cons_zero, List.set_cons_succ]
  refine take_oneL (i := 2) (d := 15) (oi := ?_) (v := ?_) ?_ hsel (by kernel_rfl) (by kernel_rfl) (fun _ _ _ h => h) ?_ ?_ ?_ (by assumption) ?_
  case refine_3 => (simp only [List.getElem?_cons_succ, List.getElem?_cons_zero]; rfl)
  case refine_4 => rfl
  case refine_5 => rfl
  case refine_6 => (intro w' hSw; (try dsimp only at hSw); go_simp; (try with_reducible rfl))
  simp only [Act.put, List.setIfInBounds_toArray, List.set_cons_zero, List.set_cons_succ]
  refine take_oneL (i := 3) (d := 16) (oi := ?_) (v := ?_) ?_ hsel (by kernel_rfl) (by kernel_rfl) (fun _ _ _ h => h) ?_ ?_ ?_ (by assumption) ?_
  case refine_3 => (simp only [List.getElem?_cons_succ, List.getElem?_cons_zero]; rfl)
  case refine_4 => rfl
  case refine_5 => rfl
  case refine_6 => (intro w' hSw; (try dsimp only at hSw); go_simp; (try with_reducible rfl))
  simp only [Act.put, List.setIfInBounds_toArray, List.set_cons_zero, List.set_cons_succ]
  refine take_oneL (i := 4) (d := 7) (oi := ?_) (v := ?_) ?_ hsel (by kernel_rfl) (by kernel_rfl) (fun _ _ _ h => h) ?_ ?_ ?_ (by assumption) ?_
  case refine_3 => (simp only [List.getElem?_cons_succ, List.getElem?_cons_zero]; rfl)
  case refine_4 => rfl
  case refine_5 => rfl
  case refine_6 => (intro w' hSw; (try dsimp only at hSw); go_simp; (try with_reducible rfl))
  simp only [Act.put, List.setIfInBounds_toArray, List.set_cons_zero, List.set_cons_succ]
  refine take_oneL (i := 5) (d := 8) (oi := ?_) (v := ?_) ?_ hsel (by kernel_rfl) (by kernel_rfl) (fun _ _ _ h => h) ?_ ?_ ?_ (by assumption) ?_
  case refine_3 => (simp only [List.getElem?_cons_succ, List.getElem?_cons_zero]; rfl)
  case refine_4 => rfl
  case refine_5 => rfl
  case refine_6 => (intro w' hSw; (try dsimp only at hSw); go_simp; (try with_reducible rfl))
  simp only [Act.put, List.setIfInBounds_toArray, List.set_cons_zero, List.set_cons_succ]
  refine wpAnyL_done (by kernel_rfl) (by kernel_rfl) ?_ _
  clear hsel hHeld
  replace HO := Lib.hid (on_new HO.out HOZ.out)
  replace HB := Lib.hid (HB.out.later HOZ.out)
  replace HC := Lib.hid (HC.out.later HOZ.out)
  clear KP HOZ HD
  obtain ⟨b0, b1, b2⟩ := HB.out.tri
  obtain ⟨j0, j1, j2, j3⟩ := HC.out.four
  go_wp2_with (fail)
  (go_at_call 17; (with_reducible refine (HDR.out _ HO.out).mono ?_); rintro ee w1 ⟨b, rfl, hb, ho⟩; have HFB := Lib.hid hb; clear hb; (replace HO := Lib.hid (on_new HO.out ho)); (replace HB := Lib.hid (HB.out.later ho)); (replace HC := Lib.hid (HC.out.later ho)); clear b0 b1 b2 j0 j1 j2 j3; (obtain ⟨b0, b1, b2⟩ := HB.out.tri); (obtain ⟨j0, j1, j2, j3⟩ := HC.out.four); clear ho)
  cases b
  · go_wp2_with (first | (go_at_call 7; (with_reducible refine (HAL.out _ HO.out).mono ?_); rintro ee W9 ⟨rfl, ho⟩; (replace HO := Lib.hid (on_new HO.out ho)); (replace HB := Lib.hid (HB.out.later ho)); (replace HC := Lib.hid (HC.out.later ho)); clear b0 b1 b2 j0 j1 j2 j3; (obtain ⟨b0, b1, b2⟩ := HB.out.tri); (obtain ⟨j0, j1, j2, j3⟩ := HC.out.four); clear ho))
    go_ret
    exact ⟨rfl, HO.out⟩
  have HFI : Hid (Fine u x) := Lib.hid (HFB.out rfl)
  clear HFB HDR
  have hu1 : ¬ u < 1 := by have := HFI.out.1; omega
  have zu1 : decide (u < 1) = false := decide_eq_false hu1
  by_cases huv : v < u
  · have zuv : decide (v < u) = true := decide_eq_true huv
    go_wp2_with (first | (go_at_call 7; (with_reducible refine (HAL.out _ HO.out).mono ?_); rintro ee W9 ⟨rfl, ho⟩; (replace HO := Lib.hid (on_new HO.out ho)); (replace HB := Lib.hid (HB.out.later ho)); (replace HC := Lib.hid (HC.out.later ho)); clear b0 b1 b2 j0 j1 j2 j3; (obtain ⟨b0, b1, b2⟩ := HB.out.tri); (obtain ⟨j0, j1, j2, j3⟩ := HC.out.four); clear ho))
    go_ret
    exact ⟨rfl, HO.out⟩
  have zuv : decide (v < u) = false := decide_eq_false huv
  by_cases hv3 : 3 < v
  · have zv3 : decide (3 < v) = true := decide_eq_true hv3
    go_wp2_with (first | (go_at_call 7; (with_reducible refine (HAL.out _ HO.out).mono ?_); rintro ee W9 ⟨rfl, ho⟩; (replace HO := Lib.hid (on_new HO.out ho)); (replace HB := Lib.hid (HB.out.later ho)); (replace HC := Lib.hid (HC.out.later ho)); clear b0 b1 b2 j0 j1 j2 j3; (obtain ⟨b0, b1, b2⟩ := HB.out.tri); (obtain ⟨j0, j1, j2, j3⟩ := HC.out.four); clear ho))
    go_ret
    exact ⟨rfl, HO.out⟩
  have zv3 : decide (3 < v) = false := decide_eq_false hv3
  obtain ⟨ok, hok⟩ : ∃ b, okay u t e s r = b := ⟨_, rfl⟩
  have HOK := Lib.hid hok
  clear hok
  cases ok
  · go_wp2_with (first | (go_at_call 7; (with_reducible refine (HAL.out _ HO.out).mono ?_); rintro ee W9 ⟨rfl, ho⟩; (replace HO := Lib.hid (on_new HO.out ho)); (replace HB := Lib.hid (HB.out.later ho)); (replace HC := Lib.hid (HC.out.later ho)); clear b0 b1 b2 j0 j1 j2 j3; (obtain ⟨b0, b1, b2⟩ := HB.out.tri); (obtain ⟨j0, j1, j2, j3⟩ := HC.out.four); clear ho) | (go_at_call 18; (with_reducible refine (rRight_c _ _ _ _ _ _ _ _ _ _ false HOK.out).mono ?_); rintro ee W8 ⟨rfl, ho⟩; (replace HO := Lib.hid (on_new HO.out ho)); (replace HB := Lib.hid (HB.out.later ho)); (replace HC := Lib.hid (HC.out.later ho)); clear b0 b1 b2 j0 j1 j2 j3; (obtain ⟨b0, b1, b2⟩ := HB.out.tri); (obtain ⟨j0, j1, j2, j3⟩ := HC.out.four); clear ho))
    go_ret
    exact ⟨rfl, HO.out⟩
  have HFS := Lib.hid (fine_small HFI.out)
  have HXL : Hid (x.its.length ≤ 60) := Lib.hid HFS.out.2.1
  have HXL2 : Hid (x.kds.length ≤ 60) := Lib.hid HFS.out.2.2
  have HGG : Hid (1 ≤ u ∧ u ≤ v ∧ v ≤ 3) := Lib.hid (by omega)
  have HGV : Hid (1 ≤ v ∧ v ≤ 3) := Lib.hid (by omega)
  have HKEY : Hid ((xs.length : Int) ≤ tr u 16 20 24) := Lib.hid (by have h := okay_key HOK.out; rw [HTX.out] at h; exact h)
  have HLT : Hid (xs.length ≤ 100000 ∧ ys.length ≤ 100000) := Lib.hid (by have h := okay_small HOK.out; rw [← HTX.out, ← HEX.out]; omega)
  have HOF : Hid (∀ W, Only (w.heap.size ≤ ·) w W → Calls Tryd.prog 8 #[.agg #[.bool f, .slice A n c, .slice B m d]] W (GaveL W f x)) := Lib.hid fun W hW => (NOf_c W _ _ _ _ _ _ _ x (HN.out.later hW) HFS.out.1).mono fun e w' h => h.toL HXF.out
  clear zuv zv3 zu1 hu1 huv hv3
  have zu1 : decide (u < 1) = false := decide_eq_false (by have := HGG.out; omega)
  have zuv : decide (v < u) = false := decide_eq_false (by have := HGG.out; omega)
  have zv3 : decide (3 < v) = false := decide_eq_false (by have := HGG.out; omega)
  go_upto_region 4 with (go_at_call 18; (with_reducible refine (rRight_c _ _ _ _ _ _ _ _ _ _ true HOK.out).mono ?_); rintro ee W8 ⟨rfl, ho⟩; (replace HO := Lib.hid (on_new HO.out ho)); (replace HB := Lib.hid (HB.out.later ho)); (replace HC := Lib.hid (HC.out.later ho)); clear b0 b1 b2 j0 j1 j2 j3; (obtain ⟨b0, b1, b2⟩ := HB.out.tri); (obtain ⟨j0, j1, j2, j3⟩ := HC.out.four); clear ho)
  clear zu1 zuv zv3
  go_upto_region 5 with (go_at_call 8; (with_reducible refine (HOF.out _ HO.out).mono ?_); rintro ee W2 ⟨QA, qn, qc, QB, qm, qd, rfl, hn2, ho⟩; have HN2 := Lib.hid hn2; clear hn2; (replace HO := Lib.hid (on_new HO.out ho)); (replace HB := Lib.hid (HB.out.later ho)); (replace HC := Lib.hid (HC.out.later ho)); clear b0 b1 b2 j0 j1 j2 j3; (obtain ⟨b0, b1, b2⟩ := HB.out.tri); (obtain ⟨j0, j1, j2, j3⟩ := HC.out.four); clear ho)
  obtain ⟨wa, hwa⟩ : ∃ wa, wa = W2.alloc (.cells #[.bool f, .slice QA qn qc, .slice QB qm qd] 34) := ⟨_, rfl⟩
  have hBx : Blk wa W2.heap.size 34 [.bool f, .slice QA qn qc, .slice QB qm qd] := by rw [hwa]; exact Blk.new W2 34 _
  have hoa : Only (W2.heap.size ≤ ·) W2 wa := by rw [hwa]; exact (Only.refl _ W2).alloc (fun _ h => h) _
  rw [← hwa]
  have HZ2 : Hid (w.heap.size ≤ W2.heap.size) := Lib.hid HO.out.size
  replace HB := Lib.hid (HB.out.later hoa)
  replace HC := Lib.hid (HC.out.later hoa)
  replace HO := Lib.hid (on_new HO.out hoa)
  replace HN2 := Lib.hid (HN2.out.later hoa)
  have HX := Lib.hid hBx
  clear hwa hBx hoa HOF b0 b1 b2 j0 j1 j2 j3
  obtain ⟨b0, b1, b2⟩ := HB.out.tri
  obtain ⟨j0, j1, j2, j3⟩ := HC.out.four
  obtain ⟨g0, g1, g2⟩ := HX.out.tri
  have hq1 := HN2.out.2.1.cap
  have hq2 := HN2.out.2.2.cap
  cases f
  · skip
    obtain rfl : qm = x.kds.length := HN2.out.2.2.len
    obtain rfl : m = x.kds.length := HN.out.2.2.len
    obtain ⟨mm, hmm⟩ : ∃ mm, mm = x.kds.length := ⟨_, rfl⟩
    have HMM := Lib.hid hmm
    rw [← hmm] at HN2 HN HX HB b2 g2 ⊢
    obtain ⟨wk, hwk⟩ : ∃ wk, wk = wa.alloc (.cells #[.slice P t p, .int .i64 2] 58) := ⟨_, rfl⟩
    have hBk : Blk wk wa.heap.size 58 [.slice P t p, .int .i64 2] := by rw [hwk]; exact Blk.new wa 58 _
    have hok2 : Only (wa.heap.size ≤ ·) wa wk := by rw [hwk]; exact (Only.refl _ wa).alloc (fun _ h => h) _
    obtain ⟨y, hy⟩ : ∃ y : Nd, y = ⟨false, [], x.kds ++ [(xs, 2)]⟩ := ⟨_, rfl⟩
    have HSWP : Hid (Calls Tryd.prog 20 #[.agg #[.bool false, .slice QA qn qc, .slice QB mm qd], .int .i64 mm, .int .i64 0, .slice (some ⟨wa.heap.size, 0, none⟩) 1 1] wk (GaveL wk false y)) := Lib.hid (by
      have h := Swap_one wk false QA QB P (some ⟨wa.heap.size, 0, none⟩) qn qc mm qd mm 0 t p 1 2 x xs wa.heap.size 0 rfl (HN2.out.later hok2) (hBk.cell 0) (hBk.cell 1) hBk.lt ((HSK.out.later HO.out).later hok2) HTX.out (by have := HXL2.out; omega) (by omega) HLT.out.1
      have e1 : x.kds.take mm ++ (xs, 2) :: x.kds.drop (mm + 0) = x.kds ++ [(xs, 2)] := by rw [HMM.out, List.take_length, Nat.add_zero, List.drop_length]
      rw [e1, ← hy] at h
      refine h.mono fun ee w' h => ?_
      exact h.toL (by rw [hy]))
    have HLM := Lib.hid (kids_more (key := xs) (r := 2) (h := v) HGG.out HFI.out HXF.out.symm HKEY.out)
    rw [← hy] at HLM
    have HWK := Lib.hid hok2
    have HWKE := Lib.hid hwk
    rw [hwk] at HSWP
    clear hy hwk hBk hok2 hmm
    go_upto_region 8 with (go_at_call 20; (with_reducible refine HSWP.out.mono ?_); rintro ee w3 ⟨A3, n3, c3, B3, m3, d3, rfl, hs, ho⟩; (rw [← HWKE.out] at ho); have HN3 := Lib.hid hs; have HX3 := Lib.hid (HX.out.later (on_new HWK.out ho)); have HO3 := Lib.hid (on_new HO.out (on_new HWK.out ho)); clear hs ho b0 b1 b2 j0 j1 j2 j3 g0 g1 g2; (obtain ⟨g0, g1, g2⟩ := HX3.out.tri); (obtain ⟨f0, f1, f2⟩ := HX3.out.melt3))
    have HEY := Lib.hid HLM.out.1
    have HTY := Lib.hid HLM.out.2.1
    have HSY := Lib.hid HLM.out.2.2.1
    obtain ⟨W5, hW5⟩ : ∃ W5, W5 = (((w3.setCell ⟨W2.heap.size, 0, none⟩ (.bool false)).setCell ⟨W2.heap.size, 1, none⟩ (.slice A3 n3 c3)).setCell ⟨W2.heap.size, 2, none⟩ (.slice B3 m3 d3)) := ⟨_, rfl⟩
    have hB5 : Blk W5 W2.heap.size 34 [.bool false, .slice A3 n3 c3, .slice B3 m3 d3] := by rw [hW5]; exact ((HX3.out.set_ 0 _).set_ 1 _).set_ 2 _
    have hO5 : Only (· = W2.heap.size) w3 W5 := by rw [hW5]; exact (((Only.refl (· = W2.heap.size) _).setCell (p := ⟨W2.heap.size, 0, none⟩) rfl _).setCell (p := ⟨W2.heap.size, 1, none⟩) rfl _).setCell (p := ⟨W2.heap.size, 2, none⟩) rfl _
    have HN5 : Hid (Nod W5 y false (.slice A3 n3 c3) (.slice B3 m3 d3)) := Lib.hid ((nod_free HX3.out HN3.out).nod W5 (hO5.mono fun _ h => .inl h))
    have HX5 := Lib.hid hB5
    have HO5 : Hid (Only (w.heap.size ≤ ·) w W5) := Lib.hid (HO3.out.trans (hO5.mono fun j hj => by have := HZ2.out; omega))
    rw [← hW5]
    clear hW5 hB5 hO5 f0 f1 f2 g0 g1 g2
    have HCY : Hid (∀ W, Only (W5.heap.size ≤ ·) W5 W → Calls Tryd.prog 9 #[.int .i64 v, .agg #[.bool false, .slice A3 n3 c3, .slice B3 m3 d3]] W (Pieces W v y)) := Lib.hid fun W hW => Parts_n W false A3 B3 n3 c3 m3 d3 y v (HN5.out.later hW) (HG.out.later (on_new HO5.out hW)) HSY.out
    obtain ⟨g0, g1, g2⟩ := HX5.out.tri
    have HS5 : Hid (Only (W5.heap.size ≤ ·) W5 W5) := Lib.hid (Only.refl _ W5)
    go_upto_region 9 with (go_at_call 9; (with_reducible refine (HCY.out _ HS5.out).mono ?_); rintro ee W6 ⟨PA, pn, pc, l, rfl, hcu, hpt, ho⟩; have HCU := Lib.hid hcu; have HP := Lib.hid hpt; clear hcu hpt; (replace HO5 := Lib.hid (on_new HO5.out ho)); clear ho)
    clear g0 g1 g2
    obtain rfl : pn = l.length := HP.out.len
    have hpc := HP.out.cap
    have H3 : Hid (l.length ≤ 3 ∧ ∀ p ∈ l, nfit v p.2 = true) := Lib.hid (three_of HGV.out HCU.out HEY.out HTY.out)
    have hl3 : (l.length : Int) ≤ 3 := by have := H3.out.1; omega
    have HSALL : Hid (∀ p ∈ l, Small p.2) := Lib.hid (HCU.out.all (fun y k h _ _ => h.halves k) HSY.out)
    have HL0 : Hid (Only (W6.heap.size ≤ ·) W6 W6) := Lib.hid (Only.refl _ W6)
    go_wp2
    go_loopw [62] (fun i wr => ∃ (k : Nat), k ≤ l.length ∧ i = .int .i64 k ∧ Hid (Only (W6.heap.size ≤ ·) W6 wr)) (fun i _ => l.length - (intOf i).toNat)
    case atStart => exact ⟨0, Nat.zero_le _, rfl, HL0⟩
    case round =>
      obtain ⟨k, hk, rfl, HU⟩ := hrel
      by_cases hlt : k < l.length
      · have hlti : (k : Int) < (l.length : Int) := by omega
        obtain ⟨pb, po, yy, P1, Q1, R1, p1, q1, r1, rfl, hpb, hy, e0, e1, e2, e3, _, n1⟩ := pts_at (HP.out.later HU.out) hlt
        have hyl : yy ∈ l := List.mem_of_getElem? hy
        have HFT := Lib.hid (H3.out.2 yy hyl)
        have HSP := Lib.hid (HSALL.out yy hyl)
        obtain ⟨wp, hwp⟩ : ∃ wp, wp = wr.alloc (.cells #[.slice P1 yy.1.length p1, .bool yy.2.leaf, .slice Q1 yy.2.its.length q1, .slice R1 yy.2.kds.length r1] 41) := ⟨_, rfl⟩
        have hop : Only (wr.heap.size ≤ ·) wr wp := by rw [hwp]; exact (Only.refl _ wr).alloc (fun _ h => h) _
        have hBp : Blk wp wr.heap.size 41 [.slice P1 yy.1.length p1, .bool yy.2.leaf, .slice Q1 yy.2.its.length q1, .slice R1 yy.2.kds.length r1] := by rw [hwp]; exact Blk.new wr 41 _
        obtain ⟨a0, a1, a2, a3⟩ := hBp.four
        have HOP := Lib.hid (on_new HU.out hop)
        have HFC : Hid (Calls Tryd.prog 14 #[.int .i64 v, .agg #[.bool yy.2.leaf, .slice Q1 yy.2.its.length q1, .slice R1 yy.2.kds.length r1]] wp (Told wp (.bool true))) := Lib.hid (Fits_n wp Q1 R1 _ _ _ _ yy.2 v yy.2.leaf true HFT.out (n1.later hop) (HG.out.later (on_new HO5.out HOP.out)) HSP.out)
        clear n1 hyl hy hpb hBp hop
        go_upto_region 12 with (fail)
        rw [← hwp]
        clear hwp
        go_wp2_with (go_at_call 14; (with_reducible refine HFC.out.mono ?_); rintro ee w9 ⟨rfl, ho⟩; (replace HOP := Lib.hid (on_new HOP.out ho)); clear ho)
        go_roundw
        case rel => exact ⟨k + 1, by omega, by go_num, HOP⟩
        case measure => simp [intOf]; omega
      · obtain rfl : k = l.length := by omega
        have hkk : ¬ (l.length : Int) < (l.length : Int) := by omega
        have HO7 := Lib.hid (on_new HO5.out HU.out)
        go_wp2_with (go_at_call 7; (with_reducible refine (HAL.out _ HO7.out).mono ?_); rintro ee W9 ⟨rfl, ho⟩; (replace HO7 := Lib.hid (on_new HO7.out ho)); clear ho)
        go_ret
        exact ⟨rfl, HO7.out⟩
  · have HOK2 : Hid (okay u xs.length ys.length s r = true) := Lib.hid (by have h := HOK.out; rw [HTX.out, HEX.out] at h; exact h)
    have HWI : Hid (∀ W, Only (wa.heap.size ≤ ·) wa W → Calls Tryd.prog 19 #[.agg #[.bool true, .slice QA qn qc, .slice QB qm qd], .agg #[.slice P t p, .slice Q e q, .int .i64 s, .int .i64 r]] W (Withed (fun _ => False) W x (xs, ys, s, r))) := Lib.hid fun W hW => With_n W (fun _ => False) true QA QB P Q qn qc qm qd t p e q s r x xs ys (fun k h => h.elim) (HN2.out.later hW).snod (HSK.out.later (on_new HO.out hW)) (HSV.out.later (on_new HO.out hW)) (by have h1 := HN2.out.2.1.len; have h2 := HXL.out; omega) HLT.out.1 HLT.out.2
    have HS2 : Hid (Only (wa.heap.size ≤ ·) wa wa) := Lib.hid (Only.refl _ wa)
    go_upto_region 8 with (go_at_call 19; (with_reducible refine (HWI.out _ HS2.out).mono ?_); rintro ee w3 ⟨i, b, hfd, A3, n3, c3, B3, m3, d3, rfl, hs, ho⟩; have HFD := Lib.hid hfd; have HN3 := Lib.hid hs.nod.now; have HX3 := Lib.hid (HX.out.later ho); have HO3 := Lib.hid (on_new HO.out ho); clear hfd hs ho b0 b1 b2 j0 j1 j2 j3 g0 g1 g2; (obtain ⟨g0, g1, g2⟩ := HX3.out.tri); (obtain ⟨f0, f1, f2⟩ := HX3.out.melt3))
    have HLM := Lib.hid (leaf_more (i := i) (b := b) (y := (xs, ys, s, r)) (h := v) HGG.out HFI.out HXF.out.symm HOK2.out)
    obtain ⟨y, hy⟩ : ∃ y : Nd, y = ⟨true, x.its.take i ++ ([(xs, ys, s, r)] ++ x.its.drop (i + if b = true then 1 else 0)), []⟩ := ⟨_, rfl⟩
    rw [← hy] at HLM HN3
    have hyl : y.leaf = true := by rw [hy]
    have HYL := Lib.hid hyl
    clear hy hyl
    have HEY := Lib.hid HLM.out.1
    have HTY := Lib.hid HLM.out.2.1
    have HSY := Lib.hid HLM.out.2.2.1
    obtain ⟨W5, hW5⟩ : ∃ W5, W5 = (((w3.setCell ⟨W2.heap.size, 0, none⟩ (.bool true)).setCell ⟨W2.heap.size, 1, none⟩ (.slice A3 n3 c3)).setCell ⟨W2.heap.size, 2, none⟩ (.slice B3 m3 d3)) := ⟨_, rfl⟩
    have hB5 : Blk W5 W2.heap.size 34 [.bool true, .slice A3 n3 c3, .slice B3 m3 d3] := by rw [hW5]; exact ((HX3.out.set_ 0 _).set_ 1 _).set_ 2 _
    have hO5 : Only (· = W2.heap.size) w3 W5 := by rw [hW5]; exact (((Only.refl (· = W2.heap.size) _).setCell (p := ⟨W2.heap.size, 0, none⟩) rfl _).setCell (p := ⟨W2.heap.size, 1, none⟩) rfl _).setCell (p := ⟨W2.heap.size, 2, none⟩) rfl _
    have HN5 : Hid (Nod W5 y true (.slice A3 n3 c3) (.slice B3 m3 d3)) := Lib.hid ((nod_free HX3.out HN3.out).nod W5 (hO5.mono fun _ h => .inl h))
    have HX5 := Lib.hid hB5
    have HO5 : Hid (Only (w.heap.size ≤ ·) w W5) := Lib.hid (HO3.out.trans (hO5.mono fun j hj => by have := HZ2.out; omega))
    rw [← hW5]
    clear hW5 hB5 hO5 f0 f1 f2 g0 g1 g2
    have HCY : Hid (∀ W, Only (W5.heap.size ≤ ·) W5 W → Calls Tryd.prog 9 #[.int .i64 v, .agg #[.bool true, .slice A3 n3 c3, .slice B3 m3 d3]] W (Pieces W v y)) := Lib.hid fun W hW => Parts_n W true A3 B3 n3 c3 m3 d3 y v (HN5.out.later hW) (HG.out.later (on_new HO5.out hW)) HSY.out
    obtain ⟨g0, g1, g2⟩ := HX5.out.tri
    have HS5 : Hid (Only (W5.heap.size ≤ ·) W5 W5) := Lib.hid (Only.refl _ W5)
    go_upto_region 9 with (go_at_call 9; (with_reducible refine (HCY.out _ HS5.out).mono ?_); rintro ee W6 ⟨PA, pn, pc, l, rfl, hcu, hpt, ho⟩; have HCU := Lib.hid hcu; have HP := Lib.hid hpt; clear hcu hpt; (replace HO5 := Lib.hid (on_new HO5.out ho)); clear ho)
    clear g0 g1 g2
    obtain rfl : pn = l.length := HP.out.len
    have hpc := HP.out.cap
    have H3 : Hid (l.length ≤ 3 ∧ ∀ p ∈ l, nfit v p.2 = true) := Lib.hid (three_of HGV.out HCU.out HEY.out HTY.out)
    have hl3 : (l.length : Int) ≤ 3 := by have := H3.out.1; omega
    have HSALL : Hid (∀ p ∈ l, Small p.2) := Lib.hid (HCU.out.all (fun y k h _ _ => h.halves k) HSY.out)
    have HL0 : Hid (Only (W6.heap.size ≤ ·) W6 W6) := Lib.hid (Only.refl _ W6)
    go_wp2
    go_loopw [62] (fun i wr => ∃ (k : Nat), k ≤ l.length ∧ i = .int .i64 k ∧ Hid (Only (W6.heap.size ≤ ·) W6 wr)) (fun i _ => l.length - (intOf i).toNat)
    case atStart => exact ⟨0, Nat.zero_le _, rfl, HL0⟩
    case round =>
      obtain ⟨k, hk, rfl, HU⟩ := hrel
      by_cases hlt : k < l.length
      · have hlti : (k : Int) < (l.length : Int) := by omega
        obtain ⟨pb, po, yy, P1, Q1, R1, p1, q1, r1, rfl, hpb, hy, e0, e1, e2, e3, _, n1⟩ := pts_at (HP.out.later HU.out) hlt
        have hyl : yy ∈ l := List.mem_of_getElem? hy
        have HFT := Lib.hid (H3.out.2 yy hyl)
        have HSP := Lib.hid (HSALL.out yy hyl)
        obtain ⟨wp, hwp⟩ : ∃ wp, wp = wr.alloc (.cells #[.slice P1 yy.1.length p1, .bool yy.2.leaf, .slice Q1 yy.2.its.length q1, .slice R1 yy.2.kds.length r1] 41) := ⟨_, rfl⟩
        have hop : Only (wr.heap.size ≤ ·) wr wp := by rw [hwp]; exact (Only.refl _ wr).alloc (fun _ h => h) _
        have hBp : Blk wp wr.heap.size 41 [.slice P1 yy.1.length p1, .bool yy.2.leaf, .slice Q1 yy.2.its.length q1, .slice R1 yy.2.kds.length r1] := by rw [hwp]; exact Blk.new wr 41 _
        obtain ⟨a0, a1, a2, a3⟩ := hBp.four
        have HOP := Lib.hid (on_new HU.out hop)
        have HFC : Hid (Calls Tryd.prog 14 #[.int .i64 v, .agg #[.bool yy.2.leaf, .slice Q1 yy.2.its.length q1, .slice R1 yy.2.kds.length r1]] wp (Told wp (.bool true))) := Lib.hid (Fits_n wp Q1 R1 _ _ _ _ yy.2 v yy.2.leaf true HFT.out (n1.later hop) (HG.out.later (on_new HO5.out HOP.out)) HSP.out)
        clear n1 hyl hy hpb hBp hop
        go_upto_region 12 with (fail)
        rw [← hwp]
        clear hwp
        go_wp2_with (go_at_call 14; (with_reducible refine HFC.out.mono ?_); rintro ee w9 ⟨rfl, ho⟩; (replace HOP := Lib.hid (on_new HOP.out ho)); clear ho)
        go_roundw
        case rel => exact ⟨k + 1, by omega, by go_num, HOP⟩
        case measure => simp [intOf]; omega
      · obtain rfl : k = l.length := by omega
        have hkk : ¬ (l.length : Int) < (l.length : Int) := by omega
        have HO7 := Lib.hid (on_new HO5.out HU.out)
        go_wp2_with (go_at_call 7; (with_reducible refine (HAL.out _ HO7.out).mono ?_); rintro ee W9 ⟨rfl, ho⟩; (replace HO7 := Lib.hid (on_new HO7.out ho)); clear ho)
        go_ret
        exact ⟨rfl, HO7.out⟩
end Go.Proofs.YtjbbljnfgpggkaaDoor
