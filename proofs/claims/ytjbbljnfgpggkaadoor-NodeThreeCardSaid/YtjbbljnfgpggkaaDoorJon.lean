/-
  Join.
-/
import Derived.Test.YtjbbljnfgpggkaaDoorCpy
import Derived.Test.YtjbbljnfgpggkaaDoorCut
import Derived.Test.YtjbbljnfgpggkaaDoorSwq
set_option linter.unusedVariables false
namespace Go.Proofs.YtjbbljnfgpggkaaDoor
open Go.RowKit

set_option maxRecDepth 100000 in
set_option maxHeartbeats 12800000 in
theorem Join_leaf (w : World) (f2 : Bool) (A B A2 B2 : Option Addr) (n c m d n2 c2 m2 d2 : Nat) (u : Value) (xa xb : Nd) (ks : Bytes) (h : Nod w xa true (.slice A n c) (.slice B m d)) (h2 : Nod w xb f2 (.slice A2 n2 c2) (.slice B2 m2 d2)) (hn : n ≤ 100000) (hn2 : n2 ≤ 100000) :
    Calls Tryd.prog 15 #[.agg #[.bool true, .slice A n c, .slice B m d], .agg #[.bool f2, .slice A2 n2 c2, .slice B2 m2 d2], u] w (GaveN w (joinN xa xb ks)) := by
  obtain ⟨W0, hW0⟩ : ∃ W0, W0 = (((w.alloc (.cells #[.bool true, .slice A n c, .slice B m d] 34)).alloc (.cells #[.bool f2, .slice A2 n2 c2, .slice B2 m2 d2] 34)).alloc (.cells #[.bool false, .slice none 0 0, .slice none 0 0] 34)) := ⟨_, rfl⟩
  have HO : Hid (Only (w.heap.size ≤ ·) w W0) := Lib.hid (by rw [hW0]; exact (((Only.refl _ w).alloc (fun _ h => h) _).alloc (fun _ h => h) _).alloc (fun _ h => h) _)
  have hZ : W0.heap.size = w.heap.size + 3 := by rw [hW0]; simp
  have HZ := Lib.hid hZ
  have HR : Hid (Blk W0 (w.heap.size + 1 + 1) 34 [.bool false, .slice none 0 0, .slice none 0 0]) := Lib.hid (by
    rw [hW0]
    have := Blk.new ((w.alloc (.cells #[.bool true, .slice A n c, .slice B m d] 34)).alloc (.cells #[.bool f2, .slice A2 n2 c2, .slice B2 m2 d2] 34)) 34 [.bool false, .slice none 0 0, .slice none 0 0]
    simpa using this)
  have HA : Hid (Blk W0 w.heap.size 34 [.bool true, .slice A n c, .slice B m d]) := Lib.hid (by rw [hW0]; exact ((Blk.new w 34 _).alloc _).alloc _)
  have HB : Hid (Blk W0 (w.heap.size + 1) 34 [.bool f2, .slice A2 n2 c2, .slice B2 m2 d2]) := Lib.hid (by
    rw [hW0]
    have := (Blk.new (w.alloc (.cells #[.bool true, .slice A n c, .slice B m d] 34)) 34 [.bool f2, .slice A2 n2 c2, .slice B2 m2 d2]).alloc (.cells #[.bool false, .slice none 0 0, .slice none 0 0] 34)
    simpa using this)
  have hst : ∀ W, Only (w.heap.size ≤ ·) w W → SNod (· = w.heap.size + 1 + 1) W xa true (.slice A n c) (.slice B m d) ∧ SNod (· = w.heap.size + 1 + 1) W xb f2 (.slice A2 n2 c2) (.slice B2 m2 d2) := fun W hW => ⟨h.snod.step (hW.mono fun _ h => .inr h) fun k hk => .inr (by omega), h2.snod.step (hW.mono fun _ h => .inr h) fun k hk => .inr (by omega)⟩
  have HC : Hid (Calls Tryd.prog 39 #[.slice (some ⟨W0.heap.size, 0, none⟩) 2 2] (W0.alloc (.cells #[.slice A n c, .slice A2 n2 c2] 31)) (OwnS itE (· = w.heap.size + 1 + 1) W0 (xa.its ++ xb.its))) := ConcatI_2 W0 _ A A2 n c n2 c2 xa.its xb.its (fun k hk => by omega) (hst _ HO.out).1.2.1 (hst _ HO.out).2.2.1 hn hn2
  have HJ : Hid (joinN xa xb ks = ⟨true, xa.its ++ xb.its, []⟩) := Lib.hid (by unfold joinN; rw [if_pos h.1.symm])
  clear h h2 hst
  rw [HJ.out]
  rw [hZ, hW0] at HC
  have HW0 := Lib.hid hW0
  clear hW0 hZ
  go_enter Tryd.func15, Tryd.ntmps15
  go_wp2_with (go_at_call 39; (refine HC.out.mono ?_); rintro e w1 ⟨P, p1, p, rfl, hw1, ho1⟩; (rw [← HW0.out] at ho1); have HW := Lib.hid hw1; have HR1 := Lib.hid (HR.out.later ho1); (replace HO := Lib.hid (on_new HO.out ho1)); (obtain ⟨r0, r1, r2⟩ := HR1.out.tri); (obtain ⟨fr0, fr1, fr2⟩ := HR1.out.melt3); clear ho1 hw1)
  obtain ⟨Wf, hWf⟩ : ∃ Wf, Wf = (((w1.setCell ⟨w.heap.size + 1 + 1, 0, none⟩ (.bool true)).setCell ⟨w.heap.size + 1 + 1, 1, none⟩ (.slice P p1 p)).setCell ⟨w.heap.size + 1 + 1, 2, none⟩ (.slice none 0 0)) := ⟨_, rfl⟩
  have hBf : Blk Wf (w.heap.size + 1 + 1) 34 [.bool true, .slice P p1 p, .slice none 0 0] := by rw [hWf]; exact ((HR1.out.set_ 0 _).set_ 1 _).set_ 2 _
  have hOs : Only (· = w.heap.size + 1 + 1) w1 Wf := by rw [hWf]; exact (((Only.refl (· = w.heap.size + 1 + 1) _).setCell (p := ⟨w.heap.size + 1 + 1, 0, none⟩) rfl _).setCell (p := ⟨w.heap.size + 1 + 1, 1, none⟩) rfl _).setCell (p := ⟨w.heap.size + 1 + 1, 2, none⟩) rfl _
  rw [← hWf]
  clear hWf
  obtain ⟨y0, y1, y2⟩ := hBf.tri
  have hOf : Only (w.heap.size ≤ ·) w Wf := HO.out.trans (hOs.mono fun j hj => by omega)
  clear r0 r1 r2
  refine bodyPost_ret (v := .agg #[.bool true, .slice P p1 p, .slice none 0 0]) (by simp [results, Tryd.results15, go_sem, y0, y1, y2]) rfl ?_
  exact ⟨P, p1, p, none, 0, 0, rfl, ⟨rfl, HW.out.rw_ Wf (hOs.mono fun _ h => .inl h), Rw.nil_ Wf⟩, hOf⟩

set_option maxRecDepth 100000 in
set_option maxHeartbeats 12800000 in
theorem Join_kids (w : World) (f2 : Bool) (A B A2 B2 : Option Addr) (n c m d n2 c2 m2 d2 : Nat) (u : Value) (xa xb : Nd) (ks : Bytes) (h : Nod w xa false (.slice A n c) (.slice B m d)) (h2 : Nod w xb f2 (.slice A2 n2 c2) (.slice B2 m2 d2)) (hm : m ≤ 100000) (hm2 : m2 ≤ 100000) (hu : Src w u ks) (hk : ks.length ≤ 100000) :
    Calls Tryd.prog 15 #[.agg #[.bool false, .slice A n c, .slice B m d], .agg #[.bool f2, .slice A2 n2 c2, .slice B2 m2 d2], u] w (GaveN w (joinN xa xb ks)) := by
  obtain ⟨W0, hW0⟩ : ∃ W0, W0 = (((w.alloc (.cells #[.bool false, .slice A n c, .slice B m d] 34)).alloc (.cells #[.bool f2, .slice A2 n2 c2, .slice B2 m2 d2] 34)).alloc (.cells #[.bool false, .slice none 0 0, .slice none 0 0] 34)) := ⟨_, rfl⟩
  have HO : Hid (Only (w.heap.size ≤ ·) w W0) := Lib.hid (by rw [hW0]; exact (((Only.refl _ w).alloc (fun _ h => h) _).alloc (fun _ h => h) _).alloc (fun _ h => h) _)
  have hZ : W0.heap.size = w.heap.size + 3 := by rw [hW0]; simp
  have HZ := Lib.hid hZ
  have HR : Hid (Blk W0 (w.heap.size + 1 + 1) 34 [.bool false, .slice none 0 0, .slice none 0 0]) := Lib.hid (by
    rw [hW0]
    have := Blk.new ((w.alloc (.cells #[.bool false, .slice A n c, .slice B m d] 34)).alloc (.cells #[.bool f2, .slice A2 n2 c2, .slice B2 m2 d2] 34)) 34 [.bool false, .slice none 0 0, .slice none 0 0]
    simpa using this)
  have HA : Hid (Blk W0 w.heap.size 34 [.bool false, .slice A n c, .slice B m d]) := Lib.hid (by rw [hW0]; exact ((Blk.new w 34 _).alloc _).alloc _)
  have HB : Hid (Blk W0 (w.heap.size + 1) 34 [.bool f2, .slice A2 n2 c2, .slice B2 m2 d2]) := Lib.hid (by
    rw [hW0]
    have := (Blk.new (w.alloc (.cells #[.bool false, .slice A n c, .slice B m d] 34)) 34 [.bool f2, .slice A2 n2 c2, .slice B2 m2 d2]).alloc (.cells #[.bool false, .slice none 0 0, .slice none 0 0] 34)
    simpa using this)
  have hst : ∀ W, Only (w.heap.size ≤ ·) w W → SNod (· = w.heap.size + 1 + 1) W xa false (.slice A n c) (.slice B m d) ∧ SNod (· = w.heap.size + 1 + 1) W xb f2 (.slice A2 n2 c2) (.slice B2 m2 d2) := fun W hW => ⟨h.snod.step (hW.mono fun _ h => .inr h) fun k hk => .inr (by omega), h2.snod.step (hW.mono fun _ h => .inr h) fun k hk => .inr (by omega)⟩
  have HH : Hid (∀ W, Only (w.heap.size ≤ ·) w W → w.heap.size + 3 ≤ W.heap.size → Calls Tryd.prog 41 #[.slice B2 m2 d2, u] W (KidsFor (· = w.heap.size + 1 + 1) W (headK ks xb.kds))) := fun W hW hz => headed_c W _ B2 m2 d2 u xb.kds ks (fun k hk => by omega) (hst W hW).2.2.2 (hu.later hW) hm2 hk
  have HC : Hid (∀ W Q t d3, Only (w.heap.size ≤ ·) w W → w.heap.size + 3 ≤ W.heap.size → SRw kdE (· = w.heap.size + 1 + 1) W (.slice Q t d3) (headK ks xb.kds) → Calls Tryd.prog 40 #[.slice (some ⟨W.heap.size, 0, none⟩) 2 2] (W.alloc (.cells #[.slice B m d, .slice Q t d3] 32)) (OwnS kdE (· = w.heap.size + 1 + 1) W (xa.kds ++ headK ks xb.kds))) := fun W Q t d3 hW hz hs => ConcatK_2 W _ B Q m d t d3 xa.kds _ (fun k hk => by omega) (hst W hW).1.2.2 hs hm (by
    have h3 := hs.len
    rw [headK_length] at h3
    have h4 := h2.2.2.len
    omega)
  have HJ : Hid (joinN xa xb ks = ⟨false, [], xa.kds ++ headK ks xb.kds⟩) := Lib.hid (by unfold joinN; rw [if_neg (by rw [← h.1]; decide)])
  have KP : Hid (∀ w' : World, Only (W0.heap.size ≤ ·) W0 w' → (w'.cell? ⟨w.heap.size, 2, none⟩ = some (.slice B m d) ∧ w'.cell? ⟨w.heap.size + 1, 2, none⟩ = some (.slice B2 m2 d2))) := fun W hW => ⟨((HA.out.later hW).tri).2.2, ((HB.out.later hW).tri).2.2⟩
  clear h h2 hst hu
  rw [HJ.out]
  have HW0 := Lib.hid hW0
  clear hW0 hZ
  go_enter Tryd.func15, Tryd.ntmps15
  go_wp2_with (fail)
  rw [← HW0.out]
  clear HW0
  have HOZ : Hid (Only (W0.heap.size ≤ ·) W0 W0.drew) := (Only.refl _ _).drew
  refine wp_region_held_drew (S := (fun w' => (w'.cell? ⟨w.heap.size, 2, none⟩ = some (.slice B m d) ∧ w'.cell? ⟨w.heap.size + 1, 2, none⟩ = some (.slice B2 m2 d2)))) (by kernel_rfl) (KP.out _ HOZ.out) (fun hHeld => ?_)
  refine take_one (i := 0) (d := 16) (oi := ?_) (v := ?_) ?_ (by kernel_rfl) (by kernel_rfl) (by kernel_rfl) (fun _ _ _ h => h) ?_ ?_ ?_ (by assumption) ?_
  case refine_3 => (simp only [List.getElem?_toArray, List.getElem?_cons_zero]; rfl)
  case refine_4 => rfl
  case refine_5 => rfl
  case refine_6 => (intro w' hSw; (try dsimp only at hSw); go_simp; (try with_reducible rfl))
  simp only [Act.put, List.setIfInBounds_toArray, List.set_cons_zero, List.set_cons_succ]
  refine take_one (i := 1) (d := 17) (oi := ?_) (v := ?_) ?_ (by kernel_rfl) (by kernel_rfl) (by kernel_rfl) (fun _ _ _ h => h) ?_ ?_ ?_ (by assumption) ?_
  case refine_3 => (simp only [List.getElem?_toArray, List.getElem?_cons_succ, List.getElem?_cons_zero]; rfl)
  case refine_4 => rfl
  case refine_5 => rfl
  case refine_6 => (intro w' hSw; (try dsimp only at hSw); go_simp; (try with_reducible rfl))
  simp only [Act.put, List.setIfInBounds_toArray, List.set_cons_zero, List.set_cons_succ]
  refine take_one (i := 2) (d := 18) (oi := ?_) (v := ?_) ?_ (by kernel_rfl) (by kernel_rfl) (by kernel_rfl) (fun _ _ _ h => h) ?_ ?_ ?_ (by assumption) ?_
  case refine_3 => (simp only [List.getElem?_toArray, List.getElem?_cons_succ, List.getElem?_cons_zero]; rfl)
  case refine_4 => rfl
  case refine_5 => rfl
  case refine_6 => (intro w' hSw; (try dsimp only at hSw); go_simp; (try with_reducible rfl))
  simp only [Act.put, List.setIfInBounds_toArray, List.set_cons_zero, List.set_cons_succ]
  refine take_one (i := 3) (d := 19) (oi := ?_) (v := ?_) ?_ (by kernel_rfl) (by kernel_rfl) (by kernel_rfl) (fun _ _ _ h => h) ?_ ?_ ?_ (by assumption) ?_
  case refine_3 => (simp only [List.getElem?_toArray, List.getElem?_cons_succ, List.getElem?_cons_zero]; rfl)
  case refine_4 => rfl
  case refine_5 => rfl
  case refine_6 => (intro w' hSw; (try dsimp only at hSw); go_simp; (try with_reducible rfl))
  simp only [Act.put, List.setIfInBounds_toArray, List.set_cons_zero, List.set_cons_succ]
  refine take_one (i := 4) (d := 20) (oi := ?_) (v := ?_) ?_ (by kernel_rfl) (by kernel_rfl) (by kernel_rfl) (fun _ _ _ h => h) ?_ ?_ ?_ (by assumption) ?_
  case refine_3 => (simp only [List.getElem?_toArray, List.getElem?_cons_succ, List.getElem?_cons_zero]; rfl)
  case refine_4 => rfl
  case refine_5 => rfl
  case refine_6 => (intro w' hSw; (try dsimp only at hSw); go_simp; (try with_reducible rfl))
  simp only [Act.put, List.setIfInBounds_toArray, List.set_cons_zero, List.set_cons_succ]
  refine wpAnyH_ready (rs := [5]) (by kernel_rfl) (by simp) ?_
  refine AllReadyH.cons (o := ?_) ?_ (fun K hK => ?_) AllReadyH.nil
  case refine_2 => (simp only [List.getElem?_toArray, List.getElem?_cons_succ, List.getElem?_cons_zero]; rfl)
  go_simp
  (go_at_call 41; (with_reducible refine (HH.out _ (on_new HO.out HOZ.out) (by rw [← HZ.out]; exact HOZ.out.size)).mono ?_); rintro e v1 ⟨Q, t, d3, rfl, hq, ho⟩; have HQ := Lib.hid hq; (replace HOZ := Lib.hid (on_new HOZ.out ho)); clear ho hq)
  go_wp2_with (fail)
  refine hK.out _ _ (KP.out _ HOZ.out) (fun hHeld => ?_)
  clear hK K
  try simp only [Act.put, List.setIfInBounds_toArray, List.set_cons_zero, List.set_cons_succ]
  refine wpAnyH_ready (rs := [6]) (by kernel_rfl) (by simp) ?_
  refine AllReadyH.cons (o := ?_) ?_ (fun K hK => ?_) AllReadyH.nil
  case refine_2 => (simp only [List.getElem?_toArray, List.getElem?_cons_succ, List.getElem?_cons_zero]; rfl)
  go_simp
  refine hK.out _ _ (KP.out _ (HOZ.out.alloc (fun _ h => h) _)) (fun hHeld => ?_)
  clear hK K
  try simp only [Act.put, List.setIfInBounds_toArray, List.set_cons_zero, List.set_cons_succ]
  have HOV := Lib.hid HOZ.out
  have HC2 := Lib.hid (HC.out _ Q t d3 (on_new HO.out HOZ.out) (by rw [← HZ.out]; exact HOZ.out.size) HQ.out)
  replace HOZ : Hid (Only (W0.heap.size ≤ ·) W0 (v1.alloc (.cells #[.slice B m d, .slice Q t d3] 32))) := HOZ.out.alloc (fun _ h => h) _
  refine wpAnyH_ready (rs := [7]) (by kernel_rfl) (by simp) ?_
  refine AllReadyH.cons (o := ?_) ?_ (fun K hK => ?_) AllReadyH.nil
  case refine_2 => (simp only [List.getElem?_toArray, List.getElem?_cons_succ, List.getElem?_cons_zero]; rfl)
  go_simp
  (go_at_call 40; (with_reducible refine (HC2.out).mono ?_); rintro e w1 ⟨P, p1, p, rfl, hw1, ho1⟩; have HW := Lib.hid hw1; (replace HOZ := Lib.hid (on_new HOV.out ho1)); have HR1 := Lib.hid (HR.out.later HOZ.out); have HA1 := Lib.hid (HA.out.later HOZ.out); have HB1 := Lib.hid (HB.out.later HOZ.out); (replace HO := Lib.hid (on_new HO.out HOZ.out)); (obtain ⟨r0, r1, r2⟩ := HR1.out.tri); (obtain ⟨fr0, fr1, fr2⟩ := HR1.out.melt3); clear ho1 hw1)
  go_wp2_with (fail)
  refine hK.out _ _ (KP.out _ HOZ.out) (fun hHeld => ?_)
  clear hK K
  try simp only [Act.put, List.setIfInBounds_toArray, List.set_cons_zero, List.set_cons_succ]
  refine take_one (i := 8) (d := 24) (oi := ?_) (v := ?_) ?_ (by kernel_rfl) (by kernel_rfl) (by kernel_rfl) (fun _ _ _ h => h) ?_ ?_ ?_ (by assumption) ?_
  case refine_3 => (simp only [List.getElem?_toArray, List.getElem?_cons_succ, List.getElem?_cons_zero]; rfl)
  case refine_4 => rfl
  case refine_5 => rfl
  case refine_6 => (intro w' hSw; (try dsimp only at hSw); go_simp; (try with_reducible rfl))
  simp only [Act.put, List.setIfInBounds_toArray, List.set_cons_zero, List.set_cons_succ]
  refine wpAnyH_ready (rs := [9]) (by kernel_rfl) (by simp) ?_
  refine AllReadyH.cons (o := ?_) ?_ (fun K hK => ?_) AllReadyH.nil
  case refine_2 => (simp only [List.getElem?_toArray, List.getElem?_cons_succ, List.getElem?_cons_zero]; rfl)
  have ne0 : w.heap.size ≠ w.heap.size + 1 + 1 := by omega
  have ne1 : w.heap.size + 1 ≠ w.heap.size + 1 + 1 := by omega
  go_simp
  refine hK.out _ _ ⟨((((HA1.out.far (p := ⟨w.heap.size + 1 + 1, 0, none⟩) ne0 _).far (p := ⟨w.heap.size + 1 + 1, 1, none⟩) ne0 _).far (p := ⟨w.heap.size + 1 + 1, 2, none⟩) ne0 _).tri).2.2, ((((HB1.out.far (p := ⟨w.heap.size + 1 + 1, 0, none⟩) ne1 _).far (p := ⟨w.heap.size + 1 + 1, 1, none⟩) ne1 _).far (p := ⟨w.heap.size + 1 + 1, 2, none⟩) ne1 _).tri).2.2⟩ (fun hHeld => ?_)
  clear hK K
  try simp only [Act.put, List.setIfInBounds_toArray, List.set_cons_zero, List.set_cons_succ]
  refine wpAnyH_done (by kernel_rfl) ?_ _
  obtain ⟨Wf, hWf⟩ : ∃ Wf, Wf = (((w1.setCell ⟨w.heap.size + 1 + 1, 0, none⟩ (.bool false)).setCell ⟨w.heap.size + 1 + 1, 1, none⟩ (.slice none 0 0)).setCell ⟨w.heap.size + 1 + 1, 2, none⟩ (.slice P p1 p)) := ⟨_, rfl⟩
  have hBf : Blk Wf (w.heap.size + 1 + 1) 34 [.bool false, .slice none 0 0, .slice P p1 p] := by rw [hWf]; exact ((HR1.out.set_ 0 _).set_ 1 _).set_ 2 _
  have hOs : Only (· = w.heap.size + 1 + 1) w1 Wf := by rw [hWf]; exact (((Only.refl (· = w.heap.size + 1 + 1) _).setCell (p := ⟨w.heap.size + 1 + 1, 0, none⟩) rfl _).setCell (p := ⟨w.heap.size + 1 + 1, 1, none⟩) rfl _).setCell (p := ⟨w.heap.size + 1 + 1, 2, none⟩) rfl _
  rw [← hWf]
  clear hWf
  obtain ⟨y0, y1, y2⟩ := hBf.tri
  have hOf : Only (w.heap.size ≤ ·) w Wf := HO.out.trans (hOs.mono fun j hj => by omega)
  clear r0 r1 r2
  go_wp2
  refine bodyPost_ret (v := .agg #[.bool false, .slice none 0 0, .slice P p1 p]) (by simp [results, Tryd.results15, go_sem, y0, y1, y2]) rfl ?_
  exact ⟨none, 0, 0, P, p1, p, rfl, ⟨rfl, Rw.nil_ Wf, HW.out.rw_ Wf (hOs.mono fun _ h => .inl h)⟩, hOf⟩

theorem Join_n (w : World) (f f2 : Bool) (A B A2 B2 : Option Addr) (n c m d n2 c2 m2 d2 : Nat) (u : Value) (xa xb : Nd) (ks : Bytes) (h : Nod w xa f (.slice A n c) (.slice B m d)) (h2 : Nod w xb f2 (.slice A2 n2 c2) (.slice B2 m2 d2)) (hn : n ≤ 100000) (hn2 : n2 ≤ 100000) (hm : m ≤ 100000) (hm2 : m2 ≤ 100000) (hu : Src w u ks) (hk : ks.length ≤ 100000) :
    Calls Tryd.prog 15 #[.agg #[.bool f, .slice A n c, .slice B m d], .agg #[.bool f2, .slice A2 n2 c2, .slice B2 m2 d2], u] w (GaveN w (joinN xa xb ks)) := by
  cases f
  · exact Join_kids w f2 A B A2 B2 n c m d n2 c2 m2 d2 u xa xb ks h h2 hm hm2 hu hk
  · exact Join_leaf w f2 A B A2 B2 n c m d n2 c2 m2 d2 u xa xb ks h h2 hn hn2
end Go.Proofs.YtjbbljnfgpggkaaDoor
