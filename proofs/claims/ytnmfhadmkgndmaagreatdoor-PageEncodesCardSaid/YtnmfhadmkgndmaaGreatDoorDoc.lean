/-
  Many, room, Room, Fits of the document.
-/
import Derived.Test.YtnmfhadmkgndmaaGreatDoorGb
import Derived.Test.YtnmfhadmkgndmaaGreatDoorRefs
set_option linter.unusedVariables false
namespace Go.Proofs.YtnmfhadmkgndmaaGreatDoor
open Go.RowKit

section
variable (w : World) (f : Bool) (A B : Option Addr) (n c m d : Nat) (x : Nd) (g : Int)
set_option maxHeartbeats 1600000 in
theorem DMany_c (hN : Nod w x f (.slice A n c) (.slice B m d)) : Calls Tryz.prog 100 #[.agg #[.bool f, .slice A n c, .slice B m d]] w (Told w (.int .i64 (many x : Nat))) := by
  have HO : Hid (Only (w.heap.size ≤ ·) w (w.alloc (.cells #[.bool f, .slice A n c, .slice B m d] 25))) := (Only.refl _ w).alloc (fun _ h => h) _
  have HI : Hid (Blk (w.alloc (.cells #[.bool f, .slice A n c, .slice B m d] 25)) w.heap.size 25 [.bool f, .slice A n c, .slice B m d]) := Blk.new w 25 _
  have hf := hN.1
  have HM : Hid (many x = if f = true then n else m) := Lib.hid (by unfold many; rw [hf, hN.2.1.len, hN.2.2.len])
  clear hN hf
  rw [HM.out]
  clear HM
  cases f
  · go_enter Tryz.func100, Tryz.ntmps100
    go_wp2
    go_ret
    exact ⟨rfl, HO.out⟩
  · go_enter Tryz.func100, Tryz.ntmps100
    go_wp2
    go_ret
    exact ⟨rfl, HO.out⟩

set_option maxRecDepth 100000 in
set_option maxHeartbeats 3200000 in
theorem Droom_c (k : Nat) (a : Int) (hN : Nod w x f (.slice A n c) (.slice B m d)) (hs : Small x) (ha : (rms g x)[k]? = some a) :
    Calls Tryz.prog 114 #[.int .i64 g, .agg #[.bool f, .slice A n c, .slice B m d], .int .i64 k] w (Told w (.int .i64 a)) := by
  have HO : Hid (Only (w.heap.size ≤ ·) w (w.alloc (.cells #[.bool f, .slice A n c, .slice B m d] 25))) := (Only.refl _ w).alloc (fun _ h => h) _
  have HI : Hid (Blk (w.alloc (.cells #[.bool f, .slice A n c, .slice B m d] 25)) w.heap.size 25 [.bool f, .slice A n c, .slice B m d]) := Blk.new w 25 _
  have hf := hN.1
  have hc1 := hN.2.1.cap
  have hc2 := hN.2.2.cap
  by_cases g1 : g < 1
  · obtain rfl : a = 0 := by
      have hg : gen g = false := by unfold gen; rw [decide_eq_false_iff_not]; omega
      cases f
      · rw [rms_kids g hf.symm, List.getElem?_map] at ha
        cases h : x.kds[k]? <;> rw [h] at ha <;> simp [krm, kid, hg] at ha
        exact ha.symm
      · rw [rms_leaf g hf.symm, List.getElem?_map] at ha
        cases h : x.its[k]? <;> rw [h] at ha <;> simp [irm, room, hg] at ha
        exact ha.symm
    clear hN hs ha hf
    go_enter Tryz.func114, Tryz.ntmps114
    go_wp2
    go_ret
    exact ⟨rfl, HO.out⟩
  by_cases g3 : 3 < g
  · obtain rfl : a = 0 := by
      have hg : gen g = false := by unfold gen; rw [decide_eq_false_iff_not]; omega
      cases f
      · rw [rms_kids g hf.symm, List.getElem?_map] at ha
        cases h : x.kds[k]? <;> rw [h] at ha <;> simp [krm, kid, hg] at ha
        exact ha.symm
      · rw [rms_leaf g hf.symm, List.getElem?_map] at ha
        cases h : x.its[k]? <;> rw [h] at ha <;> simp [irm, room, hg] at ha
        exact ha.symm
    clear hN hs ha hf
    go_enter Tryz.func114, Tryz.ntmps114
    go_wp2
    go_ret
    exact ⟨rfl, HO.out⟩
  have hg : gen g = true := by unfold gen; rw [decide_eq_true_eq]; omega
  cases f
  · rw [rms_kids g hf.symm, List.getElem?_map] at ha
    obtain ⟨i, hi, rfl⟩ := Option.map_eq_some_iff.1 ha
    have hkn : k < m := by rw [hN.2.2.len]; exact (List.getElem?_eq_some_iff.1 hi).1
    obtain ⟨b, off, y, P, p, rfl, hb, hy, q0, q1, _⟩ := kds_at (hN.2.2.later HO.out) hkn
    obtain rfl : y = i := Option.some.inj (hy.symm.trans hi)
    have hsm := hs.2.2.2 y (List.mem_of_getElem? hi)
    obtain ⟨xs, r⟩ := y
    simp only at q0 q1 hsm
    obtain ⟨v, hv⟩ : ∃ v, v = tr g 4 8 8 := ⟨_, rfl⟩
    have hv8 := trs g
    rw [← hv] at hv8
    have HW : Hid (∀ W, Calls Tryz.prog 29 #[.int .i64 g] W fun e w' => e = .returned (.int .i64 v) ∧ w' = W) := fun W => by rw [hv]; exact (rIdWidth_c W g).mono fun _ _ h => ⟨h.1, h.2.symm⟩
    have HK : Hid (krm g (xs, r) = 1 + xs.length + v) := Lib.hid (by unfold krm kid; rw [hg, hv]; rfl)
    rw [HK.out]
    obtain ⟨t, ht⟩ : ∃ t, t = xs.length := ⟨_, rfl⟩
    rw [← ht] at hsm q0 ⊢
    have j1 : (0 : Int) ≤ (k : Int) := by omega
    have j2 : (k : Int) < (m : Int) := by omega
    have HI3 := HI.out.tri
    obtain ⟨i0, i1, i2⟩ := HI3
    have z1 : decide (g < 1) = false := decide_eq_false g1
    have z2 : decide (3 < g) = false := decide_eq_false g3
    clear hN hs ha hf hi hy HK ht hv hg
    go_enter Tryz.func114, Tryz.ntmps114
    go_wp2_with (fail)
    have hw1 : IntKind.i64.wrap (1 + (t : Int)) = 1 + (t : Int) := IntWalk.i64_in _ (by omega)
    have hw2 : IntKind.i64.wrap (1 + (t : Int) + v) = 1 + (t : Int) + v := IntWalk.i64_in _ (by omega)
    go_quiet ((go_at_call 29; exact Calls.quiet_of_same (HW.out _)))
    clear hw1 hw2
    go_wp2
    go_ret
    exact ⟨rfl, HO.out.drewN _⟩
  · rw [rms_leaf g hf.symm, List.getElem?_map] at ha
    obtain ⟨i, hi, rfl⟩ := Option.map_eq_some_iff.1 ha
    have hkn : k < n := by rw [hN.2.1.len]; exact (List.getElem?_eq_some_iff.1 hi).1
    obtain ⟨b, off, y, P, Q, p, q, rfl, hb, hy, q0, q1, q2, q3, _, _⟩ := its_at (hN.2.1.later HO.out) hkn
    obtain rfl : y = i := Option.some.inj (hy.symm.trans hi)
    have hsm := hs.2.2.1 y (List.mem_of_getElem? hi)
    obtain ⟨xs, ys, s, r⟩ := y
    have HR : Hid (∀ W, Calls Tryz.prog 121 #[.int .i64 g, .agg #[.slice P xs.length p, .slice Q ys.length q, .int .i64 s, .int .i64 r]] W (Told W (.int .i64 (irm g (xs, ys, s, r))))) := fun W => rRoom_c W P Q _ p _ q s r g (Nat.le_trans hsm.1 (by omega)) (Nat.le_trans hsm.2 (by omega))
    simp only at q0 q1 q2 q3
    generalize irm g (xs, ys, s, r) = z at HR ⊢
    clear hN hs ha hf hi hy hsm hg
    go_enter Tryz.func114, Tryz.ntmps114
    go_wp2_with (go_at_call 121; (with_reducible refine (HR.out _).mono ?_); rintro e w1 ⟨rfl, ho⟩; (replace HO := Lib.hid (on_new HO.out ho)); clear ho)
    go_ret
    exact ⟨rfl, HO.out⟩

set_option maxRecDepth 100000 in
set_option maxHeartbeats 3200000 in
theorem DRoom_c (K : Nat) (hN : Nod w x f (.slice A n c) (.slice B m d)) (hs : Small x) (hK : K ≤ many x) :
    Calls Tryz.prog 99 #[.int .i64 g, .agg #[.bool f, .slice A n c, .slice B m d], .int .i64 K] w (Told w (.int .i64 (pre (rms g x) K))) := by
  have HO : Hid (Only (w.heap.size ≤ ·) w (w.alloc (.cells #[.bool f, .slice A n c, .slice B m d] 25))) := (Only.refl _ w).alloc (fun _ h => h) _
  have HI : Hid (Blk (w.alloc (.cells #[.bool f, .slice A n c, .slice B m d] 25)) w.heap.size 25 [.bool f, .slice A n c, .slice B m d]) := Blk.new w 25 _
  have hK2 := hs.many
  obtain ⟨l, hl⟩ : ∃ l, l = rms g x := ⟨_, rfl⟩
  have HR : Hid (∀ (k : Nat), k < K → ∃ a, l[k]? = some a ∧ 0 ≤ a ∧ a ≤ 20000 ∧ ∀ W, Only (w.heap.size ≤ ·) w W → Calls Tryz.prog 114 #[.int .i64 g, .agg #[.bool f, .slice A n c, .slice B m d], .int .i64 k] W (Told W (.int .i64 a))) := by
    intro k hk
    obtain ⟨a, ha⟩ : ∃ a, l[k]? = some a := ⟨_, List.getElem?_eq_getElem (by rw [hl, rms_length]; omega)⟩
    have hr := hs.each g a (by rw [← hl]; exact List.mem_of_getElem? ha)
    exact ⟨a, ha, hr.1, hr.2, fun W hW => Droom_c W f A B n c m d x g k a (hN.later hW) hs (by rw [← hl]; exact ha)⟩
  rw [← hl]
  clear hN hs hl
  go_enter Tryz.func99, Tryz.ntmps99
  go_wp2
  go_loopw [7, 8] (fun s i wr => ∃ (k : Nat) (t : Int), k ≤ K ∧ 0 ≤ t ∧ t ≤ k * 20000 ∧ s = .int .i64 t ∧ i = .int .i64 k ∧ Hid (t = pre l k) ∧ Only ((w.alloc (.cells #[.bool f, .slice A n c, .slice B m d] 25)).heap.size ≤ ·) (w.alloc (.cells #[.bool f, .slice A n c, .slice B m d] 25)) wr) (fun _ i _ => K - (intOf i).toNat)
  case atStart => exact ⟨0, 0, Nat.zero_le _, by omega, by omega, rfl, rfl, rfl, Only.refl _ _⟩
  case round =>
    obtain ⟨k, t, hk, ht0, ht, rfl, rfl, HT, ho⟩ := hrel
    have HOR := Lib.hid (on_new HO.out ho)
    obtain ⟨i0, i1, i2⟩ := (HI.out.later ho).tri
    have HOL := Lib.hid ho
    clear ho
    by_cases hlt : k < K
    · obtain ⟨a, hla, ha0, ha1, hcall⟩ := HR.out k hlt
      have HX := Lib.hid (pre_succ hla)
      have HC := Lib.hid hcall
      have hlti : (k : Int) < (K : Int) := by omega
      clear hla hcall
      go_wp2_with (go_at_call 114; (with_reducible refine (HC.out _ HOR.out).mono ?_); rintro e w3 ⟨rfl, ho⟩; have HO3 := Lib.hid (on_new HOL.out ho); clear ho)
      go_roundw
      case rel => exact ⟨k + 1, t + a, by omega, by omega, by omega, rfl, by go_num, Lib.hid (by rw [HX.out, ← HT.out]), HO3.out⟩
      case measure => simp [intOf]; omega
    · obtain rfl : K = k := by omega
      have hkm : ¬ (K : Int) < (K : Int) := by omega
      go_wp2
      go_ret
      exact ⟨by rw [← HT.out]; rfl, HOR.out⟩

set_option maxRecDepth 100000 in
set_option maxHeartbeats 3200000 in
theorem DFits_c (b : Bool) (hb : nfit g x = b) (hN : Nod w x f (.slice A n c) (.slice B m d)) (hs : Small x) :
    Calls Tryz.prog 67 #[.int .i64 g, .agg #[.bool f, .slice A n c, .slice B m d]] w (Told w (.bool b)) := by
  have HO : Hid (Only (w.heap.size ≤ ·) w (w.alloc (.cells #[.bool f, .slice A n c, .slice B m d] 25))) := (Only.refl _ w).alloc (fun _ h => h) _
  have HI : Hid (Blk (w.alloc (.cells #[.bool f, .slice A n c, .slice B m d] 25)) w.heap.size 25 [.bool f, .slice A n c, .slice B m d]) := Blk.new w 25 _
  obtain ⟨r, hr⟩ : ∃ r, r = nrm g x := ⟨_, rfl⟩
  obtain ⟨v, hv⟩ : ∃ v, v = tr g 248 240 240 := ⟨_, rfl⟩
  have HM : Hid (∀ W, Only (w.heap.size ≤ ·) w W → Calls Tryz.prog 100 #[.agg #[.bool f, .slice A n c, .slice B m d]] W (Told W (.int .i64 (many x : Nat)))) := fun W hW => DMany_c W f A B n c m d x (hN.later hW)
  have HR : Hid (∀ W, Only (w.heap.size ≤ ·) w W → Calls Tryz.prog 99 #[.int .i64 g, .agg #[.bool f, .slice A n c, .slice B m d], .int .i64 (many x : Nat)] W (Told W (.int .i64 r))) := fun W hW => by
    have h := DRoom_c W f A B n c m d x g (many x) (hN.later hW) hs (Nat.le_refl _)
    rw [← rms_length g x, pre_all, rms_length] at h
    rw [hr]
    exact h
  have HV : Hid (∀ W, Calls Tryz.prog 39 #[.int .i64 g] W fun e w' => e = .returned (.int .i64 v) ∧ W = w') := fun W => by rw [hv]; exact rCap_c W g
  unfold nfit at hb
  rw [← hr, ← hv] at hb
  have HB := Lib.hid hb
  have KP : Hid (∀ w' : World, Only ((w.alloc (.cells #[.bool f, .slice A n c, .slice B m d] 25)).heap.size ≤ ·) (w.alloc (.cells #[.bool f, .slice A n c, .slice B m d] 25)) w' → (w'.cell? ⟨w.heap.size, 0, none⟩ = some (.bool f) ∧ w'.cell? ⟨w.heap.size, 1, none⟩ = some (.slice A n c) ∧ w'.cell? ⟨w.heap.size, 2, none⟩ = some (.slice B m d))) := fun W hW => (HI.out.later hW).tri
  clear hb hr hv hN hs
  go_enter Tryz.func67, Tryz.ntmps67
  go_wp2_with (fail)
  have HOZ : Hid (Only ((w.alloc (.cells #[.bool f, .slice A n c, .slice B m d] 25)).heap.size ≤ ·) (w.alloc (.cells #[.bool f, .slice A n c, .slice B m d] 25)) (w.alloc (.cells #[.bool f, .slice A n c, .slice B m d] 25)).drew) := (Only.refl _ _).drew
  refine wp_region_held_drew (S := (fun w' => (w'.cell? ⟨w.heap.size, 0, none⟩ = some (.bool f) ∧ w'.cell? ⟨w.heap.size, 1, none⟩ = some (.slice A n c) ∧ w'.cell? ⟨w.heap.size, 2, none⟩ = some (.slice B m d)))) (by kernel_rfl) (KP.out _ HOZ.out) (fun hHeld => ?_)
  refine take_one (i := 0) (d := 5) (oi := ?_) (v := ?_) ?_ (by kernel_rfl) (by kernel_rfl) (by kernel_rfl) (fun _ _ _ h => h) ?_ ?_ ?_ (by assumption) ?_
  case refine_3 => (simp only [List.getElem?_toArray, List.getElem?_cons_zero]; rfl)
  case refine_4 => rfl
  case refine_5 => rfl
  case refine_6 => (intro w' hSw; (try dsimp only at hSw); go_simp; (try with_reducible rfl))
  simp only [Act.put, List.setIfInBounds_toArray, List.set_cons_zero, List.set_cons_succ]
  refine take_one (i := 1) (d := 6) (oi := ?_) (v := ?_) ?_ (by kernel_rfl) (by kernel_rfl) (by kernel_rfl) (fun _ _ _ h => h) ?_ ?_ ?_ (by assumption) ?_
  case refine_3 => (simp only [List.getElem?_toArray, List.getElem?_cons_succ, List.getElem?_cons_zero]; rfl)
  case refine_4 => rfl
  case refine_5 => rfl
  case refine_6 => (intro w' hSw; (try dsimp only at hSw); go_simp; (try with_reducible rfl))
  simp only [Act.put, List.setIfInBounds_toArray, List.set_cons_zero, List.set_cons_succ]
  refine take_one (i := 2) (d := 7) (oi := ?_) (v := ?_) ?_ (by kernel_rfl) (by kernel_rfl) (by kernel_rfl) (fun _ _ _ h => h) ?_ ?_ ?_ (by assumption) ?_
  case refine_3 => (simp only [List.getElem?_toArray, List.getElem?_cons_succ, List.getElem?_cons_zero]; rfl)
  case refine_4 => rfl
  case refine_5 => rfl
  case refine_6 => (intro w' hSw; (try dsimp only at hSw); go_simp; (try with_reducible rfl))
  simp only [Act.put, List.setIfInBounds_toArray, List.set_cons_zero, List.set_cons_succ]
  refine take_one (i := 5) (d := 10) (oi := ?_) (v := ?_) ?_ (by kernel_rfl) (by kernel_rfl) (by kernel_rfl) (fun _ _ _ h => h) ?_ ?_ ?_ (by assumption) ?_
  case refine_3 => (simp only [List.getElem?_toArray, List.getElem?_cons_succ, List.getElem?_cons_zero]; rfl)
  case refine_4 => rfl
  case refine_5 => rfl
  case refine_6 => (intro w' hSw; (try dsimp only at hSw); go_simp; (try with_reducible rfl))
  simp only [Act.put, List.setIfInBounds_toArray, List.set_cons_zero, List.set_cons_succ]
  refine wpAnyH_ready (rs := [3]) (by kernel_rfl) (by simp) ?_
  refine AllReadyH.cons (o := ?_) ?_ (fun K hK => ?_) AllReadyH.nil
  case refine_2 => (simp only [List.getElem?_toArray, List.getElem?_cons_succ, List.getElem?_cons_zero]; rfl)
  go_simp
  (go_at_call 100; (with_reducible refine (HM.out _ (HO.out.trans (HOZ.out.mono fun k h => Nat.le_trans HO.out.size h))).mono ?_); rintro e w1 ⟨rfl, ho⟩; (replace HOZ := Lib.hid (on_new HOZ.out ho)); clear ho)
  go_wp2_with (fail)
  refine hK.out _ _ (KP.out _ HOZ.out) (fun hHeld => ?_)
  clear hK K
  try simp only [Act.put, List.setIfInBounds_toArray, List.set_cons_zero, List.set_cons_succ]
  refine wpAnyH_ready (rs := [4]) (by kernel_rfl) (by simp) ?_
  refine AllReadyH.cons (o := ?_) ?_ (fun K hK => ?_) AllReadyH.nil
  case refine_2 => (simp only [List.getElem?_toArray, List.getElem?_cons_succ, List.getElem?_cons_zero]; rfl)
  go_simp
  (go_at_call 99; (with_reducible refine (HR.out _ (HO.out.trans (HOZ.out.mono fun k h => Nat.le_trans HO.out.size h))).mono ?_); rintro e w2 ⟨rfl, ho⟩; (replace HOZ := Lib.hid (on_new HOZ.out ho)); clear ho)
  go_wp2_with (fail)
  refine hK.out _ _ (KP.out _ HOZ.out) (fun hHeld => ?_)
  clear hK K
  try simp only [Act.put, List.setIfInBounds_toArray, List.set_cons_zero, List.set_cons_succ]
  refine wpAnyH_ready (rs := [6]) (by kernel_rfl) (by simp) ?_
  refine AllReadyH.cons (o := ?_) ?_ (fun K hK => ?_) AllReadyH.nil
  case refine_2 => (simp only [List.getElem?_toArray, List.getElem?_cons_succ, List.getElem?_cons_zero]; rfl)
  go_simp
  (go_at_call 39; (with_reducible refine (HV.out _).mono ?_); rintro e w3 ⟨rfl, rfl⟩)
  go_wp2_with (fail)
  refine hK.out _ _ (KP.out _ HOZ.out) (fun hHeld => ?_)
  clear hK K
  try simp only [Act.put, List.setIfInBounds_toArray, List.set_cons_zero, List.set_cons_succ]
  refine take_one (i := 7) (d := 12) (oi := ?_) (v := ?_) ?_ (by kernel_rfl) (by kernel_rfl) (by kernel_rfl) (fun _ _ _ h => h) ?_ ?_ ?_ (by assumption) ?_
  case refine_3 => (simp only [List.getElem?_toArray, List.getElem?_cons_succ, List.getElem?_cons_zero]; rfl)
  case refine_4 => rfl
  case refine_5 => rfl
  case refine_6 => (intro w' hSw; (try dsimp only at hSw); go_simp; (try with_reducible rfl))
  simp only [Act.put, List.setIfInBounds_toArray, List.set_cons_zero, List.set_cons_succ]
  refine take_one (i := 8) (d := 4) (oi := ?_) (v := ?_) ?_ (by kernel_rfl) (by kernel_rfl) (by kernel_rfl) (fun _ _ _ h => h) ?_ ?_ ?_ (by assumption) ?_
  case refine_3 => (simp only [List.getElem?_toArray, List.getElem?_cons_succ, List.getElem?_cons_zero]; rfl)
  case refine_4 => rfl
  case refine_5 => rfl
  case refine_6 => (intro w' hSw; (try dsimp only at hSw); go_simp; (try with_reducible rfl))
  simp only [Act.put, List.setIfInBounds_toArray, List.set_cons_zero, List.set_cons_succ]
  refine wpAnyH_done (by kernel_rfl) ?_ _
  go_wp2
  go_ret
  exact ⟨by rw [← HB.out]; rfl, HO.out.trans (HOZ.out.mono fun k h => Nat.le_trans HO.out.size h)⟩
end
end Go.Proofs.YtnmfhadmkgndmaaGreatDoor
