/-
  steps.
-/
import Derived.Test.YtdpdlhfjemehcaaTrp
import Derived.Test.YtdpdlhfjemehcaaSam
set_option linter.unusedVariables false
namespace Go.Proofs.Ytdpdlhfjemehcaa
open Go.RowKit

theorem ten_later {w W : World} {a0 a1 a2 a3 a4 a5 a6 a7 a8 a9 : Addr} {x0 x1 x2 x3 x4 x5 x6 x7 x8 x9 : Value} (h : w.cell? a0 = some x0 ∧ w.cell? a1 = some x1 ∧ w.cell? a2 = some x2 ∧ w.cell? a3 = some x3 ∧ w.cell? a4 = some x4 ∧ w.cell? a5 = some x5 ∧ w.cell? a6 = some x6 ∧ w.cell? a7 = some x7 ∧ w.cell? a8 = some x8 ∧ w.cell? a9 = some x9) (ho : Only (w.heap.size ≤ ·) w W) : W.cell? a0 = some x0 ∧ W.cell? a1 = some x1 ∧ W.cell? a2 = some x2 ∧ W.cell? a3 = some x3 ∧ W.cell? a4 = some x4 ∧ W.cell? a5 = some x5 ∧ W.cell? a6 = some x6 ∧ W.cell? a7 = some x7 ∧ W.cell? a8 = some x8 ∧ W.cell? a9 = some x9 := by
  obtain ⟨h0, h1, h2, h3, h4, h5, h6, h7, h8, h9⟩ := h
  exact ⟨cell_later h0 ho, cell_later h1 ho, cell_later h2 ho, cell_later h3 ho, cell_later h4 ho, cell_later h5 ho, cell_later h6 ho, cell_later h7 ho, cell_later h8 ho, cell_later h9 ho⟩
theorem on_eq {w W : World} {x : Nd} {f g : Bool} {A B A' B' : Option Addr} {n c m d n' c' m' d' : Nat} (h : Nod w x f (.slice A n c) (.slice B m d)) (k : Nod W x g (.slice A' n' c') (.slice B' m' d')) : n = n' := h.2.1.len.trans k.2.1.len.symm
theorem om_eq {w W : World} {x : Nd} {f g : Bool} {A B A' B' : Option Addr} {n c m d n' c' m' d' : Nat} (h : Nod w x f (.slice A n c) (.slice B m d)) (k : Nod W x g (.slice A' n' c') (.slice B' m' d')) : m = m' := h.2.2.len.trans k.2.2.len.symm
set_option maxRecDepth 100000 in
set_option maxHeartbeats 12800000 in
theorem steps_c (w : World) (A A2 : Option Addr) (n c c2 : Nat) (l : List Sp) (h : Sps w (.slice A n c) l) (h2 : Sps w (.slice A2 n c2) l) (hs : ∀ y ∈ l, Sml y.2.1) (hn : n ≤ 1000000) :
    Calls Try.prog 15 #[.slice A n c, .slice A2 n c2] w (Told w (.bool true)) := by
  have HN := Lib.hid h
  have HN2 := Lib.hid h2
  have HSS := Lib.hid hs
  clear h h2 hs
  go_enter Try.func15, Try.ntmps15
  go_wp2_with (fail)
  go_loopg [13] n (fun gk i wr => ∃ k : Nat, gk = n - k ∧ k ≤ n ∧ i = .int .i64 (k : Int) ∧ Hid (Only (w.heap.size ≤ ·) w wr))
  case atStart => exact ⟨0, rfl, Nat.zero_le _, rfl, Lib.hid (Only.refl _ _)⟩
  case round =>
    obtain ⟨k, rfl, hk, rfl, HO⟩ := hrel
    by_cases hlt : k < n
    · have hlt' : (k : Int) < (n : Int) := by omega
      obtain ⟨b, off, y, P, Q, p, pc, q, qc, rfl, hb, hy, y0, y1, y2, y3, y4, hnd⟩ := sps_at (HN.out.later HO.out) hlt
      obtain ⟨b', off', y', P', Q', p', pc', q', qc', rfl, hb', hy', z0, z1, z2, z3, z4, hnd'⟩ := sps_at (HN2.out.later HO.out) hlt
      rw [hy] at hy'
      cases hy'
      have HSM : Hid (Sml y.2.1) := Lib.hid (HSS.out y (List.mem_of_getElem? hy))
      obtain rfl := on_eq hnd hnd'
      obtain rfl := om_eq hnd hnd'
      obtain ⟨xr, xn, xk⟩ := y
      simp only at y0 y1 y4 z0 z1 z4 hnd hnd' HSM
      obtain ⟨lf, hlf⟩ : ∃ b, b = xn.leaf := ⟨_, rfl⟩
      rw [← hlf] at y1 z1 hnd hnd'
      have HND := Lib.hid hnd
      have HND' := Lib.hid hnd'
      have HSN : Hid (p ≤ 1000 ∧ q ≤ 1000) := Lib.hid ⟨by rw [hnd.2.1.len]; exact HSM.out.1, by rw [hnd.2.2.len]; exact HSM.out.2.1⟩
      have HLF : Hid (xn.leaf = lf) := Lib.hid hlf.symm
      clear hy hnd hnd' hlf hb hb'
      have HD := Lib.hid ((Only.refl (wr.heap.size ≤ ·) wr).drew)
      have HCS : Hid ((fun W : World => W.cell? ⟨b, off + k * 5, none⟩ = some (.int .i64 xr) ∧ W.cell? ⟨b, off + k * 5 + 1, none⟩ = some (.bool lf) ∧ W.cell? ⟨b, off + k * 5 + 2, none⟩ = some (.slice P p pc) ∧ W.cell? ⟨b, off + k * 5 + 3, none⟩ = some (.slice Q q qc) ∧ W.cell? ⟨b, off + k * 5 + 4, none⟩ = some (.int .i64 xk) ∧ W.cell? ⟨b', off' + k * 5, none⟩ = some (.int .i64 xr) ∧ W.cell? ⟨b', off' + k * 5 + 1, none⟩ = some (.bool lf) ∧ W.cell? ⟨b', off' + k * 5 + 2, none⟩ = some (.slice P' p pc') ∧ W.cell? ⟨b', off' + k * 5 + 3, none⟩ = some (.slice Q' q qc') ∧ W.cell? ⟨b', off' + k * 5 + 4, none⟩ = some (.int .i64 xk)) wr.drew) := Lib.hid ⟨y0, y1, y2, y3, y4, z0, z1, z2, z3, z4⟩
      go_upto_region 6 with (fail)
      clear y0 y1 y2 y3 y4 z0 z1 z2 z3 z4
      refine wp_region_list (B := [false, false, false, false, false, false, false, false, false, false, false, false, false, false, false, false, false, false, false, false, false, false, false, false, false, false, false, false, false, false, false, false, false, false, false, false, false, false, false]) (S := (fun W : World => W.cell? ⟨b, off + k * 5, none⟩ = some (.int .i64 xr) ∧ W.cell? ⟨b, off + k * 5 + 1, none⟩ = some (.bool lf) ∧ W.cell? ⟨b, off + k * 5 + 2, none⟩ = some (.slice P p pc) ∧ W.cell? ⟨b, off + k * 5 + 3, none⟩ = some (.slice Q q qc) ∧ W.cell? ⟨b, off + k * 5 + 4, none⟩ = some (.int .i64 xk) ∧ W.cell? ⟨b', off' + k * 5, none⟩ = some (.int .i64 xr) ∧ W.cell? ⟨b', off' + k * 5 + 1, none⟩ = some (.bool lf) ∧ W.cell? ⟨b', off' + k * 5 + 2, none⟩ = some (.slice P' p pc') ∧ W.cell? ⟨b', off' + k * 5 + 3, none⟩ = some (.slice Q' q qc') ∧ W.cell? ⟨b', off' + k * 5 + 4, none⟩ = some (.int .i64 xk))) (by kernel_rfl) (by kernel_rfl) (by kernel_rfl) HCS.out (fun hsel hHeld => ?_)
      generalize hwz : World.drew _ = wz at HD HCS hHeld ⊢
      clear hwz
      refine oneA 0 16 hsel (h := ?_)
      simp only [Act.put, List.setIfInBounds_toArray, List.set_cons_zero, List.set_cons_succ]
      refine oneA 1 17 hsel (h := ?_)
      simp only [Act.put, List.setIfInBounds_toArray, List.set_cons_zero, List.set_cons_succ]
      refine oneA 2 18 hsel (h := ?_)
      simp only [Act.put, List.setIfInBounds_toArray, List.set_cons_zero, List.set_cons_succ]
      refine oneA 3 19 hsel (h := ?_)
      simp only [Act.put, List.setIfInBounds_toArray, List.set_cons_zero, List.set_cons_succ]
      refine oneA 4 20 hsel (h := ?_)
      simp only [Act.put, List.setIfInBounds_toArray, List.set_cons_zero, List.set_cons_succ]
      refine oneA 5 21 hsel (h := ?_)
      simp only [Act.put, List.setIfInBounds_toArray, List.set_cons_zero, List.set_cons_succ]
      refine oneA 6 22 hsel (h := ?_)
      simp only [Act.put, List.setIfInBounds_toArray, List.set_cons_zero, List.set_cons_succ]
      refine oneA 7 23 hsel (h := ?_)
      simp only [Act.put, List.setIfInBounds_toArray, List.set_cons_zero, List.set_cons_succ]
      refine oneA 8 24 hsel (h := ?_)
      simp only [Act.put, List.setIfInBounds_toArray, List.set_cons_zero, List.set_cons_succ]
      refine oneA 9 25 hsel (h := ?_)
      simp only [Act.put, List.setIfInBounds_toArray, List.set_cons_zero, List.set_cons_succ]
      refine oneA 10 26 hsel (h := ?_)
      simp only [Act.put, List.setIfInBounds_toArray, List.set_cons_zero, List.set_cons_succ]
      refine oneA 11 27 hsel (h := ?_)
      simp only [Act.put, List.setIfInBounds_toArray, List.set_cons_zero, List.set_cons_succ]
      refine oneA 12 28 hsel (h := ?_)
      simp only [Act.put, List.setIfInBounds_toArray, List.set_cons_zero, List.set_cons_succ]
      refine oneA 13 29 hsel (h := ?_)
      simp only [Act.put, List.setIfInBounds_toArray, List.set_cons_zero, List.set_cons_succ]
      refine oneA 14 30 hsel (h := ?_)
      simp only [Act.put, List.setIfInBounds_toArray, List.set_cons_zero, List.set_cons_succ]
      refine oneA 15 31 hsel (h := ?_)
      simp only [Act.put, List.setIfInBounds_toArray, List.set_cons_zero, List.set_cons_succ]
      refine oneA 16 32 hsel (h := ?_)
      simp only [Act.put, List.setIfInBounds_toArray, List.set_cons_zero, List.set_cons_succ]
      refine oneA 17 33 hsel (h := ?_)
      simp only [Act.put, List.setIfInBounds_toArray, List.set_cons_zero, List.set_cons_succ]
      refine oneA 18 34 hsel (h := ?_)
      simp only [Act.put, List.setIfInBounds_toArray, List.set_cons_zero, List.set_cons_succ]
      refine oneA 19 35 hsel (h := ?_)
      simp only [Act.put, List.setIfInBounds_toArray, List.set_cons_zero, List.set_cons_succ]
      refine oneA 20 36 hsel (h := ?_)
      simp only [Act.put, List.setIfInBounds_toArray, List.set_cons_zero, List.set_cons_succ]
      refine oneA 21 37 hsel (h := ?_)
      simp only [Act.put, List.setIfInBounds_toArray, List.set_cons_zero, List.set_cons_succ]
      refine oneA 22 38 hsel (h := ?_)
      simp only [Act.put, List.setIfInBounds_toArray, List.set_cons_zero, List.set_cons_succ]
      refine oneA 23 39 hsel (h := ?_)
      simp only [Act.put, List.setIfInBounds_toArray, List.set_cons_zero, List.set_cons_succ]
      refine oneA 24 40 hsel (h := ?_)
      simp only [Act.put, List.setIfInBounds_toArray, List.set_cons_zero, List.set_cons_succ]
      refine oneA 25 41 hsel (h := ?_)
      simp only [Act.put, List.setIfInBounds_toArray, List.set_cons_zero, List.set_cons_succ]
      refine oneA 26 42 hsel (h := ?_)
      simp only [Act.put, List.setIfInBounds_toArray, List.set_cons_zero, List.set_cons_succ]
      refine oneA 27 43 hsel (h := ?_)
      simp only [Act.put, List.setIfInBounds_toArray, List.set_cons_zero, List.set_cons_succ]
      refine oneA 28 44 hsel (h := ?_)
      simp only [Act.put, List.setIfInBounds_toArray, List.set_cons_zero, List.set_cons_succ]
      refine oneA 29 45 hsel (h := ?_)
      simp only [Act.put, List.setIfInBounds_toArray, List.set_cons_zero, List.set_cons_succ]
      refine oneA 31 47 hsel (h := ?_)
      simp only [Act.put, List.setIfInBounds_toArray, List.set_cons_zero, List.set_cons_succ]
      refine oneA 32 48 hsel (h := ?_)
      simp only [Act.put, List.setIfInBounds_toArray, List.set_cons_zero, List.set_cons_succ]
      refine oneA 33 49 hsel (h := ?_)
      simp only [Act.put, List.setIfInBounds_toArray, List.set_cons_zero, List.set_cons_succ]
      refine oneA 34 50 hsel (h := ?_)
      simp only [Act.put, List.setIfInBounds_toArray, List.set_cons_zero, List.set_cons_succ]
      refine oneA 35 51 hsel (h := ?_)
      simp only [Act.put, List.setIfInBounds_toArray, List.set_cons_zero, List.set_cons_succ]
      refine wpAnyL_ready (rs := [30]) (by kernel_rfl) (by kernel_rfl) (by simp) ?_
      refine AllReadyL.cons (o := ?_) ?_ (fun K hK => ?_) AllReadyL.nil
      case refine_2 => (simp only [List.getElem?_cons_succ, List.getElem?_cons_zero]; rfl)
      go_simp
      (go_at_call 34; (have hc := NOld_c _ P Q p pc q qc lf xn (HND.out.later HD.out) HSM.out.few); unfold GaveN at hc; rw [HLF.out] at hc; (with_reducible refine hc.mono ?_); rintro ee w2 ⟨OA, on, oc, OB, om, od, rfl, hno, ho⟩; (obtain rfl := (on_eq hno HND.out).symm); (obtain rfl := (om_eq hno HND.out).symm); have HNO := Lib.hid hno; have HO2 := Lib.hid (on_new (on_new HO.out HD.out) ho); have HCT := Lib.hid (ten_later HCS.out ho); have HN2 := Lib.hid ((HND'.out.later HD.out).later ho); clear hno ho hc)
      go_wp2_with (fail)
      clear hHeld
      refine hK.out _ _ HCT.out (fun hHeld => ?_)
      clear hK K
      try simp only [List.set_cons_zero, List.set_cons_succ]
      refine wpAnyL_ready (rs := [36]) (by kernel_rfl) (by kernel_rfl) (by simp) ?_
      refine AllReadyL.cons (o := ?_) ?_ (fun K hK => ?_) AllReadyL.nil
      case refine_2 => (simp only [List.getElem?_cons_succ, List.getElem?_cons_zero]; rfl)
      go_simp
      (go_at_call 33; (with_reducible refine (DSame_eq _ lf OA OB P' Q' p oc q od pc' qc' xn HNO.out HN2.out HSN.out.1 HSN.out.2).mono ?_); rintro ee w3 ⟨rfl, ho⟩; have HO3 := Lib.hid (on_new HO2.out ho); have HCU := Lib.hid (ten_later HCT.out ho); clear ho)
      go_wp2_with (fail)
      clear hHeld
      refine hK.out _ _ HCU.out (fun hHeld => ?_)
      clear hK K
      try simp only [List.set_cons_zero, List.set_cons_succ]
      refine oneA 37 53 hsel (h := ?_)
      simp only [Act.put, List.setIfInBounds_toArray, List.set_cons_zero, List.set_cons_succ]
      refine oneA 38 54 hsel (h := ?_)
      simp only [Act.put, List.setIfInBounds_toArray, List.set_cons_zero, List.set_cons_succ]
      refine wpAnyL_done (by kernel_rfl) (by kernel_rfl) ?_ _
      clear hsel hHeld
      go_wp2_with (fail)
      go_roundg (n - (k + 1))
      case measure => omega
      case rel => exact ⟨k + 1, rfl, by omega, by go_num, HO3⟩
    · obtain rfl : k = n := by omega
      have hkm : ¬ (k : Int) < (k : Int) := by omega
      go_wp2_with (fail)
      go_ret
      exact ⟨rfl, HO.out⟩
end Go.Proofs.Ytdpdlhfjemehcaa
