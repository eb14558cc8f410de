/-
  stands: is a disk the document's?
-/
import Derived.Test.YtbpldkhgiddmlaaGreatDoorPuo
import Derived.Test.YtbpldkhgiddmlaaGreatDoorPgl
set_option linter.unusedVariables false
namespace Go.Proofs.YtbpldkhgiddmlaaGreatDoor
open Go.RowKit

theorem st_nums {bn N : Nat} (h : bn = N * 64) (h2 : N ≤ 65536) : Int.tdiv (bn : Int) 64 = (N : Nat) ∧ (bn : Int) / 64 = (N : Nat) ∧ wrap64 ((N : Nat) : Int) = (N : Nat) ∧ IntKind.i64.wrap ((N : Nat) : Int) = (N : Nat) := by
  refine ⟨?_, by omega, IntWalk.wrap64_in _ (by omega), IntWalk.i64_in _ (by omega)⟩
  rw [Int.tdiv_eq_ediv_of_nonneg (Int.natCast_nonneg bn)]
  omega
theorem img_src {w2 w3 : World} {b n : Nat} {X : Bytes} (h : Blk w2 b 5 (cb X)) (ho : Only (w2.heap.size ≤ ·) w2 w3) (hl : X.length = n) (hn : n ≤ 4194304) : Src w3 (.slice (some ⟨b, 0, none⟩) n n) X := by
  subst hl
  have h3 : Blk w3 b 5 (cb X ++ []) := by rw [List.append_nil]; exact h.only ho (Nat.not_le.2 h.lt)
  have h1 := Txt.blk (A := some ⟨b, 0, none⟩) h3 0 X.length (by omega) (fun _ => rfl)
  rw [List.drop_zero, List.take_length] at h1
  exact ⟨some ⟨b, 0, none⟩, X.length, rfl, h1, (fun e => by cases e), Nat.le_refl _, by omega⟩
set_option maxRecDepth 100000 in
set_option maxHeartbeats 12800000 in
theorem kstands_c (w : World) (p : Nat) (d : Dk.Dsk) (D : Nat → Prop) (h : DAt w p d D) (v : Value) (hv : KAt (fun _ => False) w v d) (hr : d.row.length ≤ 100000) : Calls Tryz.prog 19 #[.pointer (some ⟨p, 0, none⟩), v] w (Told w (.bool true)) := by
  obtain ⟨h0, BA, bc, RA, rc, rfl, h2, h3⟩ := hv
  obtain ⟨L, hL⟩ : ∃ z : Int, z = (d.limit : Nat) := ⟨_, rfl⟩
  obtain ⟨op, hop⟩ : ∃ z : Int, z = (d.ops : Nat) := ⟨_, rfl⟩
  obtain ⟨fu, hfu⟩ : ∃ z, z = kfu d := ⟨_, rfl⟩
  obtain ⟨bn, hbn⟩ : ∃ z, z = d.dur.length := ⟨_, rfl⟩
  obtain ⟨rn, hrn⟩ : ∃ z, z = d.row.length := ⟨_, rfl⟩
  obtain ⟨dn, hdn⟩ : ∃ z, z = d.down := ⟨_, rfl⟩
  obtain ⟨N, hN⟩ : ∃ z, z = d.n := ⟨_, rfl⟩
  obtain ⟨X, hX⟩ : ∃ z, z = d.see := ⟨_, rfl⟩
  have hl := h0.len
  have hnl := Nat.le_trans h0.nl h0.lim
  have hx := h0.see
  rw [← hL, ← hop, ← hfu, ← hbn, ← hrn, ← hdn]
  rw [← hN, ← hbn] at hl
  rw [← hN] at hnl
  rw [← hN, ← hX] at hx
  obtain ⟨w1, hw1⟩ : ∃ W0, W0 = w.alloc (.cells #[.int .i64 L, .slice BA bn bc, .slice RA rn rc, .int .i64 op, .int .i64 fu, .bool dn] 34) := ⟨_, rfl⟩
  have HO1 : Hid (Only (w.heap.size ≤ ·) w w1) := Lib.hid (by rw [hw1]; exact (Only.refl _ w).alloc (fun _ h => h) _)
  have HA : Hid (Blk w1 w.heap.size 34 [.int .i64 L, .slice BA bn bc, .slice RA rn rc, .int .i64 op, .int .i64 fu, .bool dn]) := Lib.hid (by rw [hw1]; exact Blk.new w 34 _)
  have HD := Lib.hid (h.later HO1.out)
  have HSZ := Lib.hid (fun W (hW : Only (w1.heap.size ≤ ·) w1 W) => show Calls _ _ _ W _ from by have h9 := Dk.Size_c W D p d (HD.out.later hW).holds; rw [← hN] at h9; exact h9)
  have HOP := Lib.hid (fun W (hW : Only (w1.heap.size ≤ ·) w1 W) => show Calls _ _ _ W _ from by have h9 := Dk.Ops_c W D p d (HD.out.later hW).holds; rw [← hop] at h9; exact h9)
  have HPN := Lib.hid (fun W (hW : Only (w1.heap.size ≤ ·) w1 W) => show Calls _ _ _ W _ from by have h9 := Dk.Pending_c W D p d (HD.out.later hW).holds; rw [← hrn] at h9; exact h9)
  have HDN := Lib.hid (fun W (hW : Only (w1.heap.size ≤ ·) w1 W) => show Calls _ _ _ W _ from by have h9 := Dk.Down_c W D p d (HD.out.later hW).holds; rw [← hdn] at h9; exact h9)
  have HIM := Lib.hid (fun W (hW : Only (w1.heap.size ≤ ·) w1 W) => show Calls _ _ _ W _ from by have h9 := Dk.Image_c W D p d (HD.out.later hW).holds; rw [← hN, ← hX, ← hl] at h9; exact h9)
  have HKI : Hid (∀ W, Only (w1.heap.size ≤ ·) w1 W → Calls Tryz.prog 40 #[.agg #[.int .i64 L, .slice BA bn bc, .slice RA rn rc, .int .i64 op, .int .i64 fu, .bool dn]] W (GaveIm W bn X)) := Lib.hid (fun W hW => by
    have hs : Src W (.slice BA bn bc) d.dur := by rw [hbn]; exact h2.now.later (on_new HO1.out hW)
    have hk : Kws W (.slice RA rn rc) d.row := by rw [hrn]; exact h3.rw_.now.later (on_new HO1.out hW)
    have h9 := kImage_c W L BA bn bc RA rn rc op fu dn d.dur d.row N hs hbn.symm hl hnl hk (by rw [hN]; exact h0.fits) (by omega)
    rw [hX]
    exact h9)
  have HXL : Hid (X.length = bn ∧ bn ≤ 4194304) := Lib.hid ⟨by rw [hl]; exact hx, by omega⟩
  obtain ⟨c1, c2, c3, c4⟩ := st_nums hl hnl
  have HE1 := Lib.hid hw1
  have HX : Hid (Only (w1.heap.size ≤ ·) w1 w1) := Lib.hid (Only.refl _ _)
  clear h h0 h2 h3 hr hL hop hfu hbn hrn hdn hN hX hl hnl hx hw1
  obtain ⟨i0, i1, i2, i3, i4, i5⟩ := blk_six HA.out
  go_enter Tryz.func19, Tryz.ntmps19
  go_upto_region 1 with (fail)
  rw [← HE1.out]
  clear HE1
  clear i0 i1 i2 i3 i4 i5
  have KQ : Hid (∀ W : World, Only (w1.heap.size ≤ ·) w1 W → (fun W : World => W.cell? ⟨w.heap.size, 0, none⟩ = some (.int .i64 L) ∧ W.cell? ⟨w.heap.size, 1, none⟩ = some (.slice BA bn bc) ∧ W.cell? ⟨w.heap.size, 2, none⟩ = some (.slice RA rn rc) ∧ W.cell? ⟨w.heap.size, 3, none⟩ = some (.int .i64 op) ∧ W.cell? ⟨w.heap.size, 4, none⟩ = some (.int .i64 fu) ∧ W.cell? ⟨w.heap.size, 5, none⟩ = some (.bool dn)) W) := Lib.hid (fun W hW => blk_six (HA.out.only hW (Nat.not_le.2 HA.out.lt)))
  have HV0 : Hid (Only (w1.heap.size ≤ ·) w1 w1.drew) := Lib.hid (Only.refl _ w1).drew
  have HSX := Lib.hid (KQ.out _ HV0.out)
  refine wp_region_list (B := [false, false, false, false, false, false, false, false, false, false, false, false, false, false, false, false, false, false, false, false, false, false, false, false, false, false, false, false, false, false, false, false, false, false, false, false, false]) (S := (fun W : World => W.cell? ⟨w.heap.size, 0, none⟩ = some (.int .i64 L) ∧ W.cell? ⟨w.heap.size, 1, none⟩ = some (.slice BA bn bc) ∧ W.cell? ⟨w.heap.size, 2, none⟩ = some (.slice RA rn rc) ∧ W.cell? ⟨w.heap.size, 3, none⟩ = some (.int .i64 op) ∧ W.cell? ⟨w.heap.size, 4, none⟩ = some (.int .i64 fu) ∧ W.cell? ⟨w.heap.size, 5, none⟩ = some (.bool dn))) (by kernel_rfl) (by kernel_rfl) (by kernel_rfl) HSX.out (fun hsel hHeld => ?_)
  generalize hwz : World.drew _ = wv0 at HV0 HSX hHeld ⊢
  clear hwz
  refine oneA 0 5 hsel (h := ?_)
  simp only [Act.put, lsa, lsz, lss]
  refine oneA 2 7 hsel (h := ?_)
  simp only [Act.put, lsa, lsz, lss]
  refine oneA 3 8 hsel (h := ?_)
  simp only [Act.put, lsa, lsz, lss]
  refine oneA 4 9 hsel (h := ?_)
  simp only [Act.put, lsa, lsz, lss]
  refine oneA 5 10 hsel (h := ?_)
  simp only [Act.put, lsa, lsz, lss]
  try simp only [c4]
  refine wpAnyL_ready (rs := [1]) (by kernel_rfl) (by kernel_rfl) (by simp) ?_
  refine AllReadyL.cons (o := ?_) ?_ (fun K hK => ?_) AllReadyL.nil
  case refine_2 => (simp only [List.getElem?_cons_succ, List.getElem?_cons_zero]; rfl)
  go_simp
  (go_at_call 21; (with_reducible refine (HSZ.out _ HV0.out).mono ?_); rintro e wz ⟨rfl, rfl⟩)
  go_wp2_with (fail)
  clear hHeld
  refine hK.out _ _ (KQ.out _ HV0.out) (fun hHeld => ?_)
  clear hK K
  try simp only [Act.put, lsa, lsz, lss]
  refine oneA 6 11 hsel (h := ?_)
  simp only [Act.put, lsa, lsz, lss]
  try simp only [beq_self_eq_true]
  refine oneA 7 12 hsel (h := ?_)
  simp only [Act.put, lsa, lsz, lss]
  refine oneA 8 13 hsel (h := ?_)
  simp only [Act.put, lsa, lsz, lss]
  refine oneA 10 15 hsel (h := ?_)
  simp only [Act.put, lsa, lsz, lss]
  refine oneA 11 16 hsel (h := ?_)
  simp only [Act.put, lsa, lsz, lss]
  refine wpAnyL_ready (rs := [9]) (by kernel_rfl) (by kernel_rfl) (by simp) ?_
  refine AllReadyL.cons (o := ?_) ?_ (fun K hK => ?_) AllReadyL.nil
  case refine_2 => (simp only [List.getElem?_cons_succ, List.getElem?_cons_zero]; rfl)
  go_simp
  (go_at_call 33; (with_reducible refine (HOP.out _ HV0.out).mono ?_); rintro e wz ⟨rfl, rfl⟩)
  go_wp2_with (fail)
  clear hHeld
  refine hK.out _ _ (KQ.out _ HV0.out) (fun hHeld => ?_)
  clear hK K
  try simp only [Act.put, lsa, lsz, lss]
  refine oneA 12 17 hsel (h := ?_)
  simp only [Act.put, lsa, lsz, lss]
  try simp only [beq_self_eq_true]
  refine oneA 13 18 hsel (h := ?_)
  simp only [Act.put, lsa, lsz, lss]
  refine oneA 14 19 hsel (h := ?_)
  simp only [Act.put, lsa, lsz, lss]
  refine oneA 15 20 hsel (h := ?_)
  simp only [Act.put, lsa, lsz, lss]
  refine oneA 17 22 hsel (h := ?_)
  simp only [Act.put, lsa, lsz, lss]
  refine oneA 18 23 hsel (h := ?_)
  simp only [Act.put, lsa, lsz, lss]
  refine oneA 19 24 hsel (h := ?_)
  simp only [Act.put, lsa, lsz, lss]
  refine wpAnyL_ready (rs := [16]) (by kernel_rfl) (by kernel_rfl) (by simp) ?_
  refine AllReadyL.cons (o := ?_) ?_ (fun K hK => ?_) AllReadyL.nil
  case refine_2 => (simp only [List.getElem?_cons_succ, List.getElem?_cons_zero]; rfl)
  go_simp
  (go_at_call 52; (with_reducible refine (HPN.out _ HV0.out).mono ?_); rintro e wz ⟨rfl, rfl⟩)
  go_wp2_with (fail)
  clear hHeld
  refine hK.out _ _ (KQ.out _ HV0.out) (fun hHeld => ?_)
  clear hK K
  try simp only [Act.put, lsa, lsz, lss]
  refine oneA 20 25 hsel (h := ?_)
  simp only [Act.put, lsa, lsz, lss]
  try simp only [beq_self_eq_true]
  refine oneA 21 26 hsel (h := ?_)
  simp only [Act.put, lsa, lsz, lss]
  refine oneA 22 27 hsel (h := ?_)
  simp only [Act.put, lsa, lsz, lss]
  refine oneA 23 28 hsel (h := ?_)
  simp only [Act.put, lsa, lsz, lss]
  refine oneA 25 30 hsel (h := ?_)
  simp only [Act.put, lsa, lsz, lss]
  refine oneA 26 31 hsel (h := ?_)
  simp only [Act.put, lsa, lsz, lss]
  refine wpAnyL_ready (rs := [24]) (by kernel_rfl) (by kernel_rfl) (by simp) ?_
  refine AllReadyL.cons (o := ?_) ?_ (fun K hK => ?_) AllReadyL.nil
  case refine_2 => (simp only [List.getElem?_cons_succ, List.getElem?_cons_zero]; rfl)
  go_simp
  (go_at_call 53; (with_reducible refine (HDN.out _ HV0.out).mono ?_); rintro e wz ⟨rfl, rfl⟩)
  go_wp2_with (fail)
  clear hHeld
  refine hK.out _ _ (KQ.out _ HV0.out) (fun hHeld => ?_)
  clear hK K
  try simp only [Act.put, lsa, lsz, lss]
  refine oneA 27 32 hsel (h := ?_)
  simp only [Act.put, lsa, lsz, lss]
  try simp only [beq_self_eq_true]
  refine oneA 28 33 hsel (h := ?_)
  simp only [Act.put, lsa, lsz, lss]
  refine oneA 29 34 hsel (h := ?_)
  simp only [Act.put, lsa, lsz, lss]
  refine oneA 30 35 hsel (h := ?_)
  simp only [Act.put, lsa, lsz, lss]
  refine oneA 32 37 hsel (h := ?_)
  simp only [Act.put, lsa, lsz, lss]
  refine wpAnyL_ready (rs := [31]) (by kernel_rfl) (by kernel_rfl) (by simp) ?_
  refine AllReadyL.cons (o := ?_) ?_ (fun K hK => ?_) AllReadyL.nil
  case refine_2 => (simp only [List.getElem?_cons_succ, List.getElem?_cons_zero]; rfl)
  go_simp
  (go_at_call 54; (with_reducible refine (HIM.out _ HV0.out).mono ?_); rintro e w2 ⟨rfl, hb, ho⟩; have HIB := Lib.hid hb; have HX := Lib.hid (on_new HV0.out ho); clear hb ho)
  go_wp2_with (fail)
  clear hHeld
  refine hK.out _ _ (KQ.out _ HX.out) (fun hHeld => ?_)
  clear hK K
  try simp only [Act.put, lsa, lsz, lss]
  refine wpAnyL_ready (rs := [33]) (by kernel_rfl) (by kernel_rfl) (by simp) ?_
  refine AllReadyL.cons (o := ?_) ?_ (fun K hK => ?_) AllReadyL.nil
  case refine_2 => (simp only [List.getElem?_cons_succ, List.getElem?_cons_zero]; rfl)
  go_simp
  (go_at_call 40; (with_reducible refine (HKI.out _ HX.out).mono ?_); rintro e w3 ⟨QA, qc, rfl, hs, _, ho⟩; have HQS := Lib.hid hs; have HO3 := Lib.hid ho; clear hs ho)
  go_wp2_with (fail)
  clear hHeld
  refine hK.out _ _ (KQ.out _ (on_new HX.out HO3.out)) (fun hHeld => ?_)
  clear hK K
  try simp only [Act.put, lsa, lsz, lss]
  refine wpAnyL_ready (rs := [34]) (by kernel_rfl) (by kernel_rfl) (by simp) ?_
  refine AllReadyL.cons (o := ?_) ?_ (fun K hK => ?_) AllReadyL.nil
  case refine_2 => (simp only [List.getElem?_cons_succ, List.getElem?_cons_zero]; rfl)
  go_simp
  have HIS := Lib.hid (img_src HIB.out HO3.out HXL.out.1 HXL.out.2)
  (go_at_call 29; (with_reducible refine (Equal_b _ _ _ X X true HIS.out HQS.out (decide_eq_true rfl)).mono ?_); rintro ee w' ⟨rfl, rfl⟩)
  go_wp2_with (fail)
  clear hHeld
  refine hK.out _ _ (KQ.out _ (on_new HX.out HO3.out)) (fun hHeld => ?_)
  clear hK K
  try simp only [Act.put, lsa, lsz, lss]
  refine oneA 35 40 hsel (h := ?_)
  simp only [Act.put, lsa, lsz, lss]
  refine oneA 36 4 hsel (h := ?_)
  simp only [Act.put, lsa, lsz, lss]
  refine wpAnyL_done (by kernel_rfl) (by kernel_rfl) ?_ _
  clear hsel hHeld
  go_wp2_with (fail)
  go_ret
  exact ⟨rfl, on_new HO1.out (on_new HX.out HO3.out)⟩
end Go.Proofs.YtbpldkhgiddmlaaGreatDoor
