/-
  The document's Decode.
-/
import Derived.Test.YtoghojgajpfkkaaGreatDoorRfc
import Derived.Test.YtoghojgajpfkkaaGreatDoorDpg
import Derived.Test.YtoghojgajpfkkaaGreatDoorPnh
set_option linter.unusedVariables false
namespace Go.Proofs.YtoghojgajpfkkaaGreatDoor
open Go.RowKit

theorem convert_src {w : World} {v : Value} {xs : Bytes} (h : Src w v xs) : (convert 22 9 v).run Tryz.prog w = .ok (.string ⟨xs.toArray⟩) w := by
  obtain ⟨A, c, rfl, ht, _⟩ := h
  exact convert_txt w A _ c xs ht
theorem gaveD_bad {w w' : World} {b : Bytes} {z : Int} (ho : Only (w.heap.size ≤ ·) w w') (h : ¬ DecOk b) (hz : z = if nhE b = 0 then 72 else nhE b) : GaveD w b (.returned (.tuple #[.int .i64 0, .agg #[.bool false, .slice none 0 0, .slice none 0 0], .int .i64 z])) w' := by
  subst hz
  exact ⟨false, ⟨fun h => by simp at h, fun h' => absurd h' h⟩, false, none, 0, 0, none, 0, 0, rfl, zero_nod _, ho⟩
section
variable (w : World) (A : Option Addr) (n c : Nat) (b : Bytes)
set_option maxRecDepth 100000 in
set_option maxHeartbeats 3200000 in
theorem rd_len (hn : n ≠ 256) (hD : ¬ DecOk b) (hZ : (72 : Int) = if nhE b = 0 then 72 else nhE b) : Calls Tryz.prog 7 #[.slice A n c] w (GaveD w b) := by
  obtain ⟨W0, hW0⟩ : ∃ W0, W0 = (w.alloc (.cells #[.bool false, .slice none 0 0, .slice none 0 0] 35)).alloc (.cells #[.bool false, .slice none 0 0, .slice none 0 0] 35) := ⟨_, rfl⟩
  have HO : Hid (Only (w.heap.size ≤ ·) w W0) := Lib.hid (by rw [hW0]; exact ((Only.refl _ w).alloc (fun _ h => h) _).alloc (fun _ h => h) _)
  have HI : Hid (Blk W0 w.heap.size 35 [.bool false, .slice none 0 0, .slice none 0 0]) := Lib.hid (by rw [hW0]; exact (Blk.new w 35 _).alloc _)
  have HN : Hid (Blk W0 (w.heap.size + 1) 35 [.bool false, .slice none 0 0, .slice none 0 0]) := Lib.hid (by
    rw [hW0]
    have := Blk.new (w.alloc (.cells #[.bool false, .slice none 0 0, .slice none 0 0] 35)) 35 [.bool false, .slice none 0 0, .slice none 0 0]
    simpa using this)
  have HD := Lib.hid hD
  have HZ := Lib.hid hZ
  have b1 : ((n : Int) != 256) = true := by rw [bne_iff_ne]; omega
  clear hn hD hZ
  go_enter Tryz.func7, Tryz.ntmps7
  go_upto_region 1 with (fail)
  go_upto_region 2 with (fail)
  rw [← hW0]
  clear hW0
  (obtain ⟨i0, i1, i2⟩ := HI.out.tri); (obtain ⟨f0, f1, f2⟩ := HI.out.melt3); (obtain ⟨n0, n1, n2⟩ := HN.out.tri)
  go_upto_region 3 with (fail)
  have KN0 : Hid (∀ W, Only (fun j => j = w.heap.size) W0 W → W.cell? ⟨w.heap.size + 1, 0, none⟩ = some (.bool false) ∧ W.cell? ⟨w.heap.size + 1, 1, none⟩ = some (.slice none 0 0) ∧ W.cell? ⟨w.heap.size + 1, 2, none⟩ = some (.slice none 0 0)) := Lib.hid fun W hW => (HN.out.only hW (by omega)).tri
  refine wp_region_list (B := [false, false, false, false]) (S := (fun W => W.cell? ⟨w.heap.size + 1, 0, none⟩ = some (.bool false) ∧ W.cell? ⟨w.heap.size + 1, 1, none⟩ = some (.slice none 0 0) ∧ W.cell? ⟨w.heap.size + 1, 2, none⟩ = some (.slice none 0 0))) (by kernel_rfl) (by kernel_rfl) (by kernel_rfl) (KN0.out _ (Only.refl _ _).drew) (fun hsel hHeld => ?_)
  obtain ⟨wy, hwy⟩ : ∃ wy, wy = W0.drew := ⟨_, rfl⟩
  have KN : Hid (∀ W, Only (fun j => j = w.heap.size) wy W → W.cell? ⟨w.heap.size + 1, 0, none⟩ = some (.bool false) ∧ W.cell? ⟨w.heap.size + 1, 1, none⟩ = some (.slice none 0 0) ∧ W.cell? ⟨w.heap.size + 1, 2, none⟩ = some (.slice none 0 0)) := Lib.hid fun W hW => KN0.out W (((Only.refl _ _).drew : Only (fun j => j = w.heap.size) W0 W0.drew).trans (by rw [← hwy]; exact hW))
  have HSY : Hid (Blk wy w.heap.size 35 [.bool false, .slice none 0 0, .slice none 0 0]) := Lib.hid (by rw [hwy]; exact HI.out.drew)
  have HOS : Hid (Only (fun j => j = w.heap.size) wy (((wy.setCell ⟨w.heap.size, 0, none⟩ (.bool false)).setCell ⟨w.heap.size, 1, none⟩ (.slice none 0 0)).setCell ⟨w.heap.size, 2, none⟩ (.slice none 0 0))) := Lib.hid (nd_only (Only.refl _ _) rfl)
  have HOW : Hid (Only (fun j => j = w.heap.size) W0 (((wy.setCell ⟨w.heap.size, 0, none⟩ (.bool false)).setCell ⟨w.heap.size, 1, none⟩ (.slice none 0 0)).setCell ⟨w.heap.size, 2, none⟩ (.slice none 0 0))) := Lib.hid (((Only.refl _ _).drew : Only (fun j => j = w.heap.size) W0 W0.drew).trans (by rw [← hwy]; exact HOS.out))
  rw [← hwy] at hHeld
  rw [← hwy]
  clear hwy
  obtain ⟨s0, s1, s2⟩ := HSY.out.tri
  obtain ⟨z0, z1, z2⟩ := HSY.out.melt3
  refine oneA 0 14 hsel (h := ?_)
  simp only [Act.put, List.setIfInBounds_toArray, List.set_cons_zero, List.set_cons_succ]
  refine oneA 1 2 hsel (h := ?_)
  simp only [Act.put, List.setIfInBounds_toArray, List.set_cons_zero, List.set_cons_succ]
  refine wpAnyL_ready (rs := [2]) (by kernel_rfl) (by kernel_rfl) (by simp) ?_
  refine AllReadyL.cons (o := ?_) ?_ (fun K hK => ?_) AllReadyL.nil
  case refine_2 => (simp only [List.getElem?_cons_succ, List.getElem?_cons_zero]; rfl)
  go_simp
  clear hHeld
  refine hK.out _ _ (KN.out _ HOS.out) (fun hHeld => ?_)
  clear hK K
  try simp only [List.set_cons_zero, List.set_cons_succ]
  refine oneA 3 4 hsel (h := ?_)
  simp only [Act.put, List.setIfInBounds_toArray, List.set_cons_zero, List.set_cons_succ]
  refine wpAnyL_done (by kernel_rfl) (by kernel_rfl) ?_ _
  clear hsel hHeld
  go_wp2
  refine bodyPost_ret (results_tct rfl rfl (rload_node (((HSY.out.set_ 0 _).set_ 1 _).set_ 2 _))) rfl ?_
  exact gaveD_bad (HO.out.trans (HOW.out.mono fun j hj => by rw [hj]; exact Nat.le_refl _)) HD.out HZ.out
set_option maxRecDepth 100000 in
set_option maxHeartbeats 3200000 in
theorem rd_bad (z : Int) (hz : z ≠ 0) (hH : ∀ W, Only (w.heap.size ≤ ·) w W → Calls Tryz.prog 19 #[.slice A 256 c] W (Told W (hdBad z))) (hD : ¬ DecOk b) (hZ : z = if nhE b = 0 then 72 else nhE b) : Calls Tryz.prog 7 #[.slice A 256 c] w (GaveD w b) := by
  obtain ⟨W0, hW0⟩ : ∃ W0, W0 = (w.alloc (.cells #[.bool false, .slice none 0 0, .slice none 0 0] 35)).alloc (.cells #[.bool false, .slice none 0 0, .slice none 0 0] 35) := ⟨_, rfl⟩
  have HO : Hid (Only (w.heap.size ≤ ·) w W0) := Lib.hid (by rw [hW0]; exact ((Only.refl _ w).alloc (fun _ h => h) _).alloc (fun _ h => h) _)
  have HI : Hid (Blk W0 w.heap.size 35 [.bool false, .slice none 0 0, .slice none 0 0]) := Lib.hid (by rw [hW0]; exact (Blk.new w 35 _).alloc _)
  have HN : Hid (Blk W0 (w.heap.size + 1) 35 [.bool false, .slice none 0 0, .slice none 0 0]) := Lib.hid (by
    rw [hW0]
    have := Blk.new (w.alloc (.cells #[.bool false, .slice none 0 0, .slice none 0 0] 35)) 35 [.bool false, .slice none 0 0, .slice none 0 0]
    simpa using this)
  have HD := Lib.hid hD
  have HZ := Lib.hid hZ
  have HHO := Lib.hid hH
  have hb : (z != 0) = true := by rw [bne_iff_ne]; exact hz
  clear hz hD hZ hH
  unfold hdBad at HHO
  go_enter Tryz.func7, Tryz.ntmps7
  go_upto_region 1 with (fail)
  go_upto_region 2 with (fail)
  rw [← hW0]
  clear hW0
  go_upto_region 5 with (go_at_call 19; (with_reducible refine (HHO.out _ HO.out).mono ?_); rintro e w1 ⟨rfl, ho⟩; (replace HI := Lib.hid (HI.out.later ho)); (replace HN := Lib.hid (HN.out.later ho)); (replace HO := Lib.hid (on_new HO.out ho)); clear ho)
  have HBX : Hid (Blk (w1.alloc (.cells #[.int .i64 0, .int .i64 0, .int .i64 0, .int .i64 0] 55)) w1.heap.size 55 [.int .i64 0, .int .i64 0, .int .i64 0, .int .i64 0]) := Lib.hid (Blk.new w1 55 _)
  have HLT : Hid (w.heap.size + 1 < w1.heap.size) := Lib.hid HN.out.lt
  replace HI := Lib.hid (HI.out.alloc (.cells #[.int .i64 0, .int .i64 0, .int .i64 0, .int .i64 0] 55))
  replace HN := Lib.hid (HN.out.alloc (.cells #[.int .i64 0, .int .i64 0, .int .i64 0, .int .i64 0] 55))
  replace HO := Lib.hid (HO.out.alloc (fun _ h => h) (.cells #[.int .i64 0, .int .i64 0, .int .i64 0, .int .i64 0] 55))
  generalize hbl : w1.heap.size = bl at HBX HLT
  obtain ⟨W2, hW2⟩ : ∃ W2, W2 = w1.alloc (.cells #[.int .i64 0, .int .i64 0, .int .i64 0, .int .i64 0] 55) := ⟨_, rfl⟩
  rw [← hW2] at HBX HI HN HO
  rw [← hW2]
  clear hW2 hbl
  (obtain ⟨i0, i1, i2⟩ := HI.out.tri); (obtain ⟨f0, f1, f2⟩ := HI.out.melt3); (obtain ⟨n0, n1, n2⟩ := HN.out.tri)
  go_upto_region 6 with (fail)
  have KN0 : Hid (∀ W, Only (fun j => j = w.heap.size) W2 W → W.cell? ⟨w.heap.size + 1, 0, none⟩ = some (.bool false) ∧ W.cell? ⟨w.heap.size + 1, 1, none⟩ = some (.slice none 0 0) ∧ W.cell? ⟨w.heap.size + 1, 2, none⟩ = some (.slice none 0 0)) := Lib.hid fun W hW => (HN.out.only hW (by omega)).tri
  refine wp_region_list (B := [false, false, false, false, false]) (S := (fun W => W.cell? ⟨w.heap.size + 1, 0, none⟩ = some (.bool false) ∧ W.cell? ⟨w.heap.size + 1, 1, none⟩ = some (.slice none 0 0) ∧ W.cell? ⟨w.heap.size + 1, 2, none⟩ = some (.slice none 0 0))) (by kernel_rfl) (by kernel_rfl) (by kernel_rfl) (KN0.out _ (Only.refl _ _).drew) (fun hsel hHeld => ?_)
  obtain ⟨wy, hwy⟩ : ∃ wy, wy = W2.drew := ⟨_, rfl⟩
  have KN : Hid (∀ W, Only (fun j => j = w.heap.size) wy W → W.cell? ⟨w.heap.size + 1, 0, none⟩ = some (.bool false) ∧ W.cell? ⟨w.heap.size + 1, 1, none⟩ = some (.slice none 0 0) ∧ W.cell? ⟨w.heap.size + 1, 2, none⟩ = some (.slice none 0 0)) := Lib.hid fun W hW => KN0.out W (((Only.refl _ _).drew : Only (fun j => j = w.heap.size) W2 W2.drew).trans (by rw [← hwy]; exact hW))
  have HSY : Hid (Blk wy w.heap.size 35 [.bool false, .slice none 0 0, .slice none 0 0]) := Lib.hid (by rw [hwy]; exact HI.out.drew)
  have HOS : Hid (Only (fun j => j = w.heap.size) wy (((wy.setCell ⟨w.heap.size, 0, none⟩ (.bool false)).setCell ⟨w.heap.size, 1, none⟩ (.slice none 0 0)).setCell ⟨w.heap.size, 2, none⟩ (.slice none 0 0))) := Lib.hid (nd_only (Only.refl _ _) rfl)
  have HOW : Hid (Only (fun j => j = w.heap.size) W2 (((wy.setCell ⟨w.heap.size, 0, none⟩ (.bool false)).setCell ⟨w.heap.size, 1, none⟩ (.slice none 0 0)).setCell ⟨w.heap.size, 2, none⟩ (.slice none 0 0))) := Lib.hid (((Only.refl _ _).drew : Only (fun j => j = w.heap.size) W2 W2.drew).trans (by rw [← hwy]; exact HOS.out))
  rw [← hwy] at hHeld
  rw [← hwy]
  clear hwy
  obtain ⟨s0, s1, s2⟩ := HSY.out.tri
  obtain ⟨z0, z1, z2⟩ := HSY.out.melt3
  refine oneA 0 22 hsel (h := ?_)
  simp only [Act.put, List.setIfInBounds_toArray, List.set_cons_zero, List.set_cons_succ]
  refine oneA 1 23 hsel (h := ?_)
  simp only [Act.put, List.setIfInBounds_toArray, List.set_cons_zero, List.set_cons_succ]
  refine oneA 2 2 hsel (h := ?_)
  simp only [Act.put, List.setIfInBounds_toArray, List.set_cons_zero, List.set_cons_succ]
  refine wpAnyL_ready (rs := [3]) (by kernel_rfl) (by kernel_rfl) (by simp) ?_
  refine AllReadyL.cons (o := ?_) ?_ (fun K hK => ?_) AllReadyL.nil
  case refine_2 => (simp only [List.getElem?_cons_succ, List.getElem?_cons_zero]; rfl)
  go_simp
  clear hHeld
  refine hK.out _ _ (KN.out _ HOS.out) (fun hHeld => ?_)
  clear hK K
  try simp only [List.set_cons_zero, List.set_cons_succ]
  refine oneA 4 4 hsel (h := ?_)
  simp only [Act.put, List.setIfInBounds_toArray, List.set_cons_zero, List.set_cons_succ]
  refine wpAnyL_done (by kernel_rfl) (by kernel_rfl) ?_ _
  clear hsel hHeld
  go_wp2
  refine bodyPost_ret (results_tct rfl rfl (rload_node (((HSY.out.set_ 0 _).set_ 1 _).set_ 2 _))) rfl ?_
  exact gaveD_bad (HO.out.trans (HOW.out.mono fun j hj => by rw [hj]; exact Nat.le_refl _)) HD.out HZ.out
set_option maxRecDepth 100000 in
set_option maxHeartbeats 3200000 in
theorem rd_kind (k g m x : Int) (h1 : k ≠ 76) (h2 : k ≠ 66) (hH : ∀ W, Only (w.heap.size ≤ ·) w W → Calls Tryz.prog 19 #[.slice A 256 c] W (Told W (.tuple #[.agg #[.int .i64 k, .int .i64 g, .int .i64 m, .int .i64 x], .int .i64 0]))) (hD : ¬ DecOk b) (hZ : (70 : Int) = if nhE b = 0 then 72 else nhE b) : Calls Tryz.prog 7 #[.slice A 256 c] w (GaveD w b) := by
  obtain ⟨W0, hW0⟩ : ∃ W0, W0 = (w.alloc (.cells #[.bool false, .slice none 0 0, .slice none 0 0] 35)).alloc (.cells #[.bool false, .slice none 0 0, .slice none 0 0] 35) := ⟨_, rfl⟩
  have HO : Hid (Only (w.heap.size ≤ ·) w W0) := Lib.hid (by rw [hW0]; exact ((Only.refl _ w).alloc (fun _ h => h) _).alloc (fun _ h => h) _)
  have HI : Hid (Blk W0 w.heap.size 35 [.bool false, .slice none 0 0, .slice none 0 0]) := Lib.hid (by rw [hW0]; exact (Blk.new w 35 _).alloc _)
  have HN : Hid (Blk W0 (w.heap.size + 1) 35 [.bool false, .slice none 0 0, .slice none 0 0]) := Lib.hid (by
    rw [hW0]
    have := Blk.new (w.alloc (.cells #[.bool false, .slice none 0 0, .slice none 0 0] 35)) 35 [.bool false, .slice none 0 0, .slice none 0 0]
    simpa using this)
  have HD := Lib.hid hD
  have HZ := Lib.hid hZ
  have HHO := Lib.hid hH
  have b1 : (k != 76) = true := by rw [bne_iff_ne]; exact h1
  have b2 : (k != 66) = true := by rw [bne_iff_ne]; exact h2
  clear h1 h2 hD hZ hH
  go_enter Tryz.func7, Tryz.ntmps7
  go_upto_region 1 with (fail)
  go_upto_region 2 with (fail)
  rw [← hW0]
  clear hW0
  go_upto_region 5 with (go_at_call 19; (with_reducible refine (HHO.out _ HO.out).mono ?_); rintro e w1 ⟨rfl, ho⟩; (replace HI := Lib.hid (HI.out.later ho)); (replace HN := Lib.hid (HN.out.later ho)); (replace HO := Lib.hid (on_new HO.out ho)); clear ho)
  have HBX : Hid (Blk (w1.alloc (.cells #[.int .i64 k, .int .i64 g, .int .i64 m, .int .i64 x] 55)) w1.heap.size 55 [.int .i64 k, .int .i64 g, .int .i64 m, .int .i64 x]) := Lib.hid (Blk.new w1 55 _)
  have HLT : Hid (w.heap.size + 1 < w1.heap.size) := Lib.hid HN.out.lt
  replace HI := Lib.hid (HI.out.alloc (.cells #[.int .i64 k, .int .i64 g, .int .i64 m, .int .i64 x] 55))
  replace HN := Lib.hid (HN.out.alloc (.cells #[.int .i64 k, .int .i64 g, .int .i64 m, .int .i64 x] 55))
  replace HO := Lib.hid (HO.out.alloc (fun _ h => h) (.cells #[.int .i64 k, .int .i64 g, .int .i64 m, .int .i64 x] 55))
  generalize hbl : w1.heap.size = bl at HBX HLT
  obtain ⟨W2, hW2⟩ : ∃ W2, W2 = w1.alloc (.cells #[.int .i64 k, .int .i64 g, .int .i64 m, .int .i64 x] 55) := ⟨_, rfl⟩
  rw [← hW2] at HBX HI HN HO
  rw [← hW2]
  clear hW2 hbl
  (obtain ⟨i0, i1, i2⟩ := HI.out.tri); (obtain ⟨f0, f1, f2⟩ := HI.out.melt3); (obtain ⟨n0, n1, n2⟩ := HN.out.tri)
  obtain ⟨b0, b1, b2, b3⟩ := HBX.out.four
  go_upto_region 8 with (fail)
  have KN0 : Hid (∀ W, Only (fun j => j = w.heap.size) W2 W → W.cell? ⟨w.heap.size + 1, 0, none⟩ = some (.bool false) ∧ W.cell? ⟨w.heap.size + 1, 1, none⟩ = some (.slice none 0 0) ∧ W.cell? ⟨w.heap.size + 1, 2, none⟩ = some (.slice none 0 0)) := Lib.hid fun W hW => (HN.out.only hW (by omega)).tri
  refine wp_region_list (B := [false, false, false, false]) (S := (fun W => W.cell? ⟨w.heap.size + 1, 0, none⟩ = some (.bool false) ∧ W.cell? ⟨w.heap.size + 1, 1, none⟩ = some (.slice none 0 0) ∧ W.cell? ⟨w.heap.size + 1, 2, none⟩ = some (.slice none 0 0))) (by kernel_rfl) (by kernel_rfl) (by kernel_rfl) (KN0.out _ (Only.refl _ _).drew) (fun hsel hHeld => ?_)
  obtain ⟨wy, hwy⟩ : ∃ wy, wy = W2.drew := ⟨_, rfl⟩
  have KN : Hid (∀ W, Only (fun j => j = w.heap.size) wy W → W.cell? ⟨w.heap.size + 1, 0, none⟩ = some (.bool false) ∧ W.cell? ⟨w.heap.size + 1, 1, none⟩ = some (.slice none 0 0) ∧ W.cell? ⟨w.heap.size + 1, 2, none⟩ = some (.slice none 0 0)) := Lib.hid fun W hW => KN0.out W (((Only.refl _ _).drew : Only (fun j => j = w.heap.size) W2 W2.drew).trans (by rw [← hwy]; exact hW))
  have HSY : Hid (Blk wy w.heap.size 35 [.bool false, .slice none 0 0, .slice none 0 0]) := Lib.hid (by rw [hwy]; exact HI.out.drew)
  have HOS : Hid (Only (fun j => j = w.heap.size) wy (((wy.setCell ⟨w.heap.size, 0, none⟩ (.bool false)).setCell ⟨w.heap.size, 1, none⟩ (.slice none 0 0)).setCell ⟨w.heap.size, 2, none⟩ (.slice none 0 0))) := Lib.hid (nd_only (Only.refl _ _) rfl)
  have HOW : Hid (Only (fun j => j = w.heap.size) W2 (((wy.setCell ⟨w.heap.size, 0, none⟩ (.bool false)).setCell ⟨w.heap.size, 1, none⟩ (.slice none 0 0)).setCell ⟨w.heap.size, 2, none⟩ (.slice none 0 0))) := Lib.hid (((Only.refl _ _).drew : Only (fun j => j = w.heap.size) W2 W2.drew).trans (by rw [← hwy]; exact HOS.out))
  rw [← hwy] at hHeld
  rw [← hwy]
  clear hwy
  obtain ⟨s0, s1, s2⟩ := HSY.out.tri
  obtain ⟨z0, z1, z2⟩ := HSY.out.melt3
  refine oneA 0 32 hsel (h := ?_)
  simp only [Act.put, List.setIfInBounds_toArray, List.set_cons_zero, List.set_cons_succ]
  refine oneA 1 2 hsel (h := ?_)
  simp only [Act.put, List.setIfInBounds_toArray, List.set_cons_zero, List.set_cons_succ]
  refine wpAnyL_ready (rs := [2]) (by kernel_rfl) (by kernel_rfl) (by simp) ?_
  refine AllReadyL.cons (o := ?_) ?_ (fun K hK => ?_) AllReadyL.nil
  case refine_2 => (simp only [List.getElem?_cons_succ, List.getElem?_cons_zero]; rfl)
  go_simp
  clear hHeld
  refine hK.out _ _ (KN.out _ HOS.out) (fun hHeld => ?_)
  clear hK K
  try simp only [List.set_cons_zero, List.set_cons_succ]
  refine oneA 3 4 hsel (h := ?_)
  simp only [Act.put, List.setIfInBounds_toArray, List.set_cons_zero, List.set_cons_succ]
  refine wpAnyL_done (by kernel_rfl) (by kernel_rfl) ?_ _
  clear hsel hHeld
  go_wp2
  refine bodyPost_ret (results_tct rfl rfl (rload_node (((HSY.out.set_ 0 _).set_ 1 _).set_ 2 _))) rfl ?_
  exact gaveD_bad (HO.out.trans (HOW.out.mono fun j hj => by rw [hj]; exact Nat.le_refl _)) HD.out HZ.out
set_option maxRecDepth 100000 in
set_option maxHeartbeats 6400000 in
theorem rd_sum (k g m x : Int) (SB : Bytes) (hk : k = 76 ∨ k = 66) (hg : 1 < g) (hS : SB ≠ b) (hH : ∀ W, Only (w.heap.size ≤ ·) w W → Calls Tryz.prog 19 #[.slice A 256 c] W (Told W (.tuple #[.agg #[.int .i64 k, .int .i64 g, .int .i64 m, .int .i64 x], .int .i64 0])))
    (hL : ∀ W, Only (w.heap.size ≤ ·) w W → Calls Tryz.prog 20 #[.slice A 256 c, .int .i64 4] W (GaveB W SB)) (hs : ∀ W, Only (w.heap.size ≤ ·) w W → Src W (.slice A 256 c) b) (hD : ¬ DecOk b) (hZ : (71 : Int) = if nhE b = 0 then 72 else nhE b) : Calls Tryz.prog 7 #[.slice A 256 c] w (GaveD w b) := by
  obtain ⟨W0, hW0⟩ : ∃ W0, W0 = (w.alloc (.cells #[.bool false, .slice none 0 0, .slice none 0 0] 35)).alloc (.cells #[.bool false, .slice none 0 0, .slice none 0 0] 35) := ⟨_, rfl⟩
  have HO : Hid (Only (w.heap.size ≤ ·) w W0) := Lib.hid (by rw [hW0]; exact ((Only.refl _ w).alloc (fun _ h => h) _).alloc (fun _ h => h) _)
  have HI : Hid (Blk W0 w.heap.size 35 [.bool false, .slice none 0 0, .slice none 0 0]) := Lib.hid (by rw [hW0]; exact (Blk.new w 35 _).alloc _)
  have HN : Hid (Blk W0 (w.heap.size + 1) 35 [.bool false, .slice none 0 0, .slice none 0 0]) := Lib.hid (by
    rw [hW0]
    have := Blk.new (w.alloc (.cells #[.bool false, .slice none 0 0, .slice none 0 0] 35)) 35 [.bool false, .slice none 0 0, .slice none 0 0]
    simpa using this)
  have HD := Lib.hid hD
  have HZ := Lib.hid hZ
  have HHO := Lib.hid hH
  have HSL := Lib.hid hL
  have HSS := Lib.hid hs
  have HNE := Lib.hid hS
  have hgb : decide (1 < g) = true := decide_eq_true hg
  clear hD hZ hH hL hs hS
  go_enter Tryz.func7, Tryz.ntmps7
  go_upto_region 1 with (fail)
  go_upto_region 2 with (fail)
  rw [← hW0]
  clear hW0
  go_upto_region 5 with (go_at_call 19; (with_reducible refine (HHO.out _ HO.out).mono ?_); rintro e w1 ⟨rfl, ho⟩; (replace HI := Lib.hid (HI.out.later ho)); (replace HN := Lib.hid (HN.out.later ho)); (replace HO := Lib.hid (on_new HO.out ho)); clear ho)
  have HBX : Hid (Blk (w1.alloc (.cells #[.int .i64 k, .int .i64 g, .int .i64 m, .int .i64 x] 55)) w1.heap.size 55 [.int .i64 k, .int .i64 g, .int .i64 m, .int .i64 x]) := Lib.hid (Blk.new w1 55 _)
  have HLT : Hid (w.heap.size + 1 < w1.heap.size) := Lib.hid HN.out.lt
  replace HI := Lib.hid (HI.out.alloc (.cells #[.int .i64 k, .int .i64 g, .int .i64 m, .int .i64 x] 55))
  replace HN := Lib.hid (HN.out.alloc (.cells #[.int .i64 k, .int .i64 g, .int .i64 m, .int .i64 x] 55))
  replace HO := Lib.hid (HO.out.alloc (fun _ h => h) (.cells #[.int .i64 k, .int .i64 g, .int .i64 m, .int .i64 x] 55))
  generalize hbl : w1.heap.size = bl at HBX HLT
  obtain ⟨W2, hW2⟩ : ∃ W2, W2 = w1.alloc (.cells #[.int .i64 k, .int .i64 g, .int .i64 m, .int .i64 x] 55) := ⟨_, rfl⟩
  rw [← hW2] at HBX HI HN HO
  rw [← hW2]
  clear hW2 hbl
  obtain ⟨b0, b1, b2, b3⟩ := HBX.out.four
  have HB2 : Hid ((SB == b) = false) := Lib.hid (by rw [beq_eq_false_iff_ne]; exact HNE.out)
  rcases hk with rfl | rfl
  · go_upto_region 10 with (go_at_call 20; (with_reducible refine (HSL.out _ HO.out).mono ?_); rintro e w3 ⟨sv, rfl, hsv, ho⟩; have HSV := Lib.hid hsv; (replace HI := Lib.hid (HI.out.later ho)); (replace HN := Lib.hid (HN.out.later ho)); (replace HBX := Lib.hid (HBX.out.later ho)); (replace HO := Lib.hid (on_new HO.out ho)); clear ho hsv b0 b1 b2 b3; (obtain ⟨b0, b1, b2, b3⟩ := HBX.out.four))
    have k1 := convert_src HSV.out
    have k2 := convert_src (HSS.out _ HO.out)
    have k3 := HB2.out
    go_upto_region 11 with (fail)
    have KN0 : Hid (∀ W, Only (fun j => j = w.heap.size) w3 W → W.cell? ⟨w.heap.size + 1, 0, none⟩ = some (.bool false) ∧ W.cell? ⟨w.heap.size + 1, 1, none⟩ = some (.slice none 0 0) ∧ W.cell? ⟨w.heap.size + 1, 2, none⟩ = some (.slice none 0 0)) := Lib.hid fun W hW => (HN.out.only hW (by omega)).tri
    refine wp_region_list (B := [false, false, false, false]) (S := (fun W => W.cell? ⟨w.heap.size + 1, 0, none⟩ = some (.bool false) ∧ W.cell? ⟨w.heap.size + 1, 1, none⟩ = some (.slice none 0 0) ∧ W.cell? ⟨w.heap.size + 1, 2, none⟩ = some (.slice none 0 0))) (by kernel_rfl) (by kernel_rfl) (by kernel_rfl) (KN0.out _ (Only.refl _ _).drew) (fun hsel hHeld => ?_)
    obtain ⟨wy, hwy⟩ : ∃ wy, wy = w3.drew := ⟨_, rfl⟩
    have KN : Hid (∀ W, Only (fun j => j = w.heap.size) wy W → W.cell? ⟨w.heap.size + 1, 0, none⟩ = some (.bool false) ∧ W.cell? ⟨w.heap.size + 1, 1, none⟩ = some (.slice none 0 0) ∧ W.cell? ⟨w.heap.size + 1, 2, none⟩ = some (.slice none 0 0)) := Lib.hid fun W hW => KN0.out W (((Only.refl _ _).drew : Only (fun j => j = w.heap.size) w3 w3.drew).trans (by rw [← hwy]; exact hW))
    have HSY : Hid (Blk wy w.heap.size 35 [.bool false, .slice none 0 0, .slice none 0 0]) := Lib.hid (by rw [hwy]; exact HI.out.drew)
    have HOS : Hid (Only (fun j => j = w.heap.size) wy (((wy.setCell ⟨w.heap.size, 0, none⟩ (.bool false)).setCell ⟨w.heap.size, 1, none⟩ (.slice none 0 0)).setCell ⟨w.heap.size, 2, none⟩ (.slice none 0 0))) := Lib.hid (nd_only (Only.refl _ _) rfl)
    have HOW : Hid (Only (fun j => j = w.heap.size) w3 (((wy.setCell ⟨w.heap.size, 0, none⟩ (.bool false)).setCell ⟨w.heap.size, 1, none⟩ (.slice none 0 0)).setCell ⟨w.heap.size, 2, none⟩ (.slice none 0 0))) := Lib.hid (((Only.refl _ _).drew : Only (fun j => j = w.heap.size) w3 w3.drew).trans (by rw [← hwy]; exact HOS.out))
    rw [← hwy] at hHeld
    rw [← hwy]
    clear hwy
    obtain ⟨s0, s1, s2⟩ := HSY.out.tri
    obtain ⟨z0, z1, z2⟩ := HSY.out.melt3
    refine oneA 0 45 hsel (h := ?_)
    simp only [Act.put, List.setIfInBounds_toArray, List.set_cons_zero, List.set_cons_succ]
    refine oneA 1 2 hsel (h := ?_)
    simp only [Act.put, List.setIfInBounds_toArray, List.set_cons_zero, List.set_cons_succ]
    refine wpAnyL_ready (rs := [2]) (by kernel_rfl) (by kernel_rfl) (by simp) ?_
    refine AllReadyL.cons (o := ?_) ?_ (fun K hK => ?_) AllReadyL.nil
    case refine_2 => (simp only [List.getElem?_cons_succ, List.getElem?_cons_zero]; rfl)
    go_simp
    clear hHeld
    refine hK.out _ _ (KN.out _ HOS.out) (fun hHeld => ?_)
    clear hK K
    try simp only [List.set_cons_zero, List.set_cons_succ]
    refine oneA 3 4 hsel (h := ?_)
    simp only [Act.put, List.setIfInBounds_toArray, List.set_cons_zero, List.set_cons_succ]
    refine wpAnyL_done (by kernel_rfl) (by kernel_rfl) ?_ _
    clear hsel hHeld
    go_wp2
    refine bodyPost_ret (results_tct rfl rfl (rload_node (((HSY.out.set_ 0 _).set_ 1 _).set_ 2 _))) rfl ?_
    exact gaveD_bad (HO.out.trans (HOW.out.mono fun j hj => by rw [hj]; exact Nat.le_refl _)) HD.out HZ.out
  · go_upto_region 10 with (go_at_call 20; (with_reducible refine (HSL.out _ HO.out).mono ?_); rintro e w3 ⟨sv, rfl, hsv, ho⟩; have HSV := Lib.hid hsv; (replace HI := Lib.hid (HI.out.later ho)); (replace HN := Lib.hid (HN.out.later ho)); (replace HBX := Lib.hid (HBX.out.later ho)); (replace HO := Lib.hid (on_new HO.out ho)); clear ho hsv b0 b1 b2 b3; (obtain ⟨b0, b1, b2, b3⟩ := HBX.out.four))
    have k1 := convert_src HSV.out
    have k2 := convert_src (HSS.out _ HO.out)
    have k3 := HB2.out
    go_upto_region 11 with (fail)
    have KN0 : Hid (∀ W, Only (fun j => j = w.heap.size) w3 W → W.cell? ⟨w.heap.size + 1, 0, none⟩ = some (.bool false) ∧ W.cell? ⟨w.heap.size + 1, 1, none⟩ = some (.slice none 0 0) ∧ W.cell? ⟨w.heap.size + 1, 2, none⟩ = some (.slice none 0 0)) := Lib.hid fun W hW => (HN.out.only hW (by omega)).tri
    refine wp_region_list (B := [false, false, false, false]) (S := (fun W => W.cell? ⟨w.heap.size + 1, 0, none⟩ = some (.bool false) ∧ W.cell? ⟨w.heap.size + 1, 1, none⟩ = some (.slice none 0 0) ∧ W.cell? ⟨w.heap.size + 1, 2, none⟩ = some (.slice none 0 0))) (by kernel_rfl) (by kernel_rfl) (by kernel_rfl) (KN0.out _ (Only.refl _ _).drew) (fun hsel hHeld => ?_)
    obtain ⟨wy, hwy⟩ : ∃ wy, wy = w3.drew := ⟨_, rfl⟩
    have KN : Hid (∀ W, Only (fun j => j = w.heap.size) wy W → W.cell? ⟨w.heap.size + 1, 0, none⟩ = some (.bool false) ∧ W.cell? ⟨w.heap.size + 1, 1, none⟩ = some (.slice none 0 0) ∧ W.cell? ⟨w.heap.size + 1, 2, none⟩ = some (.slice none 0 0)) := Lib.hid fun W hW => KN0.out W (((Only.refl _ _).drew : Only (fun j => j = w.heap.size) w3 w3.drew).trans (by rw [← hwy]; exact hW))
    have HSY : Hid (Blk wy w.heap.size 35 [.bool false, .slice none 0 0, .slice none 0 0]) := Lib.hid (by rw [hwy]; exact HI.out.drew)
    have HOS : Hid (Only (fun j => j = w.heap.size) wy (((wy.setCell ⟨w.heap.size, 0, none⟩ (.bool false)).setCell ⟨w.heap.size, 1, none⟩ (.slice none 0 0)).setCell ⟨w.heap.size, 2, none⟩ (.slice none 0 0))) := Lib.hid (nd_only (Only.refl _ _) rfl)
    have HOW : Hid (Only (fun j => j = w.heap.size) w3 (((wy.setCell ⟨w.heap.size, 0, none⟩ (.bool false)).setCell ⟨w.heap.size, 1, none⟩ (.slice none 0 0)).setCell ⟨w.heap.size, 2, none⟩ (.slice none 0 0))) := Lib.hid (((Only.refl _ _).drew : Only (fun j => j = w.heap.size) w3 w3.drew).trans (by rw [← hwy]; exact HOS.out))
    rw [← hwy] at hHeld
    rw [← hwy]
    clear hwy
    obtain ⟨s0, s1, s2⟩ := HSY.out.tri
    obtain ⟨z0, z1, z2⟩ := HSY.out.melt3
    refine oneA 0 45 hsel (h := ?_)
    simp only [Act.put, List.setIfInBounds_toArray, List.set_cons_zero, List.set_cons_succ]
    refine oneA 1 2 hsel (h := ?_)
    simp only [Act.put, List.setIfInBounds_toArray, List.set_cons_zero, List.set_cons_succ]
    refine wpAnyL_ready (rs := [2]) (by kernel_rfl) (by kernel_rfl) (by simp) ?_
    refine AllReadyL.cons (o := ?_) ?_ (fun K hK => ?_) AllReadyL.nil
    case refine_2 => (simp only [List.getElem?_cons_succ, List.getElem?_cons_zero]; rfl)
    go_simp
    clear hHeld
    refine hK.out _ _ (KN.out _ HOS.out) (fun hHeld => ?_)
    clear hK K
    try simp only [List.set_cons_zero, List.set_cons_succ]
    refine oneA 3 4 hsel (h := ?_)
    simp only [Act.put, List.setIfInBounds_toArray, List.set_cons_zero, List.set_cons_succ]
    refine wpAnyL_done (by kernel_rfl) (by kernel_rfl) ?_ _
    clear hsel hHeld
    go_wp2
    refine bodyPost_ret (results_tct rfl rfl (rload_node (((HSY.out.set_ 0 _).set_ 1 _).set_ 2 _))) rfl ?_
    exact gaveD_bad (HO.out.trans (HOW.out.mono fun j hj => by rw [hj]; exact Nat.le_refl _)) HD.out HZ.out
end

set_option maxRecDepth 100000 in
set_option maxHeartbeats 12800000 in
theorem rd_go1L (w : World) (bb o c : Nat) (b body SB : Bytes) (x : Int) (m : Nat) (P : Nd → Prop) (hc : 256 ≤ c) 
    (hH : ∀ W, Only (w.heap.size ≤ ·) w W → Calls Tryz.prog 19 #[.slice (some ⟨bb, o, none⟩) 256 c] W (Told W (.tuple #[.agg #[.int .i64 76, .int .i64 1, .int .i64 (m : Nat), .int .i64 x], .int .i64 0])))
    (hL : ∀ W, Only (w.heap.size ≤ ·) w W → Calls Tryz.prog 20 #[.slice (some ⟨bb, o, none⟩) 256 c, .int .i64 4] W (GaveB W SB)) (hs : ∀ W, Only (w.heap.size ≤ ·) w W → Src W (.slice (some ⟨bb, o, none⟩) 256 c) b)
    (hC : ∀ W, Calls Tryz.prog 22 #[.int .i64 1] W fun e w' => e = .returned (.int .i64 248) ∧ W = w') (hB : ∀ W, Only (w.heap.size ≤ ·) w W → Src W (.slice (some ⟨bb, o + 8, none⟩) (256 - 8) (c - 8)) body)
    (hF : ∀ W u, Only (w.heap.size ≤ ·) w W → Src W u body → Calls Tryz.prog 21 #[.agg #[.int .i64 76, .int .i64 1, .int .i64 (m : Nat), .int .i64 x], u] W (GaveFm W P))
    (hE : nhE b = 0) (hgE : (1 : Int) = (hdG b : Nat)) (hPy : ∀ y, P y → DecOk b ∧ y = dcN b) (hPn : DecOk b → ∃ y, P y) :
    Calls Tryz.prog 7 #[.slice (some ⟨bb, o, none⟩) 256 c] w (GaveD w b) := by
  obtain ⟨W0, hW0⟩ : ∃ W0, W0 = (w.alloc (.cells #[.bool false, .slice none 0 0, .slice none 0 0] 35)).alloc (.cells #[.bool false, .slice none 0 0, .slice none 0 0] 35) := ⟨_, rfl⟩
  have HO : Hid (Only (w.heap.size ≤ ·) w W0) := Lib.hid (by rw [hW0]; exact ((Only.refl _ w).alloc (fun _ h => h) _).alloc (fun _ h => h) _)
  have HI : Hid (Blk W0 w.heap.size 35 [.bool false, .slice none 0 0, .slice none 0 0]) := Lib.hid (by rw [hW0]; exact (Blk.new w 35 _).alloc _)
  have HN : Hid (Blk W0 (w.heap.size + 1) 35 [.bool false, .slice none 0 0, .slice none 0 0]) := Lib.hid (by
    rw [hW0]
    have := Blk.new (w.alloc (.cells #[.bool false, .slice none 0 0, .slice none 0 0] 35)) 35 [.bool false, .slice none 0 0, .slice none 0 0]
    simpa using this)
  have HHO := Lib.hid hH
  have HSL := Lib.hid hL
  have HSS := Lib.hid hs
  have HCP := Lib.hid hC
  have HBD := Lib.hid hB
  have HFO := Lib.hid hF
  have HPP := Lib.hid (And.intro hPy hPn)
  have HE := Lib.hid hE
  have HGE := Lib.hid hgE
  have y1 : (256 : Int) ≤ (c : Int) := by omega
  have y2 : ¬ c = 8 := by omega
  have y3 : 8 ≤ c := by omega
  clear hH hL hs hC hB hF hE hgE hPy hPn hc
  go_enter Tryz.func7, Tryz.ntmps7
  go_upto_region 1 with (fail)
  go_upto_region 2 with (fail)
  rw [← hW0]
  clear hW0
  go_upto_region 5 with (go_at_call 19; (with_reducible refine (HHO.out _ HO.out).mono ?_); rintro e w1 ⟨rfl, ho⟩; (replace HI := Lib.hid (HI.out.later ho)); (replace HN := Lib.hid (HN.out.later ho)); (replace HO := Lib.hid (on_new HO.out ho)); clear ho)
  have HBX : Hid (Blk (w1.alloc (.cells #[.int .i64 76, .int .i64 1, .int .i64 (m : Nat), .int .i64 x] 55)) w1.heap.size 55 [.int .i64 76, .int .i64 1, .int .i64 (m : Nat), .int .i64 x]) := Lib.hid (Blk.new w1 55 _)
  have HLT : Hid (w.heap.size + 1 < w1.heap.size) := Lib.hid HN.out.lt
  replace HI := Lib.hid (HI.out.alloc (.cells #[.int .i64 76, .int .i64 1, .int .i64 (m : Nat), .int .i64 x] 55))
  replace HN := Lib.hid (HN.out.alloc (.cells #[.int .i64 76, .int .i64 1, .int .i64 (m : Nat), .int .i64 x] 55))
  replace HO := Lib.hid (HO.out.alloc (fun _ h => h) (.cells #[.int .i64 76, .int .i64 1, .int .i64 (m : Nat), .int .i64 x] 55))
  generalize hbl : w1.heap.size = bl at HBX HLT
  obtain ⟨W2, hW2⟩ : ∃ W2, W2 = w1.alloc (.cells #[.int .i64 76, .int .i64 1, .int .i64 (m : Nat), .int .i64 x] 55) := ⟨_, rfl⟩
  rw [← hW2] at HBX HI HN HO
  rw [← hW2]
  clear hW2 hbl
  obtain ⟨b0, b1, b2, b3⟩ := HBX.out.four
  have hcut : True := trivial
  go_upto_region 12 with (go_at_call 20; (with_reducible refine (HSL.out _ HO.out).mono ?_); rintro e w3 ⟨sv, rfl, hsv, ho⟩; have HSV := Lib.hid hsv; (replace HI := Lib.hid (HI.out.later ho)); (replace HN := Lib.hid (HN.out.later ho)); (replace HBX := Lib.hid (HBX.out.later ho)); (replace HO := Lib.hid (on_new HO.out ho)); clear ho hsv b0 b1 b2 b3; (obtain ⟨b0, b1, b2, b3⟩ := HBX.out.four))
  obtain ⟨w4, hw4⟩ : ∃ x, x = w3 := ⟨_, rfl⟩
  subst hw4
  clear b0 b1 b2 b3
  have HO4 := Lib.hid HO.out
  have KC : Hid (∀ W, Only (w4.heap.size ≤ ·) w4 W → W.cell? ⟨bl, 0, none⟩ = some (.int .i64 76) ∧ W.cell? ⟨bl, 1, none⟩ = some (.int .i64 1) ∧ W.cell? ⟨bl, 2, none⟩ = some (.int .i64 (m : Nat)) ∧ W.cell? ⟨bl, 3, none⟩ = some (.int .i64 x)) := Lib.hid fun W hW => (HBX.out.later hW).four
  have HLC : Hid (Only (w4.heap.size ≤ ·) w4 w4.drew) := Lib.hid (Only.refl _ w4).drew
  go_cut [9, 10] from 46 to 56 (fun y bv wz => ∃ (nb : Nat) (ok f : Bool) (A : Option Addr) (n c : Nat) (B : Option Addr) (m d : Nat), y = .pointer (some ⟨nb, 0, none⟩) ∧ bv = .bool ok ∧ Hid (Blk wz nb 35 [.bool f, .slice A n c, .slice B m d]) ∧ Hid (ok = true → ∃ y, P y ∧ Nod wz y f (.slice A n c) (.slice B m d)) ∧ Hid ((∃ y, P y) → ok = true) ∧ Hid (Only (w4.heap.size ≤ ·) w4 wz) ∧ Hid (w4.heap.size ≤ nb))
  case first =>
    refine wp_region_list (B := [false, false, false, false, false, false, false, false, false, false, false, false, false, false]) (S := (fun W => W.cell? ⟨bl, 0, none⟩ = some (.int .i64 76) ∧ W.cell? ⟨bl, 1, none⟩ = some (.int .i64 1) ∧ W.cell? ⟨bl, 2, none⟩ = some (.int .i64 (m : Nat)) ∧ W.cell? ⟨bl, 3, none⟩ = some (.int .i64 x))) (by kernel_rfl) (by kernel_rfl) (by kernel_rfl) (KC.out _ HLC.out) (fun hsel hHeld => ?_)
    obtain ⟨wx, hwx⟩ : ∃ wx, wx = w4.drew := ⟨_, rfl⟩
    rw [← hwx] at HLC hHeld
    rw [← hwx]
    clear hwx
    refine oneA 0 47 hsel (h := ?_)
    simp only [Act.put, List.setIfInBounds_toArray, List.set_cons_zero, List.set_cons_succ]
    refine oneA 1 48 hsel (h := ?_)
    simp only [Act.put, List.setIfInBounds_toArray, List.set_cons_zero, List.set_cons_succ]
    refine oneA 2 49 hsel (h := ?_)
    simp only [Act.put, List.setIfInBounds_toArray, List.set_cons_zero, List.set_cons_succ]
    refine oneA 3 50 hsel (h := ?_)
    simp only [Act.put, List.setIfInBounds_toArray, List.set_cons_zero, List.set_cons_succ]
    refine wpAnyL_ready (rs := [4, 11]) (by kernel_rfl) (by kernel_rfl) (by simp) ?_
    refine AllReadyL.cons (o := ?_) ?_ (fun K hK => ?_) (AllReadyL.cons (o := ?_) ?_ (fun K hK => ?_) AllReadyL.nil)
    case refine_2 => (simp only [List.getElem?_cons_succ, List.getElem?_cons_zero]; rfl)
    case refine_5 => (simp only [List.getElem?_cons_succ, List.getElem?_cons_zero]; rfl)
    case refine_3 =>
      go_simp
      (go_at_call 22; (with_reducible refine (HCP.out _).mono ?_); rintro ee w' ⟨rfl, rfl⟩)
      go_wp2_with (fail)
      clear hHeld
      refine hK.out _ _ (KC.out _ HLC.out) (fun hHeld => ?_)
      clear hK K
      try simp only [List.set_cons_zero, List.set_cons_succ]
      refine take_oneL (i := 5) (d := 52) (oi := ?_) (v := ?_) ?_ hsel (by kernel_rfl) (by kernel_rfl) (fun _ _ _ h => h) ?_ ?_ ?_ (by assumption) ?_
      case refine_3 => (simp only [List.getElem?_cons_succ, List.getElem?_cons_zero]; rfl)
      case refine_4 => rfl
      case refine_5 => rfl
      case refine_6 => (intro w' hSw; (try dsimp only at hSw); go_simp; exact (rfl : Value.int IntKind.i64 8 = _))
      simp only [Act.put, List.setIfInBounds_toArray, List.set_cons_zero, List.set_cons_succ]
      refine oneA 6 53 hsel (h := ?_)
      simp only [Act.put, List.setIfInBounds_toArray, List.set_cons_zero, List.set_cons_succ]
      refine wpAnyL_ready (rs := [7, 11]) (by kernel_rfl) (by kernel_rfl) (by simp) ?_
      refine AllReadyL.cons (o := ?_) ?_ (fun K hK => ?_) (AllReadyL.cons (o := ?_) ?_ (fun K hK => ?_) AllReadyL.nil)
      case refine_2 => (simp only [List.getElem?_cons_succ, List.getElem?_cons_zero]; rfl)
      case refine_5 => (simp only [List.getElem?_cons_succ, List.getElem?_cons_zero]; rfl)
      case refine_3 =>
        go_simp
        (go_at_call 21; (with_reducible refine (HFO.out _ _ (on_new HO4.out HLC.out) (HBD.out _ (on_new HO4.out HLC.out))).mono ?_); rintro ee w6 ⟨ho, ok, f, A2, n2, c2, B2, m2, d2, rfl, hy, hn⟩; have HY := Lib.hid hy; have HNO := Lib.hid hn; (replace HLC := Lib.hid (on_new HLC.out ho)); clear hy hn ho)
        go_wp2_with (fail)
        clear hHeld
        refine hK.out _ _ (KC.out _ HLC.out) (fun hHeld => ?_)
        clear hK K
        try simp only [List.set_cons_zero, List.set_cons_succ]
        refine oneA 8 46 hsel (h := ?_)
        simp only [Act.put, List.setIfInBounds_toArray, List.set_cons_zero, List.set_cons_succ]
        refine oneA 9 55 hsel (h := ?_)
        simp only [Act.put, List.setIfInBounds_toArray, List.set_cons_zero, List.set_cons_succ]
        refine oneA 10 56 hsel (h := ?_)
        simp only [Act.put, List.setIfInBounds_toArray, List.set_cons_zero, List.set_cons_succ]
        refine wpAnyL_ready (rs := [11]) (by kernel_rfl) (by kernel_rfl) (by simp) ?_
        refine AllReadyL.cons (o := ?_) ?_ (fun K hK => ?_) AllReadyL.nil
        case refine_2 => (simp only [List.getElem?_cons_succ, List.getElem?_cons_zero]; rfl)
        go_simp
        have HBA : Hid (Blk (w6.alloc (.cells #[.bool false, .slice none 0 0, .slice none 0 0] 35)) w6.heap.size 35 [.bool false, .slice none 0 0, .slice none 0 0]) := Lib.hid (Blk.new w6 35 _)
        have HAL : Hid (Only (w6.heap.size ≤ ·) w6 (w6.alloc (.cells #[.bool false, .slice none 0 0, .slice none 0 0] 35))) := Lib.hid ((Only.refl _ _).alloc (fun _ h => h) _)
        have HLP := Lib.hid HLC.out
        have HSZ : Hid (w4.heap.size ≤ w6.heap.size) := Lib.hid HLC.out.size
        replace HLC : Hid (Only (w4.heap.size ≤ ·) w4 (w6.alloc (.cells #[.bool false, .slice none 0 0, .slice none 0 0] 35))) := Lib.hid (HLC.out.alloc (fun _ h => h) _)
        obtain ⟨a0, a1, a2⟩ := HBA.out.tri
        obtain ⟨e0, e1, e2⟩ := HBA.out.melt3
        clear hHeld
        refine hK.out _ _ (KC.out _ HLC.out) (fun hHeld => ?_)
        clear hK K
        try simp only [List.set_cons_zero, List.set_cons_succ]
        refine wpAnyL_ready (rs := [12]) (by kernel_rfl) (by kernel_rfl) (by simp) ?_
        refine AllReadyL.cons (o := ?_) ?_ (fun K hK => ?_) AllReadyL.nil
        case refine_2 => (simp only [List.getElem?_cons_succ, List.getElem?_cons_zero]; rfl)
        have HLF : Hid (Only (w4.heap.size ≤ ·) w4 (w6.alloc (.cells #[.bool f, .slice A2 n2 c2, .slice B2 m2 d2] 35))) := Lib.hid (HLP.out.alloc (fun _ h => h) _)
        go_simp
        clear hHeld
        refine hK.out _ _ (KC.out _ HLF.out) (fun hHeld => ?_)
        clear hK K
        try simp only [List.set_cons_zero, List.set_cons_succ]
        refine oneA 13 10 hsel (h := ?_)
        simp only [Act.put, List.setIfInBounds_toArray, List.set_cons_zero, List.set_cons_succ]
        refine wpAnyL_done (by kernel_rfl) (by kernel_rfl) ?_ _
        clear hsel hHeld
        go_wp2_with (fail)
        go_meet
        exact ⟨_, ok, f, A2, n2, c2, B2, m2, d2, rfl, rfl, Lib.hid (Blk.new w6 35 _), Lib.hid (fun h => by obtain ⟨y, h1, h2⟩ := HY.out h; exact ⟨y, h1, h2.later ((Only.refl _ _).alloc (fun _ h => h) _)⟩), HNO, HLF, HSZ⟩
      case refine_6 =>
        go_simp
        have HBA : Hid (Blk (wx.alloc (.cells #[.bool false, .slice none 0 0, .slice none 0 0] 35)) wx.heap.size 35 [.bool false, .slice none 0 0, .slice none 0 0]) := Lib.hid (Blk.new wx 35 _)
        have HAL : Hid (Only (wx.heap.size ≤ ·) wx (wx.alloc (.cells #[.bool false, .slice none 0 0, .slice none 0 0] 35))) := Lib.hid ((Only.refl _ _).alloc (fun _ h => h) _)
        have HLP := Lib.hid HLC.out
        have HSZ : Hid (w4.heap.size ≤ wx.heap.size) := Lib.hid HLC.out.size
        replace HLC : Hid (Only (w4.heap.size ≤ ·) w4 (wx.alloc (.cells #[.bool false, .slice none 0 0, .slice none 0 0] 35))) := Lib.hid (HLC.out.alloc (fun _ h => h) _)
        clear hHeld
        refine hK.out _ _ (KC.out _ HLC.out) (fun hHeld => ?_)
        clear hK K
        try simp only [List.set_cons_zero, List.set_cons_succ]
        refine wpAnyL_ready (rs := [7]) (by kernel_rfl) (by kernel_rfl) (by simp) ?_
        refine AllReadyL.cons (o := ?_) ?_ (fun K hK => ?_) AllReadyL.nil
        case refine_2 => (simp only [List.getElem?_cons_succ, List.getElem?_cons_zero]; rfl)
        go_simp
        (go_at_call 21; (with_reducible refine (HFO.out _ _ (on_new HO4.out HLC.out) (HBD.out _ (on_new HO4.out HLC.out))).mono ?_); rintro ee w6 ⟨ho, ok, f, A2, n2, c2, B2, m2, d2, rfl, hy, hn⟩; have HY := Lib.hid hy; have HNO := Lib.hid hn; (replace HBA := Lib.hid (HBA.out.later ho)); (obtain ⟨a0, a1, a2⟩ := HBA.out.tri); (obtain ⟨e0, e1, e2⟩ := HBA.out.melt3); (replace HLC := Lib.hid (on_new HLC.out ho)); clear hy hn ho)
        go_wp2_with (fail)
        clear hHeld
        refine hK.out _ _ (KC.out _ HLC.out) (fun hHeld => ?_)
        clear hK K
        try simp only [List.set_cons_zero, List.set_cons_succ]
        refine oneA 8 46 hsel (h := ?_)
        simp only [Act.put, List.setIfInBounds_toArray, List.set_cons_zero, List.set_cons_succ]
        refine oneA 9 55 hsel (h := ?_)
        simp only [Act.put, List.setIfInBounds_toArray, List.set_cons_zero, List.set_cons_succ]
        refine oneA 10 56 hsel (h := ?_)
        simp only [Act.put, List.setIfInBounds_toArray, List.set_cons_zero, List.set_cons_succ]
        refine wpAnyL_ready (rs := [12]) (by kernel_rfl) (by kernel_rfl) (by simp) ?_
        refine AllReadyL.cons (o := ?_) ?_ (fun K hK => ?_) AllReadyL.nil
        case refine_2 => (simp only [List.getElem?_cons_succ, List.getElem?_cons_zero]; rfl)
        have HLF : Hid (Only (w4.heap.size ≤ ·) w4 (((w6.setCell ⟨wx.heap.size, 0, none⟩ (.bool f)).setCell ⟨wx.heap.size, 1, none⟩ (.slice A2 n2 c2)).setCell ⟨wx.heap.size, 2, none⟩ (.slice B2 m2 d2))) := Lib.hid (nd_only HLC.out HSZ.out)
        go_simp
        clear hHeld
        refine hK.out _ _ (KC.out _ HLF.out) (fun hHeld => ?_)
        clear hK K
        try simp only [List.set_cons_zero, List.set_cons_succ]
        refine oneA 13 10 hsel (h := ?_)
        simp only [Act.put, List.setIfInBounds_toArray, List.set_cons_zero, List.set_cons_succ]
        refine wpAnyL_done (by kernel_rfl) (by kernel_rfl) ?_ _
        clear hsel hHeld
        go_wp2_with (fail)
        go_meet
        exact ⟨wx.heap.size, ok, f, A2, n2, c2, B2, m2, d2, rfl, rfl, Lib.hid (((HBA.out.set_ 0 _).set_ 1 _).set_ 2 _), Lib.hid (fun h => by obtain ⟨y, h1, h2⟩ := HY.out h; exact ⟨y, h1, (nod_free HBA.out h2).nod _ ((nd_only (Only.refl (· = wx.heap.size) _) rfl).mono fun _ h => .inl h)⟩), HNO, HLF, HSZ⟩
    case refine_6 =>
      go_simp
      have HBA : Hid (Blk (wx.alloc (.cells #[.bool false, .slice none 0 0, .slice none 0 0] 35)) wx.heap.size 35 [.bool false, .slice none 0 0, .slice none 0 0]) := Lib.hid (Blk.new wx 35 _)
      have HAL : Hid (Only (wx.heap.size ≤ ·) wx (wx.alloc (.cells #[.bool false, .slice none 0 0, .slice none 0 0] 35))) := Lib.hid ((Only.refl _ _).alloc (fun _ h => h) _)
      have HLP := Lib.hid HLC.out
      have HSZ : Hid (w4.heap.size ≤ wx.heap.size) := Lib.hid HLC.out.size
      replace HLC : Hid (Only (w4.heap.size ≤ ·) w4 (wx.alloc (.cells #[.bool false, .slice none 0 0, .slice none 0 0] 35))) := Lib.hid (HLC.out.alloc (fun _ h => h) _)
      clear hHeld
      refine hK.out _ _ (KC.out _ HLC.out) (fun hHeld => ?_)
      clear hK K
      try simp only [List.set_cons_zero, List.set_cons_succ]
      refine wpAnyL_ready (rs := [4]) (by kernel_rfl) (by kernel_rfl) (by simp) ?_
      refine AllReadyL.cons (o := ?_) ?_ (fun K hK => ?_) AllReadyL.nil
      case refine_2 => (simp only [List.getElem?_cons_succ, List.getElem?_cons_zero]; rfl)
      go_simp
      (go_at_call 22; (with_reducible refine (HCP.out _).mono ?_); rintro ee w' ⟨rfl, rfl⟩)
      go_wp2_with (fail)
      clear hHeld
      refine hK.out _ _ (KC.out _ HLC.out) (fun hHeld => ?_)
      clear hK K
      try simp only [List.set_cons_zero, List.set_cons_succ]
      refine take_oneL (i := 5) (d := 52) (oi := ?_) (v := ?_) ?_ hsel (by kernel_rfl) (by kernel_rfl) (fun _ _ _ h => h) ?_ ?_ ?_ (by assumption) ?_
      case refine_3 => (simp only [List.getElem?_cons_succ, List.getElem?_cons_zero]; rfl)
      case refine_4 => rfl
      case refine_5 => rfl
      case refine_6 => (intro w' hSw; (try dsimp only at hSw); go_simp; exact (rfl : Value.int IntKind.i64 8 = _))
      simp only [Act.put, List.setIfInBounds_toArray, List.set_cons_zero, List.set_cons_succ]
      refine oneA 6 53 hsel (h := ?_)
      simp only [Act.put, List.setIfInBounds_toArray, List.set_cons_zero, List.set_cons_succ]
      refine wpAnyL_ready (rs := [7]) (by kernel_rfl) (by kernel_rfl) (by simp) ?_
      refine AllReadyL.cons (o := ?_) ?_ (fun K hK => ?_) AllReadyL.nil
      case refine_2 => (simp only [List.getElem?_cons_succ, List.getElem?_cons_zero]; rfl)
      go_simp
      (go_at_call 21; (with_reducible refine (HFO.out _ _ (on_new HO4.out HLC.out) (HBD.out _ (on_new HO4.out HLC.out))).mono ?_); rintro ee w6 ⟨ho, ok, f, A2, n2, c2, B2, m2, d2, rfl, hy, hn⟩; have HY := Lib.hid hy; have HNO := Lib.hid hn; (replace HBA := Lib.hid (HBA.out.later ho)); (obtain ⟨a0, a1, a2⟩ := HBA.out.tri); (obtain ⟨e0, e1, e2⟩ := HBA.out.melt3); (replace HLC := Lib.hid (on_new HLC.out ho)); clear hy hn ho)
      go_wp2_with (fail)
      clear hHeld
      refine hK.out _ _ (KC.out _ HLC.out) (fun hHeld => ?_)
      clear hK K
      try simp only [List.set_cons_zero, List.set_cons_succ]
      refine oneA 8 46 hsel (h := ?_)
      simp only [Act.put, List.setIfInBounds_toArray, List.set_cons_zero, List.set_cons_succ]
      refine oneA 9 55 hsel (h := ?_)
      simp only [Act.put, List.setIfInBounds_toArray, List.set_cons_zero, List.set_cons_succ]
      refine oneA 10 56 hsel (h := ?_)
      simp only [Act.put, List.setIfInBounds_toArray, List.set_cons_zero, List.set_cons_succ]
      refine wpAnyL_ready (rs := [12]) (by kernel_rfl) (by kernel_rfl) (by simp) ?_
      refine AllReadyL.cons (o := ?_) ?_ (fun K hK => ?_) AllReadyL.nil
      case refine_2 => (simp only [List.getElem?_cons_succ, List.getElem?_cons_zero]; rfl)
      have HLF : Hid (Only (w4.heap.size ≤ ·) w4 (((w6.setCell ⟨wx.heap.size, 0, none⟩ (.bool f)).setCell ⟨wx.heap.size, 1, none⟩ (.slice A2 n2 c2)).setCell ⟨wx.heap.size, 2, none⟩ (.slice B2 m2 d2))) := Lib.hid (nd_only HLC.out HSZ.out)
      go_simp
      clear hHeld
      refine hK.out _ _ (KC.out _ HLF.out) (fun hHeld => ?_)
      clear hK K
      try simp only [List.set_cons_zero, List.set_cons_succ]
      refine oneA 13 10 hsel (h := ?_)
      simp only [Act.put, List.setIfInBounds_toArray, List.set_cons_zero, List.set_cons_succ]
      refine wpAnyL_done (by kernel_rfl) (by kernel_rfl) ?_ _
      clear hsel hHeld
      go_wp2_with (fail)
      go_meet
      exact ⟨wx.heap.size, ok, f, A2, n2, c2, B2, m2, d2, rfl, rfl, Lib.hid (((HBA.out.set_ 0 _).set_ 1 _).set_ 2 _), Lib.hid (fun h => by obtain ⟨y, h1, h2⟩ := HY.out h; exact ⟨y, h1, (nod_free HBA.out h2).nod _ ((nd_only (Only.refl (· = wx.heap.size) _) rfl).mono fun _ h => .inl h)⟩), HNO, HLF, HSZ⟩
  case rest =>
    obtain ⟨nb, ok, f, A, n, c, B, m1, d, rfl, rfl, HNB, HY, HNO, HLW, HNN⟩ := hcut
    have HLW4 : Hid (w.heap.size < w4.heap.size) := Lib.hid HI.out.lt
    have HIW := Lib.hid (HI.out.later HLW.out)
    have HNW := Lib.hid (HN.out.later HLW.out)
    have HBW := Lib.hid (HBX.out.later HLW.out)
    have HOW0 := Lib.hid (on_new HO4.out HLW.out)
    cases ok
    · have HPP1 := Lib.hid HPP.out.2
      go_upto_region 14 with (fail)
      have KN0 : Hid (∀ W, Only (fun j => j = w.heap.size) wc W → W.cell? ⟨w.heap.size + 1, 0, none⟩ = some (.bool false) ∧ W.cell? ⟨w.heap.size + 1, 1, none⟩ = some (.slice none 0 0) ∧ W.cell? ⟨w.heap.size + 1, 2, none⟩ = some (.slice none 0 0)) := Lib.hid fun W hW => (HNW.out.only hW (by omega)).tri
      refine wp_region_list (B := [false, false, false, false]) (S := (fun W => W.cell? ⟨w.heap.size + 1, 0, none⟩ = some (.bool false) ∧ W.cell? ⟨w.heap.size + 1, 1, none⟩ = some (.slice none 0 0) ∧ W.cell? ⟨w.heap.size + 1, 2, none⟩ = some (.slice none 0 0))) (by kernel_rfl) (by kernel_rfl) (by kernel_rfl) (KN0.out _ (Only.refl _ _).drew) (fun hsel hHeld => ?_)
      obtain ⟨wy, hwy⟩ : ∃ wy, wy = wc.drew := ⟨_, rfl⟩
      have KN : Hid (∀ W, Only (fun j => j = w.heap.size) wy W → W.cell? ⟨w.heap.size + 1, 0, none⟩ = some (.bool false) ∧ W.cell? ⟨w.heap.size + 1, 1, none⟩ = some (.slice none 0 0) ∧ W.cell? ⟨w.heap.size + 1, 2, none⟩ = some (.slice none 0 0)) := Lib.hid fun W hW => KN0.out W (((Only.refl _ _).drew : Only (fun j => j = w.heap.size) wc wc.drew).trans (by rw [← hwy]; exact hW))
      have HSY : Hid (Blk wy w.heap.size 35 [.bool false, .slice none 0 0, .slice none 0 0]) := Lib.hid (by rw [hwy]; exact HIW.out.drew)
      have HOS : Hid (Only (fun j => j = w.heap.size) wy (((wy.setCell ⟨w.heap.size, 0, none⟩ (.bool false)).setCell ⟨w.heap.size, 1, none⟩ (.slice none 0 0)).setCell ⟨w.heap.size, 2, none⟩ (.slice none 0 0))) := Lib.hid (nd_only (Only.refl _ _) rfl)
      have HOW : Hid (Only (fun j => j = w.heap.size) wc (((wy.setCell ⟨w.heap.size, 0, none⟩ (.bool false)).setCell ⟨w.heap.size, 1, none⟩ (.slice none 0 0)).setCell ⟨w.heap.size, 2, none⟩ (.slice none 0 0))) := Lib.hid (((Only.refl _ _).drew : Only (fun j => j = w.heap.size) wc wc.drew).trans (by rw [← hwy]; exact HOS.out))
      rw [← hwy] at hHeld
      rw [← hwy]
      clear hwy
      obtain ⟨s0, s1, s2⟩ := HSY.out.tri
      obtain ⟨z0, z1, z2⟩ := HSY.out.melt3
      refine oneA 0 59 hsel (h := ?_)
      simp only [Act.put, List.setIfInBounds_toArray, List.set_cons_zero, List.set_cons_succ]
      refine oneA 1 2 hsel (h := ?_)
      simp only [Act.put, List.setIfInBounds_toArray, List.set_cons_zero, List.set_cons_succ]
      refine wpAnyL_ready (rs := [2]) (by kernel_rfl) (by kernel_rfl) (by simp) ?_
      refine AllReadyL.cons (o := ?_) ?_ (fun K hK => ?_) AllReadyL.nil
      case refine_2 => (simp only [List.getElem?_cons_succ, List.getElem?_cons_zero]; rfl)
      go_simp
      clear hHeld
      refine hK.out _ _ (KN.out _ HOS.out) (fun hHeld => ?_)
      clear hK K
      try simp only [List.set_cons_zero, List.set_cons_succ]
      refine oneA 3 4 hsel (h := ?_)
      simp only [Act.put, List.setIfInBounds_toArray, List.set_cons_zero, List.set_cons_succ]
      refine wpAnyL_done (by kernel_rfl) (by kernel_rfl) ?_ _
      clear hsel hHeld
      go_wp2
      refine bodyPost_ret (results_tct rfl rfl (rload_node (((HSY.out.set_ 0 _).set_ 1 _).set_ 2 _))) rfl ?_
      exact gaveD_bad (HOW0.out.trans (HOW.out.mono fun j hj => by rw [hj]; exact Nat.le_refl _)) (fun h => by have := HNO.out (HPP1.out h); cases this) (by rw [HE.out]; rfl)
    · obtain ⟨y, h1, h2⟩ := HY.out rfl
      obtain ⟨h3, h4⟩ := HPP.out.1 _ h1
      subst h4
      have HND := Lib.hid h2
      have HDK := Lib.hid h3
      clear h1 h2 h3
      go_upto_region 15 with (fail)
      have KN0 : Hid (∀ W, Only (fun j => j = w.heap.size) wc W → W.cell? ⟨bl, 0, none⟩ = some (.int .i64 76) ∧ W.cell? ⟨bl, 1, none⟩ = some (.int .i64 1) ∧ W.cell? ⟨bl, 2, none⟩ = some (.int .i64 (m : Nat)) ∧ W.cell? ⟨bl, 3, none⟩ = some (.int .i64 x) ∧ W.cell? ⟨nb, 0, none⟩ = some (.bool f) ∧ W.cell? ⟨nb, 1, none⟩ = some (.slice A n c) ∧ W.cell? ⟨nb, 2, none⟩ = some (.slice B m1 d)) := Lib.hid fun W hW => ⟨(HBW.out.only hW (by have := HLT.out; omega)).four.1, (HBW.out.only hW (by have := HLT.out; omega)).four.2.1, (HBW.out.only hW (by have := HLT.out; omega)).four.2.2.1, (HBW.out.only hW (by have := HLT.out; omega)).four.2.2.2, (HNB.out.only hW (by have := HNN.out; have := HLW4.out; omega)).tri⟩
      refine wp_region_list (B := [false, false, false, false, false, false]) (S := (fun W => W.cell? ⟨bl, 0, none⟩ = some (.int .i64 76) ∧ W.cell? ⟨bl, 1, none⟩ = some (.int .i64 1) ∧ W.cell? ⟨bl, 2, none⟩ = some (.int .i64 (m : Nat)) ∧ W.cell? ⟨bl, 3, none⟩ = some (.int .i64 x) ∧ W.cell? ⟨nb, 0, none⟩ = some (.bool f) ∧ W.cell? ⟨nb, 1, none⟩ = some (.slice A n c) ∧ W.cell? ⟨nb, 2, none⟩ = some (.slice B m1 d))) (by kernel_rfl) (by kernel_rfl) (by kernel_rfl) (KN0.out _ (Only.refl _ _).drew) (fun hsel hHeld => ?_)
      obtain ⟨wy, hwy⟩ : ∃ wy, wy = wc.drew := ⟨_, rfl⟩
      have KN : Hid (∀ W, Only (fun j => j = w.heap.size) wy W → W.cell? ⟨bl, 0, none⟩ = some (.int .i64 76) ∧ W.cell? ⟨bl, 1, none⟩ = some (.int .i64 1) ∧ W.cell? ⟨bl, 2, none⟩ = some (.int .i64 (m : Nat)) ∧ W.cell? ⟨bl, 3, none⟩ = some (.int .i64 x) ∧ W.cell? ⟨nb, 0, none⟩ = some (.bool f) ∧ W.cell? ⟨nb, 1, none⟩ = some (.slice A n c) ∧ W.cell? ⟨nb, 2, none⟩ = some (.slice B m1 d)) := Lib.hid fun W hW => KN0.out W (((Only.refl _ _).drew : Only (fun j => j = w.heap.size) wc wc.drew).trans (by rw [← hwy]; exact hW))
      have HSY : Hid (Blk wy w.heap.size 35 [.bool false, .slice none 0 0, .slice none 0 0]) := Lib.hid (by rw [hwy]; exact HIW.out.drew)
      have HOS : Hid (Only (fun j => j = w.heap.size) wy (((wy.setCell ⟨w.heap.size, 0, none⟩ (.bool f)).setCell ⟨w.heap.size, 1, none⟩ (.slice A n c)).setCell ⟨w.heap.size, 2, none⟩ (.slice B m1 d))) := Lib.hid (nd_only (Only.refl _ _) rfl)
      have HOW : Hid (Only (fun j => j = w.heap.size) wc (((wy.setCell ⟨w.heap.size, 0, none⟩ (.bool f)).setCell ⟨w.heap.size, 1, none⟩ (.slice A n c)).setCell ⟨w.heap.size, 2, none⟩ (.slice B m1 d))) := Lib.hid (((Only.refl _ _).drew : Only (fun j => j = w.heap.size) wc wc.drew).trans (by rw [← hwy]; exact HOS.out))
      rw [← hwy] at hHeld
      rw [← hwy]
      clear hwy
      obtain ⟨s0, s1, s2⟩ := HSY.out.tri
      obtain ⟨z0, z1, z2⟩ := HSY.out.melt3
      refine oneA 0 60 hsel (h := ?_)
      simp only [Act.put, List.setIfInBounds_toArray, List.set_cons_zero, List.set_cons_succ]
      refine oneA 1 61 hsel (h := ?_)
      simp only [Act.put, List.setIfInBounds_toArray, List.set_cons_zero, List.set_cons_succ]
      refine oneA 2 62 hsel (h := ?_)
      simp only [Act.put, List.setIfInBounds_toArray, List.set_cons_zero, List.set_cons_succ]
      refine oneA 3 2 hsel (h := ?_)
      simp only [Act.put, List.setIfInBounds_toArray, List.set_cons_zero, List.set_cons_succ]
      refine wpAnyL_ready (rs := [4]) (by kernel_rfl) (by kernel_rfl) (by simp) ?_
      refine AllReadyL.cons (o := ?_) ?_ (fun K hK => ?_) AllReadyL.nil
      case refine_2 => (simp only [List.getElem?_cons_succ, List.getElem?_cons_zero]; rfl)
      go_simp
      clear hHeld
      refine hK.out _ _ (KN.out _ HOS.out) (fun hHeld => ?_)
      clear hK K
      try simp only [List.set_cons_zero, List.set_cons_succ]
      refine oneA 5 4 hsel (h := ?_)
      simp only [Act.put, List.setIfInBounds_toArray, List.set_cons_zero, List.set_cons_succ]
      refine wpAnyL_done (by kernel_rfl) (by kernel_rfl) ?_ _
      clear hsel hHeld
      go_wp2
      refine bodyPost_ret (results_tct rfl rfl (rload_node (((HSY.out.set_ 0 _).set_ 1 _).set_ 2 _))) rfl ?_
      exact ⟨true, ⟨fun _ => HDK.out, fun _ => rfl⟩, f, A, n, c, B, m1, d, by rw [if_pos rfl, if_pos rfl, ← HGE.out]; rfl, (nod_free HIW.out HND.out).nod _ (HOW.out.mono fun _ h => .inl h), HOW0.out.trans (HOW.out.mono fun j hj => by rw [hj]; exact Nat.le_refl _)⟩

set_option maxRecDepth 100000 in
set_option maxHeartbeats 12800000 in
theorem rd_go1K (w : World) (bb o c : Nat) (b body SB : Bytes) (x : Int) (m : Nat) (P : Nd → Prop) (hc : 256 ≤ c) 
    (hH : ∀ W, Only (w.heap.size ≤ ·) w W → Calls Tryz.prog 19 #[.slice (some ⟨bb, o, none⟩) 256 c] W (Told W (.tuple #[.agg #[.int .i64 66, .int .i64 1, .int .i64 (m : Nat), .int .i64 x], .int .i64 0])))
    (hL : ∀ W, Only (w.heap.size ≤ ·) w W → Calls Tryz.prog 20 #[.slice (some ⟨bb, o, none⟩) 256 c, .int .i64 4] W (GaveB W SB)) (hs : ∀ W, Only (w.heap.size ≤ ·) w W → Src W (.slice (some ⟨bb, o, none⟩) 256 c) b)
    (hC : ∀ W, Calls Tryz.prog 22 #[.int .i64 1] W fun e w' => e = .returned (.int .i64 248) ∧ W = w') (hB : ∀ W, Only (w.heap.size ≤ ·) w W → Src W (.slice (some ⟨bb, o + 8, none⟩) (256 - 8) (c - 8)) body)
    (hF : ∀ W u, Only (w.heap.size ≤ ·) w W → Src W u body → Calls Tryz.prog 21 #[.agg #[.int .i64 66, .int .i64 1, .int .i64 (m : Nat), .int .i64 x], u] W (GaveFm W P))
    (hE : nhE b = 0) (hgE : (1 : Int) = (hdG b : Nat)) (hPy : ∀ y, P y → DecOk b ∧ y = dcN b) (hPn : DecOk b → ∃ y, P y) :
    Calls Tryz.prog 7 #[.slice (some ⟨bb, o, none⟩) 256 c] w (GaveD w b) := by
  obtain ⟨W0, hW0⟩ : ∃ W0, W0 = (w.alloc (.cells #[.bool false, .slice none 0 0, .slice none 0 0] 35)).alloc (.cells #[.bool false, .slice none 0 0, .slice none 0 0] 35) := ⟨_, rfl⟩
  have HO : Hid (Only (w.heap.size ≤ ·) w W0) := Lib.hid (by rw [hW0]; exact ((Only.refl _ w).alloc (fun _ h => h) _).alloc (fun _ h => h) _)
  have HI : Hid (Blk W0 w.heap.size 35 [.bool false, .slice none 0 0, .slice none 0 0]) := Lib.hid (by rw [hW0]; exact (Blk.new w 35 _).alloc _)
  have HN : Hid (Blk W0 (w.heap.size + 1) 35 [.bool false, .slice none 0 0, .slice none 0 0]) := Lib.hid (by
    rw [hW0]
    have := Blk.new (w.alloc (.cells #[.bool false, .slice none 0 0, .slice none 0 0] 35)) 35 [.bool false, .slice none 0 0, .slice none 0 0]
    simpa using this)
  have HHO := Lib.hid hH
  have HSL := Lib.hid hL
  have HSS := Lib.hid hs
  have HCP := Lib.hid hC
  have HBD := Lib.hid hB
  have HFO := Lib.hid hF
  have HPP := Lib.hid (And.intro hPy hPn)
  have HE := Lib.hid hE
  have HGE := Lib.hid hgE
  have y1 : (256 : Int) ≤ (c : Int) := by omega
  have y2 : ¬ c = 8 := by omega
  have y3 : 8 ≤ c := by omega
  clear hH hL hs hC hB hF hE hgE hPy hPn hc
  go_enter Tryz.func7, Tryz.ntmps7
  go_upto_region 1 with (fail)
  go_upto_region 2 with (fail)
  rw [← hW0]
  clear hW0
  go_upto_region 5 with (go_at_call 19; (with_reducible refine (HHO.out _ HO.out).mono ?_); rintro e w1 ⟨rfl, ho⟩; (replace HI := Lib.hid (HI.out.later ho)); (replace HN := Lib.hid (HN.out.later ho)); (replace HO := Lib.hid (on_new HO.out ho)); clear ho)
  have HBX : Hid (Blk (w1.alloc (.cells #[.int .i64 66, .int .i64 1, .int .i64 (m : Nat), .int .i64 x] 55)) w1.heap.size 55 [.int .i64 66, .int .i64 1, .int .i64 (m : Nat), .int .i64 x]) := Lib.hid (Blk.new w1 55 _)
  have HLT : Hid (w.heap.size + 1 < w1.heap.size) := Lib.hid HN.out.lt
  replace HI := Lib.hid (HI.out.alloc (.cells #[.int .i64 66, .int .i64 1, .int .i64 (m : Nat), .int .i64 x] 55))
  replace HN := Lib.hid (HN.out.alloc (.cells #[.int .i64 66, .int .i64 1, .int .i64 (m : Nat), .int .i64 x] 55))
  replace HO := Lib.hid (HO.out.alloc (fun _ h => h) (.cells #[.int .i64 66, .int .i64 1, .int .i64 (m : Nat), .int .i64 x] 55))
  generalize hbl : w1.heap.size = bl at HBX HLT
  obtain ⟨W2, hW2⟩ : ∃ W2, W2 = w1.alloc (.cells #[.int .i64 66, .int .i64 1, .int .i64 (m : Nat), .int .i64 x] 55) := ⟨_, rfl⟩
  rw [← hW2] at HBX HI HN HO
  rw [← hW2]
  clear hW2 hbl
  obtain ⟨b0, b1, b2, b3⟩ := HBX.out.four
  have hcut : True := trivial
  go_upto_region 12 with (go_at_call 20; (with_reducible refine (HSL.out _ HO.out).mono ?_); rintro e w3 ⟨sv, rfl, hsv, ho⟩; have HSV := Lib.hid hsv; (replace HI := Lib.hid (HI.out.later ho)); (replace HN := Lib.hid (HN.out.later ho)); (replace HBX := Lib.hid (HBX.out.later ho)); (replace HO := Lib.hid (on_new HO.out ho)); clear ho hsv b0 b1 b2 b3; (obtain ⟨b0, b1, b2, b3⟩ := HBX.out.four))
  obtain ⟨w4, hw4⟩ : ∃ x, x = w3 := ⟨_, rfl⟩
  subst hw4
  clear b0 b1 b2 b3
  have HO4 := Lib.hid HO.out
  have KC : Hid (∀ W, Only (w4.heap.size ≤ ·) w4 W → W.cell? ⟨bl, 0, none⟩ = some (.int .i64 66) ∧ W.cell? ⟨bl, 1, none⟩ = some (.int .i64 1) ∧ W.cell? ⟨bl, 2, none⟩ = some (.int .i64 (m : Nat)) ∧ W.cell? ⟨bl, 3, none⟩ = some (.int .i64 x)) := Lib.hid fun W hW => (HBX.out.later hW).four
  have HLC : Hid (Only (w4.heap.size ≤ ·) w4 w4.drew) := Lib.hid (Only.refl _ w4).drew
  go_cut [9, 10] from 46 to 56 (fun y bv wz => ∃ (nb : Nat) (ok f : Bool) (A : Option Addr) (n c : Nat) (B : Option Addr) (m d : Nat), y = .pointer (some ⟨nb, 0, none⟩) ∧ bv = .bool ok ∧ Hid (Blk wz nb 35 [.bool f, .slice A n c, .slice B m d]) ∧ Hid (ok = true → ∃ y, P y ∧ Nod wz y f (.slice A n c) (.slice B m d)) ∧ Hid ((∃ y, P y) → ok = true) ∧ Hid (Only (w4.heap.size ≤ ·) w4 wz) ∧ Hid (w4.heap.size ≤ nb))
  case first =>
    refine wp_region_list (B := [false, false, false, false, false, false, false, false, false, false, false, false, false, false]) (S := (fun W => W.cell? ⟨bl, 0, none⟩ = some (.int .i64 66) ∧ W.cell? ⟨bl, 1, none⟩ = some (.int .i64 1) ∧ W.cell? ⟨bl, 2, none⟩ = some (.int .i64 (m : Nat)) ∧ W.cell? ⟨bl, 3, none⟩ = some (.int .i64 x))) (by kernel_rfl) (by kernel_rfl) (by kernel_rfl) (KC.out _ HLC.out) (fun hsel hHeld => ?_)
    obtain ⟨wx, hwx⟩ : ∃ wx, wx = w4.drew := ⟨_, rfl⟩
    rw [← hwx] at HLC hHeld
    rw [← hwx]
    clear hwx
    refine oneA 0 47 hsel (h := ?_)
    simp only [Act.put, List.setIfInBounds_toArray, List.set_cons_zero, List.set_cons_succ]
    refine oneA 1 48 hsel (h := ?_)
    simp only [Act.put, List.setIfInBounds_toArray, List.set_cons_zero, List.set_cons_succ]
    refine oneA 2 49 hsel (h := ?_)
    simp only [Act.put, List.setIfInBounds_toArray, List.set_cons_zero, List.set_cons_succ]
    refine oneA 3 50 hsel (h := ?_)
    simp only [Act.put, List.setIfInBounds_toArray, List.set_cons_zero, List.set_cons_succ]
    refine wpAnyL_ready (rs := [4, 11]) (by kernel_rfl) (by kernel_rfl) (by simp) ?_
    refine AllReadyL.cons (o := ?_) ?_ (fun K hK => ?_) (AllReadyL.cons (o := ?_) ?_ (fun K hK => ?_) AllReadyL.nil)
    case refine_2 => (simp only [List.getElem?_cons_succ, List.getElem?_cons_zero]; rfl)
    case refine_5 => (simp only [List.getElem?_cons_succ, List.getElem?_cons_zero]; rfl)
    case refine_3 =>
      go_simp
      (go_at_call 22; (with_reducible refine (HCP.out _).mono ?_); rintro ee w' ⟨rfl, rfl⟩)
      go_wp2_with (fail)
      clear hHeld
      refine hK.out _ _ (KC.out _ HLC.out) (fun hHeld => ?_)
      clear hK K
      try simp only [List.set_cons_zero, List.set_cons_succ]
      refine take_oneL (i := 5) (d := 52) (oi := ?_) (v := ?_) ?_ hsel (by kernel_rfl) (by kernel_rfl) (fun _ _ _ h => h) ?_ ?_ ?_ (by assumption) ?_
      case refine_3 => (simp only [List.getElem?_cons_succ, List.getElem?_cons_zero]; rfl)
      case refine_4 => rfl
      case refine_5 => rfl
      case refine_6 => (intro w' hSw; (try dsimp only at hSw); go_simp; exact (rfl : Value.int IntKind.i64 8 = _))
      simp only [Act.put, List.setIfInBounds_toArray, List.set_cons_zero, List.set_cons_succ]
      refine oneA 6 53 hsel (h := ?_)
      simp only [Act.put, List.setIfInBounds_toArray, List.set_cons_zero, List.set_cons_succ]
      refine wpAnyL_ready (rs := [7, 11]) (by kernel_rfl) (by kernel_rfl) (by simp) ?_
      refine AllReadyL.cons (o := ?_) ?_ (fun K hK => ?_) (AllReadyL.cons (o := ?_) ?_ (fun K hK => ?_) AllReadyL.nil)
      case refine_2 => (simp only [List.getElem?_cons_succ, List.getElem?_cons_zero]; rfl)
      case refine_5 => (simp only [List.getElem?_cons_succ, List.getElem?_cons_zero]; rfl)
      case refine_3 =>
        go_simp
        (go_at_call 21; (with_reducible refine (HFO.out _ _ (on_new HO4.out HLC.out) (HBD.out _ (on_new HO4.out HLC.out))).mono ?_); rintro ee w6 ⟨ho, ok, f, A2, n2, c2, B2, m2, d2, rfl, hy, hn⟩; have HY := Lib.hid hy; have HNO := Lib.hid hn; (replace HLC := Lib.hid (on_new HLC.out ho)); clear hy hn ho)
        go_wp2_with (fail)
        clear hHeld
        refine hK.out _ _ (KC.out _ HLC.out) (fun hHeld => ?_)
        clear hK K
        try simp only [List.set_cons_zero, List.set_cons_succ]
        refine oneA 8 46 hsel (h := ?_)
        simp only [Act.put, List.setIfInBounds_toArray, List.set_cons_zero, List.set_cons_succ]
        refine oneA 9 55 hsel (h := ?_)
        simp only [Act.put, List.setIfInBounds_toArray, List.set_cons_zero, List.set_cons_succ]
        refine oneA 10 56 hsel (h := ?_)
        simp only [Act.put, List.setIfInBounds_toArray, List.set_cons_zero, List.set_cons_succ]
        refine wpAnyL_ready (rs := [11]) (by kernel_rfl) (by kernel_rfl) (by simp) ?_
        refine AllReadyL.cons (o := ?_) ?_ (fun K hK => ?_) AllReadyL.nil
        case refine_2 => (simp only [List.getElem?_cons_succ, List.getElem?_cons_zero]; rfl)
        go_simp
        have HBA : Hid (Blk (w6.alloc (.cells #[.bool false, .slice none 0 0, .slice none 0 0] 35)) w6.heap.size 35 [.bool false, .slice none 0 0, .slice none 0 0]) := Lib.hid (Blk.new w6 35 _)
        have HAL : Hid (Only (w6.heap.size ≤ ·) w6 (w6.alloc (.cells #[.bool false, .slice none 0 0, .slice none 0 0] 35))) := Lib.hid ((Only.refl _ _).alloc (fun _ h => h) _)
        have HLP := Lib.hid HLC.out
        have HSZ : Hid (w4.heap.size ≤ w6.heap.size) := Lib.hid HLC.out.size
        replace HLC : Hid (Only (w4.heap.size ≤ ·) w4 (w6.alloc (.cells #[.bool false, .slice none 0 0, .slice none 0 0] 35))) := Lib.hid (HLC.out.alloc (fun _ h => h) _)
        obtain ⟨a0, a1, a2⟩ := HBA.out.tri
        obtain ⟨e0, e1, e2⟩ := HBA.out.melt3
        clear hHeld
        refine hK.out _ _ (KC.out _ HLC.out) (fun hHeld => ?_)
        clear hK K
        try simp only [List.set_cons_zero, List.set_cons_succ]
        refine wpAnyL_ready (rs := [12]) (by kernel_rfl) (by kernel_rfl) (by simp) ?_
        refine AllReadyL.cons (o := ?_) ?_ (fun K hK => ?_) AllReadyL.nil
        case refine_2 => (simp only [List.getElem?_cons_succ, List.getElem?_cons_zero]; rfl)
        have HLF : Hid (Only (w4.heap.size ≤ ·) w4 (w6.alloc (.cells #[.bool f, .slice A2 n2 c2, .slice B2 m2 d2] 35))) := Lib.hid (HLP.out.alloc (fun _ h => h) _)
        go_simp
        clear hHeld
        refine hK.out _ _ (KC.out _ HLF.out) (fun hHeld => ?_)
        clear hK K
        try simp only [List.set_cons_zero, List.set_cons_succ]
        refine oneA 13 10 hsel (h := ?_)
        simp only [Act.put, List.setIfInBounds_toArray, List.set_cons_zero, List.set_cons_succ]
        refine wpAnyL_done (by kernel_rfl) (by kernel_rfl) ?_ _
        clear hsel hHeld
        go_wp2_with (fail)
        go_meet
        exact ⟨_, ok, f, A2, n2, c2, B2, m2, d2, rfl, rfl, Lib.hid (Blk.new w6 35 _), Lib.hid (fun h => by obtain ⟨y, h1, h2⟩ := HY.out h; exact ⟨y, h1, h2.later ((Only.refl _ _).alloc (fun _ h => h) _)⟩), HNO, HLF, HSZ⟩
      case refine_6 =>
        go_simp
        have HBA : Hid (Blk (wx.alloc (.cells #[.bool false, .slice none 0 0, .slice none 0 0] 35)) wx.heap.size 35 [.bool false, .slice none 0 0, .slice none 0 0]) := Lib.hid (Blk.new wx 35 _)
        have HAL : Hid (Only (wx.heap.size ≤ ·) wx (wx.alloc (.cells #[.bool false, .slice none 0 0, .slice none 0 0] 35))) := Lib.hid ((Only.refl _ _).alloc (fun _ h => h) _)
        have HLP := Lib.hid HLC.out
        have HSZ : Hid (w4.heap.size ≤ wx.heap.size) := Lib.hid HLC.out.size
        replace HLC : Hid (Only (w4.heap.size ≤ ·) w4 (wx.alloc (.cells #[.bool false, .slice none 0 0, .slice none 0 0] 35))) := Lib.hid (HLC.out.alloc (fun _ h => h) _)
        clear hHeld
        refine hK.out _ _ (KC.out _ HLC.out) (fun hHeld => ?_)
        clear hK K
        try simp only [List.set_cons_zero, List.set_cons_succ]
        refine wpAnyL_ready (rs := [7]) (by kernel_rfl) (by kernel_rfl) (by simp) ?_
        refine AllReadyL.cons (o := ?_) ?_ (fun K hK => ?_) AllReadyL.nil
        case refine_2 => (simp only [List.getElem?_cons_succ, List.getElem?_cons_zero]; rfl)
        go_simp
        (go_at_call 21; (with_reducible refine (HFO.out _ _ (on_new HO4.out HLC.out) (HBD.out _ (on_new HO4.out HLC.out))).mono ?_); rintro ee w6 ⟨ho, ok, f, A2, n2, c2, B2, m2, d2, rfl, hy, hn⟩; have HY := Lib.hid hy; have HNO := Lib.hid hn; (replace HBA := Lib.hid (HBA.out.later ho)); (obtain ⟨a0, a1, a2⟩ := HBA.out.tri); (obtain ⟨e0, e1, e2⟩ := HBA.out.melt3); (replace HLC := Lib.hid (on_new HLC.out ho)); clear hy hn ho)
        go_wp2_with (fail)
        clear hHeld
        refine hK.out _ _ (KC.out _ HLC.out) (fun hHeld => ?_)
        clear hK K
        try simp only [List.set_cons_zero, List.set_cons_succ]
        refine oneA 8 46 hsel (h := ?_)
        simp only [Act.put, List.setIfInBounds_toArray, List.set_cons_zero, List.set_cons_succ]
        refine oneA 9 55 hsel (h := ?_)
        simp only [Act.put, List.setIfInBounds_toArray, List.set_cons_zero, List.set_cons_succ]
        refine oneA 10 56 hsel (h := ?_)
        simp only [Act.put, List.setIfInBounds_toArray, List.set_cons_zero, List.set_cons_succ]
        refine wpAnyL_ready (rs := [12]) (by kernel_rfl) (by kernel_rfl) (by simp) ?_
        refine AllReadyL.cons (o := ?_) ?_ (fun K hK => ?_) AllReadyL.nil
        case refine_2 => (simp only [List.getElem?_cons_succ, List.getElem?_cons_zero]; rfl)
        have HLF : Hid (Only (w4.heap.size ≤ ·) w4 (((w6.setCell ⟨wx.heap.size, 0, none⟩ (.bool f)).setCell ⟨wx.heap.size, 1, none⟩ (.slice A2 n2 c2)).setCell ⟨wx.heap.size, 2, none⟩ (.slice B2 m2 d2))) := Lib.hid (nd_only HLC.out HSZ.out)
        go_simp
        clear hHeld
        refine hK.out _ _ (KC.out _ HLF.out) (fun hHeld => ?_)
        clear hK K
        try simp only [List.set_cons_zero, List.set_cons_succ]
        refine oneA 13 10 hsel (h := ?_)
        simp only [Act.put, List.setIfInBounds_toArray, List.set_cons_zero, List.set_cons_succ]
        refine wpAnyL_done (by kernel_rfl) (by kernel_rfl) ?_ _
        clear hsel hHeld
        go_wp2_with (fail)
        go_meet
        exact ⟨wx.heap.size, ok, f, A2, n2, c2, B2, m2, d2, rfl, rfl, Lib.hid (((HBA.out.set_ 0 _).set_ 1 _).set_ 2 _), Lib.hid (fun h => by obtain ⟨y, h1, h2⟩ := HY.out h; exact ⟨y, h1, (nod_free HBA.out h2).nod _ ((nd_only (Only.refl (· = wx.heap.size) _) rfl).mono fun _ h => .inl h)⟩), HNO, HLF, HSZ⟩
    case refine_6 =>
      go_simp
      have HBA : Hid (Blk (wx.alloc (.cells #[.bool false, .slice none 0 0, .slice none 0 0] 35)) wx.heap.size 35 [.bool false, .slice none 0 0, .slice none 0 0]) := Lib.hid (Blk.new wx 35 _)
      have HAL : Hid (Only (wx.heap.size ≤ ·) wx (wx.alloc (.cells #[.bool false, .slice none 0 0, .slice none 0 0] 35))) := Lib.hid ((Only.refl _ _).alloc (fun _ h => h) _)
      have HLP := Lib.hid HLC.out
      have HSZ : Hid (w4.heap.size ≤ wx.heap.size) := Lib.hid HLC.out.size
      replace HLC : Hid (Only (w4.heap.size ≤ ·) w4 (wx.alloc (.cells #[.bool false, .slice none 0 0, .slice none 0 0] 35))) := Lib.hid (HLC.out.alloc (fun _ h => h) _)
      clear hHeld
      refine hK.out _ _ (KC.out _ HLC.out) (fun hHeld => ?_)
      clear hK K
      try simp only [List.set_cons_zero, List.set_cons_succ]
      refine wpAnyL_ready (rs := [4]) (by kernel_rfl) (by kernel_rfl) (by simp) ?_
      refine AllReadyL.cons (o := ?_) ?_ (fun K hK => ?_) AllReadyL.nil
      case refine_2 => (simp only [List.getElem?_cons_succ, List.getElem?_cons_zero]; rfl)
      go_simp
      (go_at_call 22; (with_reducible refine (HCP.out _).mono ?_); rintro ee w' ⟨rfl, rfl⟩)
      go_wp2_with (fail)
      clear hHeld
      refine hK.out _ _ (KC.out _ HLC.out) (fun hHeld => ?_)
      clear hK K
      try simp only [List.set_cons_zero, List.set_cons_succ]
      refine take_oneL (i := 5) (d := 52) (oi := ?_) (v := ?_) ?_ hsel (by kernel_rfl) (by kernel_rfl) (fun _ _ _ h => h) ?_ ?_ ?_ (by assumption) ?_
      case refine_3 => (simp only [List.getElem?_cons_succ, List.getElem?_cons_zero]; rfl)
      case refine_4 => rfl
      case refine_5 => rfl
      case refine_6 => (intro w' hSw; (try dsimp only at hSw); go_simp; exact (rfl : Value.int IntKind.i64 8 = _))
      simp only [Act.put, List.setIfInBounds_toArray, List.set_cons_zero, List.set_cons_succ]
      refine oneA 6 53 hsel (h := ?_)
      simp only [Act.put, List.setIfInBounds_toArray, List.set_cons_zero, List.set_cons_succ]
      refine wpAnyL_ready (rs := [7]) (by kernel_rfl) (by kernel_rfl) (by simp) ?_
      refine AllReadyL.cons (o := ?_) ?_ (fun K hK => ?_) AllReadyL.nil
      case refine_2 => (simp only [List.getElem?_cons_succ, List.getElem?_cons_zero]; rfl)
      go_simp
      (go_at_call 21; (with_reducible refine (HFO.out _ _ (on_new HO4.out HLC.out) (HBD.out _ (on_new HO4.out HLC.out))).mono ?_); rintro ee w6 ⟨ho, ok, f, A2, n2, c2, B2, m2, d2, rfl, hy, hn⟩; have HY := Lib.hid hy; have HNO := Lib.hid hn; (replace HBA := Lib.hid (HBA.out.later ho)); (obtain ⟨a0, a1, a2⟩ := HBA.out.tri); (obtain ⟨e0, e1, e2⟩ := HBA.out.melt3); (replace HLC := Lib.hid (on_new HLC.out ho)); clear hy hn ho)
      go_wp2_with (fail)
      clear hHeld
      refine hK.out _ _ (KC.out _ HLC.out) (fun hHeld => ?_)
      clear hK K
      try simp only [List.set_cons_zero, List.set_cons_succ]
      refine oneA 8 46 hsel (h := ?_)
      simp only [Act.put, List.setIfInBounds_toArray, List.set_cons_zero, List.set_cons_succ]
      refine oneA 9 55 hsel (h := ?_)
      simp only [Act.put, List.setIfInBounds_toArray, List.set_cons_zero, List.set_cons_succ]
      refine oneA 10 56 hsel (h := ?_)
      simp only [Act.put, List.setIfInBounds_toArray, List.set_cons_zero, List.set_cons_succ]
      refine wpAnyL_ready (rs := [12]) (by kernel_rfl) (by kernel_rfl) (by simp) ?_
      refine AllReadyL.cons (o := ?_) ?_ (fun K hK => ?_) AllReadyL.nil
      case refine_2 => (simp only [List.getElem?_cons_succ, List.getElem?_cons_zero]; rfl)
      have HLF : Hid (Only (w4.heap.size ≤ ·) w4 (((w6.setCell ⟨wx.heap.size, 0, none⟩ (.bool f)).setCell ⟨wx.heap.size, 1, none⟩ (.slice A2 n2 c2)).setCell ⟨wx.heap.size, 2, none⟩ (.slice B2 m2 d2))) := Lib.hid (nd_only HLC.out HSZ.out)
      go_simp
      clear hHeld
      refine hK.out _ _ (KC.out _ HLF.out) (fun hHeld => ?_)
      clear hK K
      try simp only [List.set_cons_zero, List.set_cons_succ]
      refine oneA 13 10 hsel (h := ?_)
      simp only [Act.put, List.setIfInBounds_toArray, List.set_cons_zero, List.set_cons_succ]
      refine wpAnyL_done (by kernel_rfl) (by kernel_rfl) ?_ _
      clear hsel hHeld
      go_wp2_with (fail)
      go_meet
      exact ⟨wx.heap.size, ok, f, A2, n2, c2, B2, m2, d2, rfl, rfl, Lib.hid (((HBA.out.set_ 0 _).set_ 1 _).set_ 2 _), Lib.hid (fun h => by obtain ⟨y, h1, h2⟩ := HY.out h; exact ⟨y, h1, (nod_free HBA.out h2).nod _ ((nd_only (Only.refl (· = wx.heap.size) _) rfl).mono fun _ h => .inl h)⟩), HNO, HLF, HSZ⟩
  case rest =>
    obtain ⟨nb, ok, f, A, n, c, B, m1, d, rfl, rfl, HNB, HY, HNO, HLW, HNN⟩ := hcut
    have HLW4 : Hid (w.heap.size < w4.heap.size) := Lib.hid HI.out.lt
    have HIW := Lib.hid (HI.out.later HLW.out)
    have HNW := Lib.hid (HN.out.later HLW.out)
    have HBW := Lib.hid (HBX.out.later HLW.out)
    have HOW0 := Lib.hid (on_new HO4.out HLW.out)
    cases ok
    · have HPP1 := Lib.hid HPP.out.2
      go_upto_region 14 with (fail)
      have KN0 : Hid (∀ W, Only (fun j => j = w.heap.size) wc W → W.cell? ⟨w.heap.size + 1, 0, none⟩ = some (.bool false) ∧ W.cell? ⟨w.heap.size + 1, 1, none⟩ = some (.slice none 0 0) ∧ W.cell? ⟨w.heap.size + 1, 2, none⟩ = some (.slice none 0 0)) := Lib.hid fun W hW => (HNW.out.only hW (by omega)).tri
      refine wp_region_list (B := [false, false, false, false]) (S := (fun W => W.cell? ⟨w.heap.size + 1, 0, none⟩ = some (.bool false) ∧ W.cell? ⟨w.heap.size + 1, 1, none⟩ = some (.slice none 0 0) ∧ W.cell? ⟨w.heap.size + 1, 2, none⟩ = some (.slice none 0 0))) (by kernel_rfl) (by kernel_rfl) (by kernel_rfl) (KN0.out _ (Only.refl _ _).drew) (fun hsel hHeld => ?_)
      obtain ⟨wy, hwy⟩ : ∃ wy, wy = wc.drew := ⟨_, rfl⟩
      have KN : Hid (∀ W, Only (fun j => j = w.heap.size) wy W → W.cell? ⟨w.heap.size + 1, 0, none⟩ = some (.bool false) ∧ W.cell? ⟨w.heap.size + 1, 1, none⟩ = some (.slice none 0 0) ∧ W.cell? ⟨w.heap.size + 1, 2, none⟩ = some (.slice none 0 0)) := Lib.hid fun W hW => KN0.out W (((Only.refl _ _).drew : Only (fun j => j = w.heap.size) wc wc.drew).trans (by rw [← hwy]; exact hW))
      have HSY : Hid (Blk wy w.heap.size 35 [.bool false, .slice none 0 0, .slice none 0 0]) := Lib.hid (by rw [hwy]; exact HIW.out.drew)
      have HOS : Hid (Only (fun j => j = w.heap.size) wy (((wy.setCell ⟨w.heap.size, 0, none⟩ (.bool false)).setCell ⟨w.heap.size, 1, none⟩ (.slice none 0 0)).setCell ⟨w.heap.size, 2, none⟩ (.slice none 0 0))) := Lib.hid (nd_only (Only.refl _ _) rfl)
      have HOW : Hid (Only (fun j => j = w.heap.size) wc (((wy.setCell ⟨w.heap.size, 0, none⟩ (.bool false)).setCell ⟨w.heap.size, 1, none⟩ (.slice none 0 0)).setCell ⟨w.heap.size, 2, none⟩ (.slice none 0 0))) := Lib.hid (((Only.refl _ _).drew : Only (fun j => j = w.heap.size) wc wc.drew).trans (by rw [← hwy]; exact HOS.out))
      rw [← hwy] at hHeld
      rw [← hwy]
      clear hwy
      obtain ⟨s0, s1, s2⟩ := HSY.out.tri
      obtain ⟨z0, z1, z2⟩ := HSY.out.melt3
      refine oneA 0 59 hsel (h := ?_)
      simp only [Act.put, List.setIfInBounds_toArray, List.set_cons_zero, List.set_cons_succ]
      refine oneA 1 2 hsel (h := ?_)
      simp only [Act.put, List.setIfInBounds_toArray, List.set_cons_zero, List.set_cons_succ]
      refine wpAnyL_ready (rs := [2]) (by kernel_rfl) (by kernel_rfl) (by simp) ?_
      refine AllReadyL.cons (o := ?_) ?_ (fun K hK => ?_) AllReadyL.nil
      case refine_2 => (simp only [List.getElem?_cons_succ, List.getElem?_cons_zero]; rfl)
      go_simp
      clear hHeld
      refine hK.out _ _ (KN.out _ HOS.out) (fun hHeld => ?_)
      clear hK K
      try simp only [List.set_cons_zero, List.set_cons_succ]
      refine oneA 3 4 hsel (h := ?_)
      simp only [Act.put, List.setIfInBounds_toArray, List.set_cons_zero, List.set_cons_succ]
      refine wpAnyL_done (by kernel_rfl) (by kernel_rfl) ?_ _
      clear hsel hHeld
      go_wp2
      refine bodyPost_ret (results_tct rfl rfl (rload_node (((HSY.out.set_ 0 _).set_ 1 _).set_ 2 _))) rfl ?_
      exact gaveD_bad (HOW0.out.trans (HOW.out.mono fun j hj => by rw [hj]; exact Nat.le_refl _)) (fun h => by have := HNO.out (HPP1.out h); cases this) (by rw [HE.out]; rfl)
    · obtain ⟨y, h1, h2⟩ := HY.out rfl
      obtain ⟨h3, h4⟩ := HPP.out.1 _ h1
      subst h4
      have HND := Lib.hid h2
      have HDK := Lib.hid h3
      clear h1 h2 h3
      go_upto_region 15 with (fail)
      have KN0 : Hid (∀ W, Only (fun j => j = w.heap.size) wc W → W.cell? ⟨bl, 0, none⟩ = some (.int .i64 66) ∧ W.cell? ⟨bl, 1, none⟩ = some (.int .i64 1) ∧ W.cell? ⟨bl, 2, none⟩ = some (.int .i64 (m : Nat)) ∧ W.cell? ⟨bl, 3, none⟩ = some (.int .i64 x) ∧ W.cell? ⟨nb, 0, none⟩ = some (.bool f) ∧ W.cell? ⟨nb, 1, none⟩ = some (.slice A n c) ∧ W.cell? ⟨nb, 2, none⟩ = some (.slice B m1 d)) := Lib.hid fun W hW => ⟨(HBW.out.only hW (by have := HLT.out; omega)).four.1, (HBW.out.only hW (by have := HLT.out; omega)).four.2.1, (HBW.out.only hW (by have := HLT.out; omega)).four.2.2.1, (HBW.out.only hW (by have := HLT.out; omega)).four.2.2.2, (HNB.out.only hW (by have := HNN.out; have := HLW4.out; omega)).tri⟩
      refine wp_region_list (B := [false, false, false, false, false, false]) (S := (fun W => W.cell? ⟨bl, 0, none⟩ = some (.int .i64 66) ∧ W.cell? ⟨bl, 1, none⟩ = some (.int .i64 1) ∧ W.cell? ⟨bl, 2, none⟩ = some (.int .i64 (m : Nat)) ∧ W.cell? ⟨bl, 3, none⟩ = some (.int .i64 x) ∧ W.cell? ⟨nb, 0, none⟩ = some (.bool f) ∧ W.cell? ⟨nb, 1, none⟩ = some (.slice A n c) ∧ W.cell? ⟨nb, 2, none⟩ = some (.slice B m1 d))) (by kernel_rfl) (by kernel_rfl) (by kernel_rfl) (KN0.out _ (Only.refl _ _).drew) (fun hsel hHeld => ?_)
      obtain ⟨wy, hwy⟩ : ∃ wy, wy = wc.drew := ⟨_, rfl⟩
      have KN : Hid (∀ W, Only (fun j => j = w.heap.size) wy W → W.cell? ⟨bl, 0, none⟩ = some (.int .i64 66) ∧ W.cell? ⟨bl, 1, none⟩ = some (.int .i64 1) ∧ W.cell? ⟨bl, 2, none⟩ = some (.int .i64 (m : Nat)) ∧ W.cell? ⟨bl, 3, none⟩ = some (.int .i64 x) ∧ W.cell? ⟨nb, 0, none⟩ = some (.bool f) ∧ W.cell? ⟨nb, 1, none⟩ = some (.slice A n c) ∧ W.cell? ⟨nb, 2, none⟩ = some (.slice B m1 d)) := Lib.hid fun W hW => KN0.out W (((Only.refl _ _).drew : Only (fun j => j = w.heap.size) wc wc.drew).trans (by rw [← hwy]; exact hW))
      have HSY : Hid (Blk wy w.heap.size 35 [.bool false, .slice none 0 0, .slice none 0 0]) := Lib.hid (by rw [hwy]; exact HIW.out.drew)
      have HOS : Hid (Only (fun j => j = w.heap.size) wy (((wy.setCell ⟨w.heap.size, 0, none⟩ (.bool f)).setCell ⟨w.heap.size, 1, none⟩ (.slice A n c)).setCell ⟨w.heap.size, 2, none⟩ (.slice B m1 d))) := Lib.hid (nd_only (Only.refl _ _) rfl)
      have HOW : Hid (Only (fun j => j = w.heap.size) wc (((wy.setCell ⟨w.heap.size, 0, none⟩ (.bool f)).setCell ⟨w.heap.size, 1, none⟩ (.slice A n c)).setCell ⟨w.heap.size, 2, none⟩ (.slice B m1 d))) := Lib.hid (((Only.refl _ _).drew : Only (fun j => j = w.heap.size) wc wc.drew).trans (by rw [← hwy]; exact HOS.out))
      rw [← hwy] at hHeld
      rw [← hwy]
      clear hwy
      obtain ⟨s0, s1, s2⟩ := HSY.out.tri
      obtain ⟨z0, z1, z2⟩ := HSY.out.melt3
      refine oneA 0 60 hsel (h := ?_)
      simp only [Act.put, List.setIfInBounds_toArray, List.set_cons_zero, List.set_cons_succ]
      refine oneA 1 61 hsel (h := ?_)
      simp only [Act.put, List.setIfInBounds_toArray, List.set_cons_zero, List.set_cons_succ]
      refine oneA 2 62 hsel (h := ?_)
      simp only [Act.put, List.setIfInBounds_toArray, List.set_cons_zero, List.set_cons_succ]
      refine oneA 3 2 hsel (h := ?_)
      simp only [Act.put, List.setIfInBounds_toArray, List.set_cons_zero, List.set_cons_succ]
      refine wpAnyL_ready (rs := [4]) (by kernel_rfl) (by kernel_rfl) (by simp) ?_
      refine AllReadyL.cons (o := ?_) ?_ (fun K hK => ?_) AllReadyL.nil
      case refine_2 => (simp only [List.getElem?_cons_succ, List.getElem?_cons_zero]; rfl)
      go_simp
      clear hHeld
      refine hK.out _ _ (KN.out _ HOS.out) (fun hHeld => ?_)
      clear hK K
      try simp only [List.set_cons_zero, List.set_cons_succ]
      refine oneA 5 4 hsel (h := ?_)
      simp only [Act.put, List.setIfInBounds_toArray, List.set_cons_zero, List.set_cons_succ]
      refine wpAnyL_done (by kernel_rfl) (by kernel_rfl) ?_ _
      clear hsel hHeld
      go_wp2
      refine bodyPost_ret (results_tct rfl rfl (rload_node (((HSY.out.set_ 0 _).set_ 1 _).set_ 2 _))) rfl ?_
      exact ⟨true, ⟨fun _ => HDK.out, fun _ => rfl⟩, f, A, n, c, B, m1, d, by rw [if_pos rfl, if_pos rfl, ← HGE.out]; rfl, (nod_free HIW.out HND.out).nod _ (HOW.out.mono fun _ h => .inl h), HOW0.out.trans (HOW.out.mono fun j hj => by rw [hj]; exact Nat.le_refl _)⟩

set_option maxRecDepth 100000 in
set_option maxHeartbeats 12800000 in
theorem rd_go2L (w : World) (bb o c : Nat) (b body SB : Bytes) (g x : Int) (m : Nat) (P : Nd → Prop) (hc : 256 ≤ c) (hg : 1 < g) (hSB : SB = b)
    (hH : ∀ W, Only (w.heap.size ≤ ·) w W → Calls Tryz.prog 19 #[.slice (some ⟨bb, o, none⟩) 256 c] W (Told W (.tuple #[.agg #[.int .i64 76, .int .i64 g, .int .i64 (m : Nat), .int .i64 x], .int .i64 0])))
    (hL : ∀ W, Only (w.heap.size ≤ ·) w W → Calls Tryz.prog 20 #[.slice (some ⟨bb, o, none⟩) 256 c, .int .i64 4] W (GaveB W SB)) (hs : ∀ W, Only (w.heap.size ≤ ·) w W → Src W (.slice (some ⟨bb, o, none⟩) 256 c) b)
    (hC : ∀ W, Calls Tryz.prog 22 #[.int .i64 g] W fun e w' => e = .returned (.int .i64 240) ∧ W = w') (hB : ∀ W, Only (w.heap.size ≤ ·) w W → Src W (.slice (some ⟨bb, o + 16, none⟩) (256 - 16) (c - 16)) body)
    (hF : ∀ W u, Only (w.heap.size ≤ ·) w W → Src W u body → Calls Tryz.prog 21 #[.agg #[.int .i64 76, .int .i64 g, .int .i64 (m : Nat), .int .i64 x], u] W (GaveFm W P))
    (hE : nhE b = 0) (hgE : (g : Int) = (hdG b : Nat)) (hPy : ∀ y, P y → DecOk b ∧ y = dcN b) (hPn : DecOk b → ∃ y, P y) :
    Calls Tryz.prog 7 #[.slice (some ⟨bb, o, none⟩) 256 c] w (GaveD w b) := by
  obtain ⟨W0, hW0⟩ : ∃ W0, W0 = (w.alloc (.cells #[.bool false, .slice none 0 0, .slice none 0 0] 35)).alloc (.cells #[.bool false, .slice none 0 0, .slice none 0 0] 35) := ⟨_, rfl⟩
  have HO : Hid (Only (w.heap.size ≤ ·) w W0) := Lib.hid (by rw [hW0]; exact ((Only.refl _ w).alloc (fun _ h => h) _).alloc (fun _ h => h) _)
  have HI : Hid (Blk W0 w.heap.size 35 [.bool false, .slice none 0 0, .slice none 0 0]) := Lib.hid (by rw [hW0]; exact (Blk.new w 35 _).alloc _)
  have HN : Hid (Blk W0 (w.heap.size + 1) 35 [.bool false, .slice none 0 0, .slice none 0 0]) := Lib.hid (by
    rw [hW0]
    have := Blk.new (w.alloc (.cells #[.bool false, .slice none 0 0, .slice none 0 0] 35)) 35 [.bool false, .slice none 0 0, .slice none 0 0]
    simpa using this)
  have HHO := Lib.hid hH
  have HSL := Lib.hid hL
  have HSS := Lib.hid hs
  have HCP := Lib.hid hC
  have HBD := Lib.hid hB
  have HFO := Lib.hid hF
  have HPP := Lib.hid (And.intro hPy hPn)
  have HE := Lib.hid hE
  have HGE := Lib.hid hgE
  have y1 : (256 : Int) ≤ (c : Int) := by omega
  have y2 : ¬ c = 16 := by omega
  have y3 : 16 ≤ c := by omega
  subst hSB
  have hgb : decide (1 < g) = true := decide_eq_true hg
  clear hg
  clear hH hL hs hC hB hF hE hgE hPy hPn hc
  go_enter Tryz.func7, Tryz.ntmps7
  go_upto_region 1 with (fail)
  go_upto_region 2 with (fail)
  rw [← hW0]
  clear hW0
  go_upto_region 5 with (go_at_call 19; (with_reducible refine (HHO.out _ HO.out).mono ?_); rintro e w1 ⟨rfl, ho⟩; (replace HI := Lib.hid (HI.out.later ho)); (replace HN := Lib.hid (HN.out.later ho)); (replace HO := Lib.hid (on_new HO.out ho)); clear ho)
  have HBX : Hid (Blk (w1.alloc (.cells #[.int .i64 76, .int .i64 g, .int .i64 (m : Nat), .int .i64 x] 55)) w1.heap.size 55 [.int .i64 76, .int .i64 g, .int .i64 (m : Nat), .int .i64 x]) := Lib.hid (Blk.new w1 55 _)
  have HLT : Hid (w.heap.size + 1 < w1.heap.size) := Lib.hid HN.out.lt
  replace HI := Lib.hid (HI.out.alloc (.cells #[.int .i64 76, .int .i64 g, .int .i64 (m : Nat), .int .i64 x] 55))
  replace HN := Lib.hid (HN.out.alloc (.cells #[.int .i64 76, .int .i64 g, .int .i64 (m : Nat), .int .i64 x] 55))
  replace HO := Lib.hid (HO.out.alloc (fun _ h => h) (.cells #[.int .i64 76, .int .i64 g, .int .i64 (m : Nat), .int .i64 x] 55))
  generalize hbl : w1.heap.size = bl at HBX HLT
  obtain ⟨W2, hW2⟩ : ∃ W2, W2 = w1.alloc (.cells #[.int .i64 76, .int .i64 g, .int .i64 (m : Nat), .int .i64 x] 55) := ⟨_, rfl⟩
  rw [← hW2] at HBX HI HN HO
  rw [← hW2]
  clear hW2 hbl
  obtain ⟨b0, b1, b2, b3⟩ := HBX.out.four
  have hcut : True := trivial
  go_upto_region 10 with (go_at_call 20; (with_reducible refine (HSL.out _ HO.out).mono ?_); rintro e w3 ⟨sv, rfl, hsv, ho⟩; have HSV := Lib.hid hsv; (replace HI := Lib.hid (HI.out.later ho)); (replace HN := Lib.hid (HN.out.later ho)); (replace HBX := Lib.hid (HBX.out.later ho)); (replace HO := Lib.hid (on_new HO.out ho)); clear ho hsv b0 b1 b2 b3; (obtain ⟨b0, b1, b2, b3⟩ := HBX.out.four))
  have k1 := convert_src HSV.out
  have k2 := convert_src (HSS.out _ HO.out)
  go_upto_region 12 with (fail)
  clear k1 k2
  obtain ⟨w4, hw4⟩ : ∃ x, x = w3 := ⟨_, rfl⟩
  subst hw4
  clear b0 b1 b2 b3
  have HO4 := Lib.hid HO.out
  have KC : Hid (∀ W, Only (w4.heap.size ≤ ·) w4 W → W.cell? ⟨bl, 0, none⟩ = some (.int .i64 76) ∧ W.cell? ⟨bl, 1, none⟩ = some (.int .i64 g) ∧ W.cell? ⟨bl, 2, none⟩ = some (.int .i64 (m : Nat)) ∧ W.cell? ⟨bl, 3, none⟩ = some (.int .i64 x)) := Lib.hid fun W hW => (HBX.out.later hW).four
  have HLC : Hid (Only (w4.heap.size ≤ ·) w4 w4.drew) := Lib.hid (Only.refl _ w4).drew
  go_cut [9, 10] from 46 to 56 (fun y bv wz => ∃ (nb : Nat) (ok f : Bool) (A : Option Addr) (n c : Nat) (B : Option Addr) (m d : Nat), y = .pointer (some ⟨nb, 0, none⟩) ∧ bv = .bool ok ∧ Hid (Blk wz nb 35 [.bool f, .slice A n c, .slice B m d]) ∧ Hid (ok = true → ∃ y, P y ∧ Nod wz y f (.slice A n c) (.slice B m d)) ∧ Hid ((∃ y, P y) → ok = true) ∧ Hid (Only (w4.heap.size ≤ ·) w4 wz) ∧ Hid (w4.heap.size ≤ nb))
  case first =>
    refine wp_region_list (B := [false, false, false, false, false, false, false, false, false, false, false, false, false, false]) (S := (fun W => W.cell? ⟨bl, 0, none⟩ = some (.int .i64 76) ∧ W.cell? ⟨bl, 1, none⟩ = some (.int .i64 g) ∧ W.cell? ⟨bl, 2, none⟩ = some (.int .i64 (m : Nat)) ∧ W.cell? ⟨bl, 3, none⟩ = some (.int .i64 x))) (by kernel_rfl) (by kernel_rfl) (by kernel_rfl) (KC.out _ HLC.out) (fun hsel hHeld => ?_)
    obtain ⟨wx, hwx⟩ : ∃ wx, wx = w4.drew := ⟨_, rfl⟩
    rw [← hwx] at HLC hHeld
    rw [← hwx]
    clear hwx
    refine oneA 0 47 hsel (h := ?_)
    simp only [Act.put, List.setIfInBounds_toArray, List.set_cons_zero, List.set_cons_succ]
    refine oneA 1 48 hsel (h := ?_)
    simp only [Act.put, List.setIfInBounds_toArray, List.set_cons_zero, List.set_cons_succ]
    refine oneA 2 49 hsel (h := ?_)
    simp only [Act.put, List.setIfInBounds_toArray, List.set_cons_zero, List.set_cons_succ]
    refine oneA 3 50 hsel (h := ?_)
    simp only [Act.put, List.setIfInBounds_toArray, List.set_cons_zero, List.set_cons_succ]
    refine wpAnyL_ready (rs := [4, 11]) (by kernel_rfl) (by kernel_rfl) (by simp) ?_
    refine AllReadyL.cons (o := ?_) ?_ (fun K hK => ?_) (AllReadyL.cons (o := ?_) ?_ (fun K hK => ?_) AllReadyL.nil)
    case refine_2 => (simp only [List.getElem?_cons_succ, List.getElem?_cons_zero]; rfl)
    case refine_5 => (simp only [List.getElem?_cons_succ, List.getElem?_cons_zero]; rfl)
    case refine_3 =>
      go_simp
      (go_at_call 22; (with_reducible refine (HCP.out _).mono ?_); rintro ee w' ⟨rfl, rfl⟩)
      go_wp2_with (fail)
      clear hHeld
      refine hK.out _ _ (KC.out _ HLC.out) (fun hHeld => ?_)
      clear hK K
      try simp only [List.set_cons_zero, List.set_cons_succ]
      refine take_oneL (i := 5) (d := 52) (oi := ?_) (v := ?_) ?_ hsel (by kernel_rfl) (by kernel_rfl) (fun _ _ _ h => h) ?_ ?_ ?_ (by assumption) ?_
      case refine_3 => (simp only [List.getElem?_cons_succ, List.getElem?_cons_zero]; rfl)
      case refine_4 => rfl
      case refine_5 => rfl
      case refine_6 => (intro w' hSw; (try dsimp only at hSw); go_simp; exact (rfl : Value.int IntKind.i64 16 = _))
      simp only [Act.put, List.setIfInBounds_toArray, List.set_cons_zero, List.set_cons_succ]
      refine oneA 6 53 hsel (h := ?_)
      simp only [Act.put, List.setIfInBounds_toArray, List.set_cons_zero, List.set_cons_succ]
      refine wpAnyL_ready (rs := [7, 11]) (by kernel_rfl) (by kernel_rfl) (by simp) ?_
      refine AllReadyL.cons (o := ?_) ?_ (fun K hK => ?_) (AllReadyL.cons (o := ?_) ?_ (fun K hK => ?_) AllReadyL.nil)
      case refine_2 => (simp only [List.getElem?_cons_succ, List.getElem?_cons_zero]; rfl)
      case refine_5 => (simp only [List.getElem?_cons_succ, List.getElem?_cons_zero]; rfl)
      case refine_3 =>
        go_simp
        (go_at_call 21; (with_reducible refine (HFO.out _ _ (on_new HO4.out HLC.out) (HBD.out _ (on_new HO4.out HLC.out))).mono ?_); rintro ee w6 ⟨ho, ok, f, A2, n2, c2, B2, m2, d2, rfl, hy, hn⟩; have HY := Lib.hid hy; have HNO := Lib.hid hn; (replace HLC := Lib.hid (on_new HLC.out ho)); clear hy hn ho)
        go_wp2_with (fail)
        clear hHeld
        refine hK.out _ _ (KC.out _ HLC.out) (fun hHeld => ?_)
        clear hK K
        try simp only [List.set_cons_zero, List.set_cons_succ]
        refine oneA 8 46 hsel (h := ?_)
        simp only [Act.put, List.setIfInBounds_toArray, List.set_cons_zero, List.set_cons_succ]
        refine oneA 9 55 hsel (h := ?_)
        simp only [Act.put, List.setIfInBounds_toArray, List.set_cons_zero, List.set_cons_succ]
        refine oneA 10 56 hsel (h := ?_)
        simp only [Act.put, List.setIfInBounds_toArray, List.set_cons_zero, List.set_cons_succ]
        refine wpAnyL_ready (rs := [11]) (by kernel_rfl) (by kernel_rfl) (by simp) ?_
        refine AllReadyL.cons (o := ?_) ?_ (fun K hK => ?_) AllReadyL.nil
        case refine_2 => (simp only [List.getElem?_cons_succ, List.getElem?_cons_zero]; rfl)
        go_simp
        have HBA : Hid (Blk (w6.alloc (.cells #[.bool false, .slice none 0 0, .slice none 0 0] 35)) w6.heap.size 35 [.bool false, .slice none 0 0, .slice none 0 0]) := Lib.hid (Blk.new w6 35 _)
        have HAL : Hid (Only (w6.heap.size ≤ ·) w6 (w6.alloc (.cells #[.bool false, .slice none 0 0, .slice none 0 0] 35))) := Lib.hid ((Only.refl _ _).alloc (fun _ h => h) _)
        have HLP := Lib.hid HLC.out
        have HSZ : Hid (w4.heap.size ≤ w6.heap.size) := Lib.hid HLC.out.size
        replace HLC : Hid (Only (w4.heap.size ≤ ·) w4 (w6.alloc (.cells #[.bool false, .slice none 0 0, .slice none 0 0] 35))) := Lib.hid (HLC.out.alloc (fun _ h => h) _)
        obtain ⟨a0, a1, a2⟩ := HBA.out.tri
        obtain ⟨e0, e1, e2⟩ := HBA.out.melt3
        clear hHeld
        refine hK.out _ _ (KC.out _ HLC.out) (fun hHeld => ?_)
        clear hK K
        try simp only [List.set_cons_zero, List.set_cons_succ]
        refine wpAnyL_ready (rs := [12]) (by kernel_rfl) (by kernel_rfl) (by simp) ?_
        refine AllReadyL.cons (o := ?_) ?_ (fun K hK => ?_) AllReadyL.nil
        case refine_2 => (simp only [List.getElem?_cons_succ, List.getElem?_cons_zero]; rfl)
        have HLF : Hid (Only (w4.heap.size ≤ ·) w4 (w6.alloc (.cells #[.bool f, .slice A2 n2 c2, .slice B2 m2 d2] 35))) := Lib.hid (HLP.out.alloc (fun _ h => h) _)
        go_simp
        clear hHeld
        refine hK.out _ _ (KC.out _ HLF.out) (fun hHeld => ?_)
        clear hK K
        try simp only [List.set_cons_zero, List.set_cons_succ]
        refine oneA 13 10 hsel (h := ?_)
        simp only [Act.put, List.setIfInBounds_toArray, List.set_cons_zero, List.set_cons_succ]
        refine wpAnyL_done (by kernel_rfl) (by kernel_rfl) ?_ _
        clear hsel hHeld
        go_wp2_with (fail)
        go_meet
        exact ⟨_, ok, f, A2, n2, c2, B2, m2, d2, rfl, rfl, Lib.hid (Blk.new w6 35 _), Lib.hid (fun h => by obtain ⟨y, h1, h2⟩ := HY.out h; exact ⟨y, h1, h2.later ((Only.refl _ _).alloc (fun _ h => h) _)⟩), HNO, HLF, HSZ⟩
      case refine_6 =>
        go_simp
        have HBA : Hid (Blk (wx.alloc (.cells #[.bool false, .slice none 0 0, .slice none 0 0] 35)) wx.heap.size 35 [.bool false, .slice none 0 0, .slice none 0 0]) := Lib.hid (Blk.new wx 35 _)
        have HAL : Hid (Only (wx.heap.size ≤ ·) wx (wx.alloc (.cells #[.bool false, .slice none 0 0, .slice none 0 0] 35))) := Lib.hid ((Only.refl _ _).alloc (fun _ h => h) _)
        have HLP := Lib.hid HLC.out
        have HSZ : Hid (w4.heap.size ≤ wx.heap.size) := Lib.hid HLC.out.size
        replace HLC : Hid (Only (w4.heap.size ≤ ·) w4 (wx.alloc (.cells #[.bool false, .slice none 0 0, .slice none 0 0] 35))) := Lib.hid (HLC.out.alloc (fun _ h => h) _)
        clear hHeld
        refine hK.out _ _ (KC.out _ HLC.out) (fun hHeld => ?_)
        clear hK K
        try simp only [List.set_cons_zero, List.set_cons_succ]
        refine wpAnyL_ready (rs := [7]) (by kernel_rfl) (by kernel_rfl) (by simp) ?_
        refine AllReadyL.cons (o := ?_) ?_ (fun K hK => ?_) AllReadyL.nil
        case refine_2 => (simp only [List.getElem?_cons_succ, List.getElem?_cons_zero]; rfl)
        go_simp
        (go_at_call 21; (with_reducible refine (HFO.out _ _ (on_new HO4.out HLC.out) (HBD.out _ (on_new HO4.out HLC.out))).mono ?_); rintro ee w6 ⟨ho, ok, f, A2, n2, c2, B2, m2, d2, rfl, hy, hn⟩; have HY := Lib.hid hy; have HNO := Lib.hid hn; (replace HBA := Lib.hid (HBA.out.later ho)); (obtain ⟨a0, a1, a2⟩ := HBA.out.tri); (obtain ⟨e0, e1, e2⟩ := HBA.out.melt3); (replace HLC := Lib.hid (on_new HLC.out ho)); clear hy hn ho)
        go_wp2_with (fail)
        clear hHeld
        refine hK.out _ _ (KC.out _ HLC.out) (fun hHeld => ?_)
        clear hK K
        try simp only [List.set_cons_zero, List.set_cons_succ]
        refine oneA 8 46 hsel (h := ?_)
        simp only [Act.put, List.setIfInBounds_toArray, List.set_cons_zero, List.set_cons_succ]
        refine oneA 9 55 hsel (h := ?_)
        simp only [Act.put, List.setIfInBounds_toArray, List.set_cons_zero, List.set_cons_succ]
        refine oneA 10 56 hsel (h := ?_)
        simp only [Act.put, List.setIfInBounds_toArray, List.set_cons_zero, List.set_cons_succ]
        refine wpAnyL_ready (rs := [12]) (by kernel_rfl) (by kernel_rfl) (by simp) ?_
        refine AllReadyL.cons (o := ?_) ?_ (fun K hK => ?_) AllReadyL.nil
        case refine_2 => (simp only [List.getElem?_cons_succ, List.getElem?_cons_zero]; rfl)
        have HLF : Hid (Only (w4.heap.size ≤ ·) w4 (((w6.setCell ⟨wx.heap.size, 0, none⟩ (.bool f)).setCell ⟨wx.heap.size, 1, none⟩ (.slice A2 n2 c2)).setCell ⟨wx.heap.size, 2, none⟩ (.slice B2 m2 d2))) := Lib.hid (nd_only HLC.out HSZ.out)
        go_simp
        clear hHeld
        refine hK.out _ _ (KC.out _ HLF.out) (fun hHeld => ?_)
        clear hK K
        try simp only [List.set_cons_zero, List.set_cons_succ]
        refine oneA 13 10 hsel (h := ?_)
        simp only [Act.put, List.setIfInBounds_toArray, List.set_cons_zero, List.set_cons_succ]
        refine wpAnyL_done (by kernel_rfl) (by kernel_rfl) ?_ _
        clear hsel hHeld
        go_wp2_with (fail)
        go_meet
        exact ⟨wx.heap.size, ok, f, A2, n2, c2, B2, m2, d2, rfl, rfl, Lib.hid (((HBA.out.set_ 0 _).set_ 1 _).set_ 2 _), Lib.hid (fun h => by obtain ⟨y, h1, h2⟩ := HY.out h; exact ⟨y, h1, (nod_free HBA.out h2).nod _ ((nd_only (Only.refl (· = wx.heap.size) _) rfl).mono fun _ h => .inl h)⟩), HNO, HLF, HSZ⟩
    case refine_6 =>
      go_simp
      have HBA : Hid (Blk (wx.alloc (.cells #[.bool false, .slice none 0 0, .slice none 0 0] 35)) wx.heap.size 35 [.bool false, .slice none 0 0, .slice none 0 0]) := Lib.hid (Blk.new wx 35 _)
      have HAL : Hid (Only (wx.heap.size ≤ ·) wx (wx.alloc (.cells #[.bool false, .slice none 0 0, .slice none 0 0] 35))) := Lib.hid ((Only.refl _ _).alloc (fun _ h => h) _)
      have HLP := Lib.hid HLC.out
      have HSZ : Hid (w4.heap.size ≤ wx.heap.size) := Lib.hid HLC.out.size
      replace HLC : Hid (Only (w4.heap.size ≤ ·) w4 (wx.alloc (.cells #[.bool false, .slice none 0 0, .slice none 0 0] 35))) := Lib.hid (HLC.out.alloc (fun _ h => h) _)
      clear hHeld
      refine hK.out _ _ (KC.out _ HLC.out) (fun hHeld => ?_)
      clear hK K
      try simp only [List.set_cons_zero, List.set_cons_succ]
      refine wpAnyL_ready (rs := [4]) (by kernel_rfl) (by kernel_rfl) (by simp) ?_
      refine AllReadyL.cons (o := ?_) ?_ (fun K hK => ?_) AllReadyL.nil
      case refine_2 => (simp only [List.getElem?_cons_succ, List.getElem?_cons_zero]; rfl)
      go_simp
      (go_at_call 22; (with_reducible refine (HCP.out _).mono ?_); rintro ee w' ⟨rfl, rfl⟩)
      go_wp2_with (fail)
      clear hHeld
      refine hK.out _ _ (KC.out _ HLC.out) (fun hHeld => ?_)
      clear hK K
      try simp only [List.set_cons_zero, List.set_cons_succ]
      refine take_oneL (i := 5) (d := 52) (oi := ?_) (v := ?_) ?_ hsel (by kernel_rfl) (by kernel_rfl) (fun _ _ _ h => h) ?_ ?_ ?_ (by assumption) ?_
      case refine_3 => (simp only [List.getElem?_cons_succ, List.getElem?_cons_zero]; rfl)
      case refine_4 => rfl
      case refine_5 => rfl
      case refine_6 => (intro w' hSw; (try dsimp only at hSw); go_simp; exact (rfl : Value.int IntKind.i64 16 = _))
      simp only [Act.put, List.setIfInBounds_toArray, List.set_cons_zero, List.set_cons_succ]
      refine oneA 6 53 hsel (h := ?_)
      simp only [Act.put, List.setIfInBounds_toArray, List.set_cons_zero, List.set_cons_succ]
      refine wpAnyL_ready (rs := [7]) (by kernel_rfl) (by kernel_rfl) (by simp) ?_
      refine AllReadyL.cons (o := ?_) ?_ (fun K hK => ?_) AllReadyL.nil
      case refine_2 => (simp only [List.getElem?_cons_succ, List.getElem?_cons_zero]; rfl)
      go_simp
      (go_at_call 21; (with_reducible refine (HFO.out _ _ (on_new HO4.out HLC.out) (HBD.out _ (on_new HO4.out HLC.out))).mono ?_); rintro ee w6 ⟨ho, ok, f, A2, n2, c2, B2, m2, d2, rfl, hy, hn⟩; have HY := Lib.hid hy; have HNO := Lib.hid hn; (replace HBA := Lib.hid (HBA.out.later ho)); (obtain ⟨a0, a1, a2⟩ := HBA.out.tri); (obtain ⟨e0, e1, e2⟩ := HBA.out.melt3); (replace HLC := Lib.hid (on_new HLC.out ho)); clear hy hn ho)
      go_wp2_with (fail)
      clear hHeld
      refine hK.out _ _ (KC.out _ HLC.out) (fun hHeld => ?_)
      clear hK K
      try simp only [List.set_cons_zero, List.set_cons_succ]
      refine oneA 8 46 hsel (h := ?_)
      simp only [Act.put, List.setIfInBounds_toArray, List.set_cons_zero, List.set_cons_succ]
      refine oneA 9 55 hsel (h := ?_)
      simp only [Act.put, List.setIfInBounds_toArray, List.set_cons_zero, List.set_cons_succ]
      refine oneA 10 56 hsel (h := ?_)
      simp only [Act.put, List.setIfInBounds_toArray, List.set_cons_zero, List.set_cons_succ]
      refine wpAnyL_ready (rs := [12]) (by kernel_rfl) (by kernel_rfl) (by simp) ?_
      refine AllReadyL.cons (o := ?_) ?_ (fun K hK => ?_) AllReadyL.nil
      case refine_2 => (simp only [List.getElem?_cons_succ, List.getElem?_cons_zero]; rfl)
      have HLF : Hid (Only (w4.heap.size ≤ ·) w4 (((w6.setCell ⟨wx.heap.size, 0, none⟩ (.bool f)).setCell ⟨wx.heap.size, 1, none⟩ (.slice A2 n2 c2)).setCell ⟨wx.heap.size, 2, none⟩ (.slice B2 m2 d2))) := Lib.hid (nd_only HLC.out HSZ.out)
      go_simp
      clear hHeld
      refine hK.out _ _ (KC.out _ HLF.out) (fun hHeld => ?_)
      clear hK K
      try simp only [List.set_cons_zero, List.set_cons_succ]
      refine oneA 13 10 hsel (h := ?_)
      simp only [Act.put, List.setIfInBounds_toArray, List.set_cons_zero, List.set_cons_succ]
      refine wpAnyL_done (by kernel_rfl) (by kernel_rfl) ?_ _
      clear hsel hHeld
      go_wp2_with (fail)
      go_meet
      exact ⟨wx.heap.size, ok, f, A2, n2, c2, B2, m2, d2, rfl, rfl, Lib.hid (((HBA.out.set_ 0 _).set_ 1 _).set_ 2 _), Lib.hid (fun h => by obtain ⟨y, h1, h2⟩ := HY.out h; exact ⟨y, h1, (nod_free HBA.out h2).nod _ ((nd_only (Only.refl (· = wx.heap.size) _) rfl).mono fun _ h => .inl h)⟩), HNO, HLF, HSZ⟩
  case rest =>
    obtain ⟨nb, ok, f, A, n, c, B, m1, d, rfl, rfl, HNB, HY, HNO, HLW, HNN⟩ := hcut
    have HLW4 : Hid (w.heap.size < w4.heap.size) := Lib.hid HI.out.lt
    have HIW := Lib.hid (HI.out.later HLW.out)
    have HNW := Lib.hid (HN.out.later HLW.out)
    have HBW := Lib.hid (HBX.out.later HLW.out)
    have HOW0 := Lib.hid (on_new HO4.out HLW.out)
    cases ok
    · have HPP1 := Lib.hid HPP.out.2
      go_upto_region 14 with (fail)
      have KN0 : Hid (∀ W, Only (fun j => j = w.heap.size) wc W → W.cell? ⟨w.heap.size + 1, 0, none⟩ = some (.bool false) ∧ W.cell? ⟨w.heap.size + 1, 1, none⟩ = some (.slice none 0 0) ∧ W.cell? ⟨w.heap.size + 1, 2, none⟩ = some (.slice none 0 0)) := Lib.hid fun W hW => (HNW.out.only hW (by omega)).tri
      refine wp_region_list (B := [false, false, false, false]) (S := (fun W => W.cell? ⟨w.heap.size + 1, 0, none⟩ = some (.bool false) ∧ W.cell? ⟨w.heap.size + 1, 1, none⟩ = some (.slice none 0 0) ∧ W.cell? ⟨w.heap.size + 1, 2, none⟩ = some (.slice none 0 0))) (by kernel_rfl) (by kernel_rfl) (by kernel_rfl) (KN0.out _ (Only.refl _ _).drew) (fun hsel hHeld => ?_)
      obtain ⟨wy, hwy⟩ : ∃ wy, wy = wc.drew := ⟨_, rfl⟩
      have KN : Hid (∀ W, Only (fun j => j = w.heap.size) wy W → W.cell? ⟨w.heap.size + 1, 0, none⟩ = some (.bool false) ∧ W.cell? ⟨w.heap.size + 1, 1, none⟩ = some (.slice none 0 0) ∧ W.cell? ⟨w.heap.size + 1, 2, none⟩ = some (.slice none 0 0)) := Lib.hid fun W hW => KN0.out W (((Only.refl _ _).drew : Only (fun j => j = w.heap.size) wc wc.drew).trans (by rw [← hwy]; exact hW))
      have HSY : Hid (Blk wy w.heap.size 35 [.bool false, .slice none 0 0, .slice none 0 0]) := Lib.hid (by rw [hwy]; exact HIW.out.drew)
      have HOS : Hid (Only (fun j => j = w.heap.size) wy (((wy.setCell ⟨w.heap.size, 0, none⟩ (.bool false)).setCell ⟨w.heap.size, 1, none⟩ (.slice none 0 0)).setCell ⟨w.heap.size, 2, none⟩ (.slice none 0 0))) := Lib.hid (nd_only (Only.refl _ _) rfl)
      have HOW : Hid (Only (fun j => j = w.heap.size) wc (((wy.setCell ⟨w.heap.size, 0, none⟩ (.bool false)).setCell ⟨w.heap.size, 1, none⟩ (.slice none 0 0)).setCell ⟨w.heap.size, 2, none⟩ (.slice none 0 0))) := Lib.hid (((Only.refl _ _).drew : Only (fun j => j = w.heap.size) wc wc.drew).trans (by rw [← hwy]; exact HOS.out))
      rw [← hwy] at hHeld
      rw [← hwy]
      clear hwy
      obtain ⟨s0, s1, s2⟩ := HSY.out.tri
      obtain ⟨z0, z1, z2⟩ := HSY.out.melt3
      refine oneA 0 59 hsel (h := ?_)
      simp only [Act.put, List.setIfInBounds_toArray, List.set_cons_zero, List.set_cons_succ]
      refine oneA 1 2 hsel (h := ?_)
      simp only [Act.put, List.setIfInBounds_toArray, List.set_cons_zero, List.set_cons_succ]
      refine wpAnyL_ready (rs := [2]) (by kernel_rfl) (by kernel_rfl) (by simp) ?_
      refine AllReadyL.cons (o := ?_) ?_ (fun K hK => ?_) AllReadyL.nil
      case refine_2 => (simp only [List.getElem?_cons_succ, List.getElem?_cons_zero]; rfl)
      go_simp
      clear hHeld
      refine hK.out _ _ (KN.out _ HOS.out) (fun hHeld => ?_)
      clear hK K
      try simp only [List.set_cons_zero, List.set_cons_succ]
      refine oneA 3 4 hsel (h := ?_)
      simp only [Act.put, List.setIfInBounds_toArray, List.set_cons_zero, List.set_cons_succ]
      refine wpAnyL_done (by kernel_rfl) (by kernel_rfl) ?_ _
      clear hsel hHeld
      go_wp2
      refine bodyPost_ret (results_tct rfl rfl (rload_node (((HSY.out.set_ 0 _).set_ 1 _).set_ 2 _))) rfl ?_
      exact gaveD_bad (HOW0.out.trans (HOW.out.mono fun j hj => by rw [hj]; exact Nat.le_refl _)) (fun h => by have := HNO.out (HPP1.out h); cases this) (by rw [HE.out]; rfl)
    · obtain ⟨y, h1, h2⟩ := HY.out rfl
      obtain ⟨h3, h4⟩ := HPP.out.1 _ h1
      subst h4
      have HND := Lib.hid h2
      have HDK := Lib.hid h3
      clear h1 h2 h3
      go_upto_region 15 with (fail)
      have KN0 : Hid (∀ W, Only (fun j => j = w.heap.size) wc W → W.cell? ⟨bl, 0, none⟩ = some (.int .i64 76) ∧ W.cell? ⟨bl, 1, none⟩ = some (.int .i64 g) ∧ W.cell? ⟨bl, 2, none⟩ = some (.int .i64 (m : Nat)) ∧ W.cell? ⟨bl, 3, none⟩ = some (.int .i64 x) ∧ W.cell? ⟨nb, 0, none⟩ = some (.bool f) ∧ W.cell? ⟨nb, 1, none⟩ = some (.slice A n c) ∧ W.cell? ⟨nb, 2, none⟩ = some (.slice B m1 d)) := Lib.hid fun W hW => ⟨(HBW.out.only hW (by have := HLT.out; omega)).four.1, (HBW.out.only hW (by have := HLT.out; omega)).four.2.1, (HBW.out.only hW (by have := HLT.out; omega)).four.2.2.1, (HBW.out.only hW (by have := HLT.out; omega)).four.2.2.2, (HNB.out.only hW (by have := HNN.out; have := HLW4.out; omega)).tri⟩
      refine wp_region_list (B := [false, false, false, false, false, false]) (S := (fun W => W.cell? ⟨bl, 0, none⟩ = some (.int .i64 76) ∧ W.cell? ⟨bl, 1, none⟩ = some (.int .i64 g) ∧ W.cell? ⟨bl, 2, none⟩ = some (.int .i64 (m : Nat)) ∧ W.cell? ⟨bl, 3, none⟩ = some (.int .i64 x) ∧ W.cell? ⟨nb, 0, none⟩ = some (.bool f) ∧ W.cell? ⟨nb, 1, none⟩ = some (.slice A n c) ∧ W.cell? ⟨nb, 2, none⟩ = some (.slice B m1 d))) (by kernel_rfl) (by kernel_rfl) (by kernel_rfl) (KN0.out _ (Only.refl _ _).drew) (fun hsel hHeld => ?_)
      obtain ⟨wy, hwy⟩ : ∃ wy, wy = wc.drew := ⟨_, rfl⟩
      have KN : Hid (∀ W, Only (fun j => j = w.heap.size) wy W → W.cell? ⟨bl, 0, none⟩ = some (.int .i64 76) ∧ W.cell? ⟨bl, 1, none⟩ = some (.int .i64 g) ∧ W.cell? ⟨bl, 2, none⟩ = some (.int .i64 (m : Nat)) ∧ W.cell? ⟨bl, 3, none⟩ = some (.int .i64 x) ∧ W.cell? ⟨nb, 0, none⟩ = some (.bool f) ∧ W.cell? ⟨nb, 1, none⟩ = some (.slice A n c) ∧ W.cell? ⟨nb, 2, none⟩ = some (.slice B m1 d)) := Lib.hid fun W hW => KN0.out W (((Only.refl _ _).drew : Only (fun j => j = w.heap.size) wc wc.drew).trans (by rw [← hwy]; exact hW))
      have HSY : Hid (Blk wy w.heap.size 35 [.bool false, .slice none 0 0, .slice none 0 0]) := Lib.hid (by rw [hwy]; exact HIW.out.drew)
      have HOS : Hid (Only (fun j => j = w.heap.size) wy (((wy.setCell ⟨w.heap.size, 0, none⟩ (.bool f)).setCell ⟨w.heap.size, 1, none⟩ (.slice A n c)).setCell ⟨w.heap.size, 2, none⟩ (.slice B m1 d))) := Lib.hid (nd_only (Only.refl _ _) rfl)
      have HOW : Hid (Only (fun j => j = w.heap.size) wc (((wy.setCell ⟨w.heap.size, 0, none⟩ (.bool f)).setCell ⟨w.heap.size, 1, none⟩ (.slice A n c)).setCell ⟨w.heap.size, 2, none⟩ (.slice B m1 d))) := Lib.hid (((Only.refl _ _).drew : Only (fun j => j = w.heap.size) wc wc.drew).trans (by rw [← hwy]; exact HOS.out))
      rw [← hwy] at hHeld
      rw [← hwy]
      clear hwy
      obtain ⟨s0, s1, s2⟩ := HSY.out.tri
      obtain ⟨z0, z1, z2⟩ := HSY.out.melt3
      refine oneA 0 60 hsel (h := ?_)
      simp only [Act.put, List.setIfInBounds_toArray, List.set_cons_zero, List.set_cons_succ]
      refine oneA 1 61 hsel (h := ?_)
      simp only [Act.put, List.setIfInBounds_toArray, List.set_cons_zero, List.set_cons_succ]
      refine oneA 2 62 hsel (h := ?_)
      simp only [Act.put, List.setIfInBounds_toArray, List.set_cons_zero, List.set_cons_succ]
      refine oneA 3 2 hsel (h := ?_)
      simp only [Act.put, List.setIfInBounds_toArray, List.set_cons_zero, List.set_cons_succ]
      refine wpAnyL_ready (rs := [4]) (by kernel_rfl) (by kernel_rfl) (by simp) ?_
      refine AllReadyL.cons (o := ?_) ?_ (fun K hK => ?_) AllReadyL.nil
      case refine_2 => (simp only [List.getElem?_cons_succ, List.getElem?_cons_zero]; rfl)
      go_simp
      clear hHeld
      refine hK.out _ _ (KN.out _ HOS.out) (fun hHeld => ?_)
      clear hK K
      try simp only [List.set_cons_zero, List.set_cons_succ]
      refine oneA 5 4 hsel (h := ?_)
      simp only [Act.put, List.setIfInBounds_toArray, List.set_cons_zero, List.set_cons_succ]
      refine wpAnyL_done (by kernel_rfl) (by kernel_rfl) ?_ _
      clear hsel hHeld
      go_wp2
      refine bodyPost_ret (results_tct rfl rfl (rload_node (((HSY.out.set_ 0 _).set_ 1 _).set_ 2 _))) rfl ?_
      exact ⟨true, ⟨fun _ => HDK.out, fun _ => rfl⟩, f, A, n, c, B, m1, d, by rw [if_pos rfl, if_pos rfl, ← HGE.out]; rfl, (nod_free HIW.out HND.out).nod _ (HOW.out.mono fun _ h => .inl h), HOW0.out.trans (HOW.out.mono fun j hj => by rw [hj]; exact Nat.le_refl _)⟩

set_option maxRecDepth 100000 in
set_option maxHeartbeats 12800000 in
theorem rd_go2K (w : World) (bb o c : Nat) (b body SB : Bytes) (g x : Int) (m : Nat) (P : Nd → Prop) (hc : 256 ≤ c) (hg : 1 < g) (hSB : SB = b)
    (hH : ∀ W, Only (w.heap.size ≤ ·) w W → Calls Tryz.prog 19 #[.slice (some ⟨bb, o, none⟩) 256 c] W (Told W (.tuple #[.agg #[.int .i64 66, .int .i64 g, .int .i64 (m : Nat), .int .i64 x], .int .i64 0])))
    (hL : ∀ W, Only (w.heap.size ≤ ·) w W → Calls Tryz.prog 20 #[.slice (some ⟨bb, o, none⟩) 256 c, .int .i64 4] W (GaveB W SB)) (hs : ∀ W, Only (w.heap.size ≤ ·) w W → Src W (.slice (some ⟨bb, o, none⟩) 256 c) b)
    (hC : ∀ W, Calls Tryz.prog 22 #[.int .i64 g] W fun e w' => e = .returned (.int .i64 240) ∧ W = w') (hB : ∀ W, Only (w.heap.size ≤ ·) w W → Src W (.slice (some ⟨bb, o + 16, none⟩) (256 - 16) (c - 16)) body)
    (hF : ∀ W u, Only (w.heap.size ≤ ·) w W → Src W u body → Calls Tryz.prog 21 #[.agg #[.int .i64 66, .int .i64 g, .int .i64 (m : Nat), .int .i64 x], u] W (GaveFm W P))
    (hE : nhE b = 0) (hgE : (g : Int) = (hdG b : Nat)) (hPy : ∀ y, P y → DecOk b ∧ y = dcN b) (hPn : DecOk b → ∃ y, P y) :
    Calls Tryz.prog 7 #[.slice (some ⟨bb, o, none⟩) 256 c] w (GaveD w b) := by
  obtain ⟨W0, hW0⟩ : ∃ W0, W0 = (w.alloc (.cells #[.bool false, .slice none 0 0, .slice none 0 0] 35)).alloc (.cells #[.bool false, .slice none 0 0, .slice none 0 0] 35) := ⟨_, rfl⟩
  have HO : Hid (Only (w.heap.size ≤ ·) w W0) := Lib.hid (by rw [hW0]; exact ((Only.refl _ w).alloc (fun _ h => h) _).alloc (fun _ h => h) _)
  have HI : Hid (Blk W0 w.heap.size 35 [.bool false, .slice none 0 0, .slice none 0 0]) := Lib.hid (by rw [hW0]; exact (Blk.new w 35 _).alloc _)
  have HN : Hid (Blk W0 (w.heap.size + 1) 35 [.bool false, .slice none 0 0, .slice none 0 0]) := Lib.hid (by
    rw [hW0]
    have := Blk.new (w.alloc (.cells #[.bool false, .slice none 0 0, .slice none 0 0] 35)) 35 [.bool false, .slice none 0 0, .slice none 0 0]
    simpa using this)
  have HHO := Lib.hid hH
  have HSL := Lib.hid hL
  have HSS := Lib.hid hs
  have HCP := Lib.hid hC
  have HBD := Lib.hid hB
  have HFO := Lib.hid hF
  have HPP := Lib.hid (And.intro hPy hPn)
  have HE := Lib.hid hE
  have HGE := Lib.hid hgE
  have y1 : (256 : Int) ≤ (c : Int) := by omega
  have y2 : ¬ c = 16 := by omega
  have y3 : 16 ≤ c := by omega
  subst hSB
  have hgb : decide (1 < g) = true := decide_eq_true hg
  clear hg
  clear hH hL hs hC hB hF hE hgE hPy hPn hc
  go_enter Tryz.func7, Tryz.ntmps7
  go_upto_region 1 with (fail)
  go_upto_region 2 with (fail)
  rw [← hW0]
  clear hW0
  go_upto_region 5 with (go_at_call 19; (with_reducible refine (HHO.out _ HO.out).mono ?_); rintro e w1 ⟨rfl, ho⟩; (replace HI := Lib.hid (HI.out.later ho)); (replace HN := Lib.hid (HN.out.later ho)); (replace HO := Lib.hid (on_new HO.out ho)); clear ho)
  have HBX : Hid (Blk (w1.alloc (.cells #[.int .i64 66, .int .i64 g, .int .i64 (m : Nat), .int .i64 x] 55)) w1.heap.size 55 [.int .i64 66, .int .i64 g, .int .i64 (m : Nat), .int .i64 x]) := Lib.hid (Blk.new w1 55 _)
  have HLT : Hid (w.heap.size + 1 < w1.heap.size) := Lib.hid HN.out.lt
  replace HI := Lib.hid (HI.out.alloc (.cells #[.int .i64 66, .int .i64 g, .int .i64 (m : Nat), .int .i64 x] 55))
  replace HN := Lib.hid (HN.out.alloc (.cells #[.int .i64 66, .int .i64 g, .int .i64 (m : Nat), .int .i64 x] 55))
  replace HO := Lib.hid (HO.out.alloc (fun _ h => h) (.cells #[.int .i64 66, .int .i64 g, .int .i64 (m : Nat), .int .i64 x] 55))
  generalize hbl : w1.heap.size = bl at HBX HLT
  obtain ⟨W2, hW2⟩ : ∃ W2, W2 = w1.alloc (.cells #[.int .i64 66, .int .i64 g, .int .i64 (m : Nat), .int .i64 x] 55) := ⟨_, rfl⟩
  rw [← hW2] at HBX HI HN HO
  rw [← hW2]
  clear hW2 hbl
  obtain ⟨b0, b1, b2, b3⟩ := HBX.out.four
  have hcut : True := trivial
  go_upto_region 10 with (go_at_call 20; (with_reducible refine (HSL.out _ HO.out).mono ?_); rintro e w3 ⟨sv, rfl, hsv, ho⟩; have HSV := Lib.hid hsv; (replace HI := Lib.hid (HI.out.later ho)); (replace HN := Lib.hid (HN.out.later ho)); (replace HBX := Lib.hid (HBX.out.later ho)); (replace HO := Lib.hid (on_new HO.out ho)); clear ho hsv b0 b1 b2 b3; (obtain ⟨b0, b1, b2, b3⟩ := HBX.out.four))
  have k1 := convert_src HSV.out
  have k2 := convert_src (HSS.out _ HO.out)
  go_upto_region 12 with (fail)
  clear k1 k2
  obtain ⟨w4, hw4⟩ : ∃ x, x = w3 := ⟨_, rfl⟩
  subst hw4
  clear b0 b1 b2 b3
  have HO4 := Lib.hid HO.out
  have KC : Hid (∀ W, Only (w4.heap.size ≤ ·) w4 W → W.cell? ⟨bl, 0, none⟩ = some (.int .i64 66) ∧ W.cell? ⟨bl, 1, none⟩ = some (.int .i64 g) ∧ W.cell? ⟨bl, 2, none⟩ = some (.int .i64 (m : Nat)) ∧ W.cell? ⟨bl, 3, none⟩ = some (.int .i64 x)) := Lib.hid fun W hW => (HBX.out.later hW).four
  have HLC : Hid (Only (w4.heap.size ≤ ·) w4 w4.drew) := Lib.hid (Only.refl _ w4).drew
  go_cut [9, 10] from 46 to 56 (fun y bv wz => ∃ (nb : Nat) (ok f : Bool) (A : Option Addr) (n c : Nat) (B : Option Addr) (m d : Nat), y = .pointer (some ⟨nb, 0, none⟩) ∧ bv = .bool ok ∧ Hid (Blk wz nb 35 [.bool f, .slice A n c, .slice B m d]) ∧ Hid (ok = true → ∃ y, P y ∧ Nod wz y f (.slice A n c) (.slice B m d)) ∧ Hid ((∃ y, P y) → ok = true) ∧ Hid (Only (w4.heap.size ≤ ·) w4 wz) ∧ Hid (w4.heap.size ≤ nb))
  case first =>
    refine wp_region_list (B := [false, false, false, false, false, false, false, false, false, false, false, false, false, false]) (S := (fun W => W.cell? ⟨bl, 0, none⟩ = some (.int .i64 66) ∧ W.cell? ⟨bl, 1, none⟩ = some (.int .i64 g) ∧ W.cell? ⟨bl, 2, none⟩ = some (.int .i64 (m : Nat)) ∧ W.cell? ⟨bl, 3, none⟩ = some (.int .i64 x))) (by kernel_rfl) (by kernel_rfl) (by kernel_rfl) (KC.out _ HLC.out) (fun hsel hHeld => ?_)
    obtain ⟨wx, hwx⟩ : ∃ wx, wx = w4.drew := ⟨_, rfl⟩
    rw [← hwx] at HLC hHeld
    rw [← hwx]
    clear hwx
    refine oneA 0 47 hsel (h := ?_)
    simp only [Act.put, List.setIfInBounds_toArray, List.set_cons_zero, List.set_cons_succ]
    refine oneA 1 48 hsel (h := ?_)
    simp only [Act.put, List.setIfInBounds_toArray, List.set_cons_zero, List.set_cons_succ]
    refine oneA 2 49 hsel (h := ?_)
    simp only [Act.put, List.setIfInBounds_toArray, List.set_cons_zero, List.set_cons_succ]
    refine oneA 3 50 hsel (h := ?_)
    simp only [Act.put, List.setIfInBounds_toArray, List.set_cons_zero, List.set_cons_succ]
    refine wpAnyL_ready (rs := [4, 11]) (by kernel_rfl) (by kernel_rfl) (by simp) ?_
    refine AllReadyL.cons (o := ?_) ?_ (fun K hK => ?_) (AllReadyL.cons (o := ?_) ?_ (fun K hK => ?_) AllReadyL.nil)
    case refine_2 => (simp only [List.getElem?_cons_succ, List.getElem?_cons_zero]; rfl)
    case refine_5 => (simp only [List.getElem?_cons_succ, List.getElem?_cons_zero]; rfl)
    case refine_3 =>
      go_simp
      (go_at_call 22; (with_reducible refine (HCP.out _).mono ?_); rintro ee w' ⟨rfl, rfl⟩)
      go_wp2_with (fail)
      clear hHeld
      refine hK.out _ _ (KC.out _ HLC.out) (fun hHeld => ?_)
      clear hK K
      try simp only [List.set_cons_zero, List.set_cons_succ]
      refine take_oneL (i := 5) (d := 52) (oi := ?_) (v := ?_) ?_ hsel (by kernel_rfl) (by kernel_rfl) (fun _ _ _ h => h) ?_ ?_ ?_ (by assumption) ?_
      case refine_3 => (simp only [List.getElem?_cons_succ, List.getElem?_cons_zero]; rfl)
      case refine_4 => rfl
      case refine_5 => rfl
      case refine_6 => (intro w' hSw; (try dsimp only at hSw); go_simp; exact (rfl : Value.int IntKind.i64 16 = _))
      simp only [Act.put, List.setIfInBounds_toArray, List.set_cons_zero, List.set_cons_succ]
      refine oneA 6 53 hsel (h := ?_)
      simp only [Act.put, List.setIfInBounds_toArray, List.set_cons_zero, List.set_cons_succ]
      refine wpAnyL_ready (rs := [7, 11]) (by kernel_rfl) (by kernel_rfl) (by simp) ?_
      refine AllReadyL.cons (o := ?_) ?_ (fun K hK => ?_) (AllReadyL.cons (o := ?_) ?_ (fun K hK => ?_) AllReadyL.nil)
      case refine_2 => (simp only [List.getElem?_cons_succ, List.getElem?_cons_zero]; rfl)
      case refine_5 => (simp only [List.getElem?_cons_succ, List.getElem?_cons_zero]; rfl)
      case refine_3 =>
        go_simp
        (go_at_call 21; (with_reducible refine (HFO.out _ _ (on_new HO4.out HLC.out) (HBD.out _ (on_new HO4.out HLC.out))).mono ?_); rintro ee w6 ⟨ho, ok, f, A2, n2, c2, B2, m2, d2, rfl, hy, hn⟩; have HY := Lib.hid hy; have HNO := Lib.hid hn; (replace HLC := Lib.hid (on_new HLC.out ho)); clear hy hn ho)
        go_wp2_with (fail)
        clear hHeld
        refine hK.out _ _ (KC.out _ HLC.out) (fun hHeld => ?_)
        clear hK K
        try simp only [List.set_cons_zero, List.set_cons_succ]
        refine oneA 8 46 hsel (h := ?_)
        simp only [Act.put, List.setIfInBounds_toArray, List.set_cons_zero, List.set_cons_succ]
        refine oneA 9 55 hsel (h := ?_)
        simp only [Act.put, List.setIfInBounds_toArray, List.set_cons_zero, List.set_cons_succ]
        refine oneA 10 56 hsel (h := ?_)
        simp only [Act.put, List.setIfInBounds_toArray, List.set_cons_zero, List.set_cons_succ]
        refine wpAnyL_ready (rs := [11]) (by kernel_rfl) (by kernel_rfl) (by simp) ?_
        refine AllReadyL.cons (o := ?_) ?_ (fun K hK => ?_) AllReadyL.nil
        case refine_2 => (simp only [List.getElem?_cons_succ, List.getElem?_cons_zero]; rfl)
        go_simp
        have HBA : Hid (Blk (w6.alloc (.cells #[.bool false, .slice none 0 0, .slice none 0 0] 35)) w6.heap.size 35 [.bool false, .slice none 0 0, .slice none 0 0]) := Lib.hid (Blk.new w6 35 _)
        have HAL : Hid (Only (w6.heap.size ≤ ·) w6 (w6.alloc (.cells #[.bool false, .slice none 0 0, .slice none 0 0] 35))) := Lib.hid ((Only.refl _ _).alloc (fun _ h => h) _)
        have HLP := Lib.hid HLC.out
        have HSZ : Hid (w4.heap.size ≤ w6.heap.size) := Lib.hid HLC.out.size
        replace HLC : Hid (Only (w4.heap.size ≤ ·) w4 (w6.alloc (.cells #[.bool false, .slice none 0 0, .slice none 0 0] 35))) := Lib.hid (HLC.out.alloc (fun _ h => h) _)
        obtain ⟨a0, a1, a2⟩ := HBA.out.tri
        obtain ⟨e0, e1, e2⟩ := HBA.out.melt3
        clear hHeld
        refine hK.out _ _ (KC.out _ HLC.out) (fun hHeld => ?_)
        clear hK K
        try simp only [List.set_cons_zero, List.set_cons_succ]
        refine wpAnyL_ready (rs := [12]) (by kernel_rfl) (by kernel_rfl) (by simp) ?_
        refine AllReadyL.cons (o := ?_) ?_ (fun K hK => ?_) AllReadyL.nil
        case refine_2 => (simp only [List.getElem?_cons_succ, List.getElem?_cons_zero]; rfl)
        have HLF : Hid (Only (w4.heap.size ≤ ·) w4 (w6.alloc (.cells #[.bool f, .slice A2 n2 c2, .slice B2 m2 d2] 35))) := Lib.hid (HLP.out.alloc (fun _ h => h) _)
        go_simp
        clear hHeld
        refine hK.out _ _ (KC.out _ HLF.out) (fun hHeld => ?_)
        clear hK K
        try simp only [List.set_cons_zero, List.set_cons_succ]
        refine oneA 13 10 hsel (h := ?_)
        simp only [Act.put, List.setIfInBounds_toArray, List.set_cons_zero, List.set_cons_succ]
        refine wpAnyL_done (by kernel_rfl) (by kernel_rfl) ?_ _
        clear hsel hHeld
        go_wp2_with (fail)
        go_meet
        exact ⟨_, ok, f, A2, n2, c2, B2, m2, d2, rfl, rfl, Lib.hid (Blk.new w6 35 _), Lib.hid (fun h => by obtain ⟨y, h1, h2⟩ := HY.out h; exact ⟨y, h1, h2.later ((Only.refl _ _).alloc (fun _ h => h) _)⟩), HNO, HLF, HSZ⟩
      case refine_6 =>
        go_simp
        have HBA : Hid (Blk (wx.alloc (.cells #[.bool false, .slice none 0 0, .slice none 0 0] 35)) wx.heap.size 35 [.bool false, .slice none 0 0, .slice none 0 0]) := Lib.hid (Blk.new wx 35 _)
        have HAL : Hid (Only (wx.heap.size ≤ ·) wx (wx.alloc (.cells #[.bool false, .slice none 0 0, .slice none 0 0] 35))) := Lib.hid ((Only.refl _ _).alloc (fun _ h => h) _)
        have HLP := Lib.hid HLC.out
        have HSZ : Hid (w4.heap.size ≤ wx.heap.size) := Lib.hid HLC.out.size
        replace HLC : Hid (Only (w4.heap.size ≤ ·) w4 (wx.alloc (.cells #[.bool false, .slice none 0 0, .slice none 0 0] 35))) := Lib.hid (HLC.out.alloc (fun _ h => h) _)
        clear hHeld
        refine hK.out _ _ (KC.out _ HLC.out) (fun hHeld => ?_)
        clear hK K
        try simp only [List.set_cons_zero, List.set_cons_succ]
        refine wpAnyL_ready (rs := [7]) (by kernel_rfl) (by kernel_rfl) (by simp) ?_
        refine AllReadyL.cons (o := ?_) ?_ (fun K hK => ?_) AllReadyL.nil
        case refine_2 => (simp only [List.getElem?_cons_succ, List.getElem?_cons_zero]; rfl)
        go_simp
        (go_at_call 21; (with_reducible refine (HFO.out _ _ (on_new HO4.out HLC.out) (HBD.out _ (on_new HO4.out HLC.out))).mono ?_); rintro ee w6 ⟨ho, ok, f, A2, n2, c2, B2, m2, d2, rfl, hy, hn⟩; have HY := Lib.hid hy; have HNO := Lib.hid hn; (replace HBA := Lib.hid (HBA.out.later ho)); (obtain ⟨a0, a1, a2⟩ := HBA.out.tri); (obtain ⟨e0, e1, e2⟩ := HBA.out.melt3); (replace HLC := Lib.hid (on_new HLC.out ho)); clear hy hn ho)
        go_wp2_with (fail)
        clear hHeld
        refine hK.out _ _ (KC.out _ HLC.out) (fun hHeld => ?_)
        clear hK K
        try simp only [List.set_cons_zero, List.set_cons_succ]
        refine oneA 8 46 hsel (h := ?_)
        simp only [Act.put, List.setIfInBounds_toArray, List.set_cons_zero, List.set_cons_succ]
        refine oneA 9 55 hsel (h := ?_)
        simp only [Act.put, List.setIfInBounds_toArray, List.set_cons_zero, List.set_cons_succ]
        refine oneA 10 56 hsel (h := ?_)
        simp only [Act.put, List.setIfInBounds_toArray, List.set_cons_zero, List.set_cons_succ]
        refine wpAnyL_ready (rs := [12]) (by kernel_rfl) (by kernel_rfl) (by simp) ?_
        refine AllReadyL.cons (o := ?_) ?_ (fun K hK => ?_) AllReadyL.nil
        case refine_2 => (simp only [List.getElem?_cons_succ, List.getElem?_cons_zero]; rfl)
        have HLF : Hid (Only (w4.heap.size ≤ ·) w4 (((w6.setCell ⟨wx.heap.size, 0, none⟩ (.bool f)).setCell ⟨wx.heap.size, 1, none⟩ (.slice A2 n2 c2)).setCell ⟨wx.heap.size, 2, none⟩ (.slice B2 m2 d2))) := Lib.hid (nd_only HLC.out HSZ.out)
        go_simp
        clear hHeld
        refine hK.out _ _ (KC.out _ HLF.out) (fun hHeld => ?_)
        clear hK K
        try simp only [List.set_cons_zero, List.set_cons_succ]
        refine oneA 13 10 hsel (h := ?_)
        simp only [Act.put, List.setIfInBounds_toArray, List.set_cons_zero, List.set_cons_succ]
        refine wpAnyL_done (by kernel_rfl) (by kernel_rfl) ?_ _
        clear hsel hHeld
        go_wp2_with (fail)
        go_meet
        exact ⟨wx.heap.size, ok, f, A2, n2, c2, B2, m2, d2, rfl, rfl, Lib.hid (((HBA.out.set_ 0 _).set_ 1 _).set_ 2 _), Lib.hid (fun h => by obtain ⟨y, h1, h2⟩ := HY.out h; exact ⟨y, h1, (nod_free HBA.out h2).nod _ ((nd_only (Only.refl (· = wx.heap.size) _) rfl).mono fun _ h => .inl h)⟩), HNO, HLF, HSZ⟩
    case refine_6 =>
      go_simp
      have HBA : Hid (Blk (wx.alloc (.cells #[.bool false, .slice none 0 0, .slice none 0 0] 35)) wx.heap.size 35 [.bool false, .slice none 0 0, .slice none 0 0]) := Lib.hid (Blk.new wx 35 _)
      have HAL : Hid (Only (wx.heap.size ≤ ·) wx (wx.alloc (.cells #[.bool false, .slice none 0 0, .slice none 0 0] 35))) := Lib.hid ((Only.refl _ _).alloc (fun _ h => h) _)
      have HLP := Lib.hid HLC.out
      have HSZ : Hid (w4.heap.size ≤ wx.heap.size) := Lib.hid HLC.out.size
      replace HLC : Hid (Only (w4.heap.size ≤ ·) w4 (wx.alloc (.cells #[.bool false, .slice none 0 0, .slice none 0 0] 35))) := Lib.hid (HLC.out.alloc (fun _ h => h) _)
      clear hHeld
      refine hK.out _ _ (KC.out _ HLC.out) (fun hHeld => ?_)
      clear hK K
      try simp only [List.set_cons_zero, List.set_cons_succ]
      refine wpAnyL_ready (rs := [4]) (by kernel_rfl) (by kernel_rfl) (by simp) ?_
      refine AllReadyL.cons (o := ?_) ?_ (fun K hK => ?_) AllReadyL.nil
      case refine_2 => (simp only [List.getElem?_cons_succ, List.getElem?_cons_zero]; rfl)
      go_simp
      (go_at_call 22; (with_reducible refine (HCP.out _).mono ?_); rintro ee w' ⟨rfl, rfl⟩)
      go_wp2_with (fail)
      clear hHeld
      refine hK.out _ _ (KC.out _ HLC.out) (fun hHeld => ?_)
      clear hK K
      try simp only [List.set_cons_zero, List.set_cons_succ]
      refine take_oneL (i := 5) (d := 52) (oi := ?_) (v := ?_) ?_ hsel (by kernel_rfl) (by kernel_rfl) (fun _ _ _ h => h) ?_ ?_ ?_ (by assumption) ?_
      case refine_3 => (simp only [List.getElem?_cons_succ, List.getElem?_cons_zero]; rfl)
      case refine_4 => rfl
      case refine_5 => rfl
      case refine_6 => (intro w' hSw; (try dsimp only at hSw); go_simp; exact (rfl : Value.int IntKind.i64 16 = _))
      simp only [Act.put, List.setIfInBounds_toArray, List.set_cons_zero, List.set_cons_succ]
      refine oneA 6 53 hsel (h := ?_)
      simp only [Act.put, List.setIfInBounds_toArray, List.set_cons_zero, List.set_cons_succ]
      refine wpAnyL_ready (rs := [7]) (by kernel_rfl) (by kernel_rfl) (by simp) ?_
      refine AllReadyL.cons (o := ?_) ?_ (fun K hK => ?_) AllReadyL.nil
      case refine_2 => (simp only [List.getElem?_cons_succ, List.getElem?_cons_zero]; rfl)
      go_simp
      (go_at_call 21; (with_reducible refine (HFO.out _ _ (on_new HO4.out HLC.out) (HBD.out _ (on_new HO4.out HLC.out))).mono ?_); rintro ee w6 ⟨ho, ok, f, A2, n2, c2, B2, m2, d2, rfl, hy, hn⟩; have HY := Lib.hid hy; have HNO := Lib.hid hn; (replace HBA := Lib.hid (HBA.out.later ho)); (obtain ⟨a0, a1, a2⟩ := HBA.out.tri); (obtain ⟨e0, e1, e2⟩ := HBA.out.melt3); (replace HLC := Lib.hid (on_new HLC.out ho)); clear hy hn ho)
      go_wp2_with (fail)
      clear hHeld
      refine hK.out _ _ (KC.out _ HLC.out) (fun hHeld => ?_)
      clear hK K
      try simp only [List.set_cons_zero, List.set_cons_succ]
      refine oneA 8 46 hsel (h := ?_)
      simp only [Act.put, List.setIfInBounds_toArray, List.set_cons_zero, List.set_cons_succ]
      refine oneA 9 55 hsel (h := ?_)
      simp only [Act.put, List.setIfInBounds_toArray, List.set_cons_zero, List.set_cons_succ]
      refine oneA 10 56 hsel (h := ?_)
      simp only [Act.put, List.setIfInBounds_toArray, List.set_cons_zero, List.set_cons_succ]
      refine wpAnyL_ready (rs := [12]) (by kernel_rfl) (by kernel_rfl) (by simp) ?_
      refine AllReadyL.cons (o := ?_) ?_ (fun K hK => ?_) AllReadyL.nil
      case refine_2 => (simp only [List.getElem?_cons_succ, List.getElem?_cons_zero]; rfl)
      have HLF : Hid (Only (w4.heap.size ≤ ·) w4 (((w6.setCell ⟨wx.heap.size, 0, none⟩ (.bool f)).setCell ⟨wx.heap.size, 1, none⟩ (.slice A2 n2 c2)).setCell ⟨wx.heap.size, 2, none⟩ (.slice B2 m2 d2))) := Lib.hid (nd_only HLC.out HSZ.out)
      go_simp
      clear hHeld
      refine hK.out _ _ (KC.out _ HLF.out) (fun hHeld => ?_)
      clear hK K
      try simp only [List.set_cons_zero, List.set_cons_succ]
      refine oneA 13 10 hsel (h := ?_)
      simp only [Act.put, List.setIfInBounds_toArray, List.set_cons_zero, List.set_cons_succ]
      refine wpAnyL_done (by kernel_rfl) (by kernel_rfl) ?_ _
      clear hsel hHeld
      go_wp2_with (fail)
      go_meet
      exact ⟨wx.heap.size, ok, f, A2, n2, c2, B2, m2, d2, rfl, rfl, Lib.hid (((HBA.out.set_ 0 _).set_ 1 _).set_ 2 _), Lib.hid (fun h => by obtain ⟨y, h1, h2⟩ := HY.out h; exact ⟨y, h1, (nod_free HBA.out h2).nod _ ((nd_only (Only.refl (· = wx.heap.size) _) rfl).mono fun _ h => .inl h)⟩), HNO, HLF, HSZ⟩
  case rest =>
    obtain ⟨nb, ok, f, A, n, c, B, m1, d, rfl, rfl, HNB, HY, HNO, HLW, HNN⟩ := hcut
    have HLW4 : Hid (w.heap.size < w4.heap.size) := Lib.hid HI.out.lt
    have HIW := Lib.hid (HI.out.later HLW.out)
    have HNW := Lib.hid (HN.out.later HLW.out)
    have HBW := Lib.hid (HBX.out.later HLW.out)
    have HOW0 := Lib.hid (on_new HO4.out HLW.out)
    cases ok
    · have HPP1 := Lib.hid HPP.out.2
      go_upto_region 14 with (fail)
      have KN0 : Hid (∀ W, Only (fun j => j = w.heap.size) wc W → W.cell? ⟨w.heap.size + 1, 0, none⟩ = some (.bool false) ∧ W.cell? ⟨w.heap.size + 1, 1, none⟩ = some (.slice none 0 0) ∧ W.cell? ⟨w.heap.size + 1, 2, none⟩ = some (.slice none 0 0)) := Lib.hid fun W hW => (HNW.out.only hW (by omega)).tri
      refine wp_region_list (B := [false, false, false, false]) (S := (fun W => W.cell? ⟨w.heap.size + 1, 0, none⟩ = some (.bool false) ∧ W.cell? ⟨w.heap.size + 1, 1, none⟩ = some (.slice none 0 0) ∧ W.cell? ⟨w.heap.size + 1, 2, none⟩ = some (.slice none 0 0))) (by kernel_rfl) (by kernel_rfl) (by kernel_rfl) (KN0.out _ (Only.refl _ _).drew) (fun hsel hHeld => ?_)
      obtain ⟨wy, hwy⟩ : ∃ wy, wy = wc.drew := ⟨_, rfl⟩
      have KN : Hid (∀ W, Only (fun j => j = w.heap.size) wy W → W.cell? ⟨w.heap.size + 1, 0, none⟩ = some (.bool false) ∧ W.cell? ⟨w.heap.size + 1, 1, none⟩ = some (.slice none 0 0) ∧ W.cell? ⟨w.heap.size + 1, 2, none⟩ = some (.slice none 0 0)) := Lib.hid fun W hW => KN0.out W (((Only.refl _ _).drew : Only (fun j => j = w.heap.size) wc wc.drew).trans (by rw [← hwy]; exact hW))
      have HSY : Hid (Blk wy w.heap.size 35 [.bool false, .slice none 0 0, .slice none 0 0]) := Lib.hid (by rw [hwy]; exact HIW.out.drew)
      have HOS : Hid (Only (fun j => j = w.heap.size) wy (((wy.setCell ⟨w.heap.size, 0, none⟩ (.bool false)).setCell ⟨w.heap.size, 1, none⟩ (.slice none 0 0)).setCell ⟨w.heap.size, 2, none⟩ (.slice none 0 0))) := Lib.hid (nd_only (Only.refl _ _) rfl)
      have HOW : Hid (Only (fun j => j = w.heap.size) wc (((wy.setCell ⟨w.heap.size, 0, none⟩ (.bool false)).setCell ⟨w.heap.size, 1, none⟩ (.slice none 0 0)).setCell ⟨w.heap.size, 2, none⟩ (.slice none 0 0))) := Lib.hid (((Only.refl _ _).drew : Only (fun j => j = w.heap.size) wc wc.drew).trans (by rw [← hwy]; exact HOS.out))
      rw [← hwy] at hHeld
      rw [← hwy]
      clear hwy
      obtain ⟨s0, s1, s2⟩ := HSY.out.tri
      obtain ⟨z0, z1, z2⟩ := HSY.out.melt3
      refine oneA 0 59 hsel (h := ?_)
      simp only [Act.put, List.setIfInBounds_toArray, List.set_cons_zero, List.set_cons_succ]
      refine oneA 1 2 hsel (h := ?_)
      simp only [Act.put, List.setIfInBounds_toArray, List.set_cons_zero, List.set_cons_succ]
      refine wpAnyL_ready (rs := [2]) (by kernel_rfl) (by kernel_rfl) (by simp) ?_
      refine AllReadyL.cons (o := ?_) ?_ (fun K hK => ?_) AllReadyL.nil
      case refine_2 => (simp only [List.getElem?_cons_succ, List.getElem?_cons_zero]; rfl)
      go_simp
      clear hHeld
      refine hK.out _ _ (KN.out _ HOS.out) (fun hHeld => ?_)
      clear hK K
      try simp only [List.set_cons_zero, List.set_cons_succ]
      refine oneA 3 4 hsel (h := ?_)
      simp only [Act.put, List.setIfInBounds_toArray, List.set_cons_zero, List.set_cons_succ]
      refine wpAnyL_done (by kernel_rfl) (by kernel_rfl) ?_ _
      clear hsel hHeld
      go_wp2
      refine bodyPost_ret (results_tct rfl rfl (rload_node (((HSY.out.set_ 0 _).set_ 1 _).set_ 2 _))) rfl ?_
      exact gaveD_bad (HOW0.out.trans (HOW.out.mono fun j hj => by rw [hj]; exact Nat.le_refl _)) (fun h => by have := HNO.out (HPP1.out h); cases this) (by rw [HE.out]; rfl)
    · obtain ⟨y, h1, h2⟩ := HY.out rfl
      obtain ⟨h3, h4⟩ := HPP.out.1 _ h1
      subst h4
      have HND := Lib.hid h2
      have HDK := Lib.hid h3
      clear h1 h2 h3
      go_upto_region 15 with (fail)
      have KN0 : Hid (∀ W, Only (fun j => j = w.heap.size) wc W → W.cell? ⟨bl, 0, none⟩ = some (.int .i64 66) ∧ W.cell? ⟨bl, 1, none⟩ = some (.int .i64 g) ∧ W.cell? ⟨bl, 2, none⟩ = some (.int .i64 (m : Nat)) ∧ W.cell? ⟨bl, 3, none⟩ = some (.int .i64 x) ∧ W.cell? ⟨nb, 0, none⟩ = some (.bool f) ∧ W.cell? ⟨nb, 1, none⟩ = some (.slice A n c) ∧ W.cell? ⟨nb, 2, none⟩ = some (.slice B m1 d)) := Lib.hid fun W hW => ⟨(HBW.out.only hW (by have := HLT.out; omega)).four.1, (HBW.out.only hW (by have := HLT.out; omega)).four.2.1, (HBW.out.only hW (by have := HLT.out; omega)).four.2.2.1, (HBW.out.only hW (by have := HLT.out; omega)).four.2.2.2, (HNB.out.only hW (by have := HNN.out; have := HLW4.out; omega)).tri⟩
      refine wp_region_list (B := [false, false, false, false, false, false]) (S := (fun W => W.cell? ⟨bl, 0, none⟩ = some (.int .i64 66) ∧ W.cell? ⟨bl, 1, none⟩ = some (.int .i64 g) ∧ W.cell? ⟨bl, 2, none⟩ = some (.int .i64 (m : Nat)) ∧ W.cell? ⟨bl, 3, none⟩ = some (.int .i64 x) ∧ W.cell? ⟨nb, 0, none⟩ = some (.bool f) ∧ W.cell? ⟨nb, 1, none⟩ = some (.slice A n c) ∧ W.cell? ⟨nb, 2, none⟩ = some (.slice B m1 d))) (by kernel_rfl) (by kernel_rfl) (by kernel_rfl) (KN0.out _ (Only.refl _ _).drew) (fun hsel hHeld => ?_)
      obtain ⟨wy, hwy⟩ : ∃ wy, wy = wc.drew := ⟨_, rfl⟩
      have KN : Hid (∀ W, Only (fun j => j = w.heap.size) wy W → W.cell? ⟨bl, 0, none⟩ = some (.int .i64 66) ∧ W.cell? ⟨bl, 1, none⟩ = some (.int .i64 g) ∧ W.cell? ⟨bl, 2, none⟩ = some (.int .i64 (m : Nat)) ∧ W.cell? ⟨bl, 3, none⟩ = some (.int .i64 x) ∧ W.cell? ⟨nb, 0, none⟩ = some (.bool f) ∧ W.cell? ⟨nb, 1, none⟩ = some (.slice A n c) ∧ W.cell? ⟨nb, 2, none⟩ = some (.slice B m1 d)) := Lib.hid fun W hW => KN0.out W (((Only.refl _ _).drew : Only (fun j => j = w.heap.size) wc wc.drew).trans (by rw [← hwy]; exact hW))
      have HSY : Hid (Blk wy w.heap.size 35 [.bool false, .slice none 0 0, .slice none 0 0]) := Lib.hid (by rw [hwy]; exact HIW.out.drew)
      have HOS : Hid (Only (fun j => j = w.heap.size) wy (((wy.setCell ⟨w.heap.size, 0, none⟩ (.bool f)).setCell ⟨w.heap.size, 1, none⟩ (.slice A n c)).setCell ⟨w.heap.size, 2, none⟩ (.slice B m1 d))) := Lib.hid (nd_only (Only.refl _ _) rfl)
      have HOW : Hid (Only (fun j => j = w.heap.size) wc (((wy.setCell ⟨w.heap.size, 0, none⟩ (.bool f)).setCell ⟨w.heap.size, 1, none⟩ (.slice A n c)).setCell ⟨w.heap.size, 2, none⟩ (.slice B m1 d))) := Lib.hid (((Only.refl _ _).drew : Only (fun j => j = w.heap.size) wc wc.drew).trans (by rw [← hwy]; exact HOS.out))
      rw [← hwy] at hHeld
      rw [← hwy]
      clear hwy
      obtain ⟨s0, s1, s2⟩ := HSY.out.tri
      obtain ⟨z0, z1, z2⟩ := HSY.out.melt3
      refine oneA 0 60 hsel (h := ?_)
      simp only [Act.put, List.setIfInBounds_toArray, List.set_cons_zero, List.set_cons_succ]
      refine oneA 1 61 hsel (h := ?_)
      simp only [Act.put, List.setIfInBounds_toArray, List.set_cons_zero, List.set_cons_succ]
      refine oneA 2 62 hsel (h := ?_)
      simp only [Act.put, List.setIfInBounds_toArray, List.set_cons_zero, List.set_cons_succ]
      refine oneA 3 2 hsel (h := ?_)
      simp only [Act.put, List.setIfInBounds_toArray, List.set_cons_zero, List.set_cons_succ]
      refine wpAnyL_ready (rs := [4]) (by kernel_rfl) (by kernel_rfl) (by simp) ?_
      refine AllReadyL.cons (o := ?_) ?_ (fun K hK => ?_) AllReadyL.nil
      case refine_2 => (simp only [List.getElem?_cons_succ, List.getElem?_cons_zero]; rfl)
      go_simp
      clear hHeld
      refine hK.out _ _ (KN.out _ HOS.out) (fun hHeld => ?_)
      clear hK K
      try simp only [List.set_cons_zero, List.set_cons_succ]
      refine oneA 5 4 hsel (h := ?_)
      simp only [Act.put, List.setIfInBounds_toArray, List.set_cons_zero, List.set_cons_succ]
      refine wpAnyL_done (by kernel_rfl) (by kernel_rfl) ?_ _
      clear hsel hHeld
      go_wp2
      refine bodyPost_ret (results_tct rfl rfl (rload_node (((HSY.out.set_ 0 _).set_ 1 _).set_ 2 _))) rfl ?_
      exact ⟨true, ⟨fun _ => HDK.out, fun _ => rfl⟩, f, A, n, c, B, m1, d, by rw [if_pos rfl, if_pos rfl, ← HGE.out]; rfl, (nod_free HIW.out HND.out).nod _ (HOW.out.mono fun _ h => .inl h), HOW0.out.trans (HOW.out.mono fun j hj => by rw [hj]; exact Nat.le_refl _)⟩
end Go.Proofs.YtoghojgajpfkkaaGreatDoor
