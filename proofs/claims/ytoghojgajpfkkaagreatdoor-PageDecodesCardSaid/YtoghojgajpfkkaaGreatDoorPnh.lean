/-
  nodeHead.
-/
import Derived.Test.YtoghojgajpfkkaaGreatDoorPbd
import Derived.Test.YtoghojgajpfkkaaGreatDoorHeq
set_option linter.unusedVariables false
namespace Go.Proofs.YtoghojgajpfkkaaGreatDoor
open Go.RowKit

/-- What nodeHead answers. -/
def nhE (b : Bytes) : Int := if b.length ≠ 256 then 72 else if hdE b ≠ 0 then hdE b else if hdK b ≠ 76 ∧ hdK b ≠ 66 then 70 else if hdG b ≠ 1 ∧ isSealed b 4 = false then 71 else 0
def nhV (b : Bytes) : Value := if nhE b = 0 then hdOk b else hdBad (nhE b)
theorem hd_set {wz : World} {q : Nat} {a b c d k x n y : Value} (h : Blk wz q 47 [a, b, c, d]) : Blk ((((wz.setCell ⟨q, 0, none⟩ k).setCell ⟨q, 1, none⟩ x).setCell ⟨q, 2, none⟩ n).setCell ⟨q, 3, none⟩ y) q 47 [k, x, n, y] := (((h.set_ 0 _).set_ 1 _).set_ 2 _).set_ 3 _
theorem hd_only {w wz : World} {q : Nat} {k x n y : Value} (h : Only (w.heap.size ≤ ·) w wz) (hq : w.heap.size ≤ q) : Only (w.heap.size ≤ ·) w ((((wz.setCell ⟨q, 0, none⟩ k).setCell ⟨q, 1, none⟩ x).setCell ⟨q, 2, none⟩ n).setCell ⟨q, 3, none⟩ y) :=
  (((h.setCell (p := ⟨q, 0, none⟩) hq _).setCell (p := ⟨q, 1, none⟩) hq _).setCell (p := ⟨q, 2, none⟩) hq _).setCell (p := ⟨q, 3, none⟩) hq _
section
variable (w : World) (A : Option Addr) (n c : Nat)
set_option maxRecDepth 100000 in
set_option maxHeartbeats 3200000 in
theorem nh_len (hn : n ≠ 256) : Calls Tryz.prog 17 #[.slice A n c] w (Told w (hdBad 72)) := by
  obtain ⟨W0, hW0⟩ : ∃ W0, W0 = w.alloc (.cells #[.int .i64 0, .int .i64 0, .int .i64 0, .int .i64 0] 47) := ⟨_, rfl⟩
  have HO : Hid (Only (w.heap.size ≤ ·) w W0) := Lib.hid (by rw [hW0]; exact (Only.refl _ w).alloc (fun _ h => h) _)
  have HI : Hid (Blk W0 w.heap.size 47 [.int .i64 0, .int .i64 0, .int .i64 0, .int .i64 0]) := Lib.hid (by rw [hW0]; exact Blk.new w 47 _)
  have hb : ((n : Int) == 256) = false := by rw [beq_eq_false_iff_ne]; omega
  clear hn
  obtain ⟨i0, i1, i2, i3⟩ := HI.out.four
  have f0 := HI.out.frozen 0
  have f1 := HI.out.frozen 1
  have f2 := HI.out.frozen 2
  have f3 := HI.out.frozen 3
  go_enter Tryz.func17, Tryz.ntmps17
  go_upto_region 1 with (fail)
  rw [← hW0]
  clear hW0
  go_wp2
  exact bodyPost_ret (results_cell_tmp rfl rfl (load_head (hd_set HI.out))) rfl ⟨rfl, hd_only HO.out (Nat.le_refl _)⟩
set_option maxRecDepth 100000 in
set_option maxHeartbeats 3200000 in
theorem nh_bad (z : Int) (hz : z ≠ 0) (hH : ∀ W, Only (w.heap.size ≤ ·) w W → Calls Tryz.prog 13 #[.slice A 256 c] W (Told W (hdBad z))) : Calls Tryz.prog 17 #[.slice A 256 c] w (Told w (hdBad z)) := by
  obtain ⟨W0, hW0⟩ : ∃ W0, W0 = w.alloc (.cells #[.int .i64 0, .int .i64 0, .int .i64 0, .int .i64 0] 47) := ⟨_, rfl⟩
  have HO : Hid (Only (w.heap.size ≤ ·) w W0) := Lib.hid (by rw [hW0]; exact (Only.refl _ w).alloc (fun _ h => h) _)
  have HI : Hid (Blk W0 w.heap.size 47 [.int .i64 0, .int .i64 0, .int .i64 0, .int .i64 0]) := Lib.hid (by rw [hW0]; exact Blk.new w 47 _)
  have HHO := Lib.hid hH
  have hb : (z == 0) = false := by rw [beq_eq_false_iff_ne]; exact hz
  clear hz hH
  unfold hdBad at HHO
  go_enter Tryz.func17, Tryz.ntmps17
  go_upto_region 1 with (fail)
  rw [← hW0]
  clear hW0
  go_upto_region 4 with (go_at_call 13; (with_reducible refine (HHO.out _ HO.out).mono ?_); rintro e w1 ⟨rfl, ho⟩; have HI1 := Lib.hid (HI.out.later ho); have HO1 := Lib.hid (on_new HO.out ho); clear ho)
  have HI2 := Lib.hid (HI1.out.alloc (.cells #[.int .i64 0, .int .i64 0, .int .i64 0, .int .i64 0] 47))
  have HO2 := Lib.hid (HO1.out.alloc (fun _ h => h) (.cells #[.int .i64 0, .int .i64 0, .int .i64 0, .int .i64 0] 47))
  obtain ⟨i0, i1, i2, i3⟩ := HI2.out.four
  have f0 := HI2.out.frozen 0
  have f1 := HI2.out.frozen 1
  have f2 := HI2.out.frozen 2
  have f3 := HI2.out.frozen 3
  go_wp2
  exact bodyPost_ret (results_cell_tmp rfl rfl (load_head (hd_set HI2.out))) rfl ⟨rfl, hd_only HO2.out (Nat.le_refl _)⟩
set_option maxRecDepth 100000 in
set_option maxHeartbeats 3200000 in
theorem nh_kind (k g m x : Int) (h1 : k ≠ 76) (h2 : k ≠ 66) (hH : ∀ W, Only (w.heap.size ≤ ·) w W → Calls Tryz.prog 13 #[.slice A 256 c] W (Told W (.tuple #[.agg #[.int .i64 k, .int .i64 g, .int .i64 m, .int .i64 x], .int .i64 0]))) : Calls Tryz.prog 17 #[.slice A 256 c] w (Told w (hdBad 70)) := by
  obtain ⟨W0, hW0⟩ : ∃ W0, W0 = w.alloc (.cells #[.int .i64 0, .int .i64 0, .int .i64 0, .int .i64 0] 47) := ⟨_, rfl⟩
  have HO : Hid (Only (w.heap.size ≤ ·) w W0) := Lib.hid (by rw [hW0]; exact (Only.refl _ w).alloc (fun _ h => h) _)
  have HI : Hid (Blk W0 w.heap.size 47 [.int .i64 0, .int .i64 0, .int .i64 0, .int .i64 0]) := Lib.hid (by rw [hW0]; exact Blk.new w 47 _)
  have HHO := Lib.hid hH
  have b1 : (k != 76) = true := by rw [bne_iff_ne]; exact h1
  have b2 : (k != 66) = true := by rw [bne_iff_ne]; exact h2
  clear h1 h2 hH
  go_enter Tryz.func17, Tryz.ntmps17
  go_upto_region 1 with (fail)
  rw [← hW0]
  clear hW0
  go_upto_region 4 with (go_at_call 13; (with_reducible refine (HHO.out _ HO.out).mono ?_); rintro e w1 ⟨rfl, ho⟩; have HI1 := Lib.hid (HI.out.later ho); have HO1 := Lib.hid (on_new HO.out ho); clear ho)
  have HI2 := Lib.hid (HI1.out.alloc (.cells #[.int .i64 k, .int .i64 g, .int .i64 m, .int .i64 x] 47))
  have HO2 := Lib.hid (HO1.out.alloc (fun _ h => h) (.cells #[.int .i64 k, .int .i64 g, .int .i64 m, .int .i64 x] 47))
  obtain ⟨i0, i1, i2, i3⟩ := HI2.out.four
  have f0 := HI2.out.frozen 0
  have f1 := HI2.out.frozen 1
  have f2 := HI2.out.frozen 2
  have f3 := HI2.out.frozen 3
  go_wp2
  exact bodyPost_ret (results_cell_tmp rfl rfl (load_head (hd_set HI2.out))) rfl ⟨rfl, hd_only HO2.out (Nat.le_refl _)⟩
set_option maxRecDepth 100000 in
set_option maxHeartbeats 6400000 in
theorem nh_sum (k g m x : Int) (sl : Bool) (h1 : k = 76 ∨ k = 66) (hH : ∀ W, Only (w.heap.size ≤ ·) w W → Calls Tryz.prog 13 #[.slice A 256 c] W (Told W (.tuple #[.agg #[.int .i64 k, .int .i64 g, .int .i64 m, .int .i64 x], .int .i64 0])))
    (hS : ∀ W, Only (w.heap.size ≤ ·) w W → Calls Tryz.prog 49 #[.slice A 256 c, .int .i64 4] W (Told W (.bool sl))) : Calls Tryz.prog 17 #[.slice A 256 c] w (Told w (if g ≠ 1 ∧ sl = false then hdBad 71 else .tuple #[.agg #[.int .i64 k, .int .i64 g, .int .i64 m, .int .i64 x], .int .i64 0])) := by
  obtain ⟨W0, hW0⟩ : ∃ W0, W0 = w.alloc (.cells #[.int .i64 0, .int .i64 0, .int .i64 0, .int .i64 0] 47) := ⟨_, rfl⟩
  have HO : Hid (Only (w.heap.size ≤ ·) w W0) := Lib.hid (by rw [hW0]; exact (Only.refl _ w).alloc (fun _ h => h) _)
  have HI : Hid (Blk W0 w.heap.size 47 [.int .i64 0, .int .i64 0, .int .i64 0, .int .i64 0]) := Lib.hid (by rw [hW0]; exact Blk.new w 47 _)
  have HHO := Lib.hid hH
  have HSE := Lib.hid hS
  obtain ⟨sb, hsb⟩ : ∃ b, decide (g ≠ 1) = b := ⟨_, rfl⟩
  have HQ : Hid (∀ W, Calls Tryz.prog 48 #[.int .i64 g] W fun e w' => e = .returned (.bool sb) ∧ W = w') := Lib.hid fun W => by rw [← hsb]; exact summed_c W g
  obtain ⟨RV, hRV⟩ : ∃ v, v = (if g ≠ 1 ∧ sl = false then hdBad 71 else .tuple #[.agg #[.int .i64 k, .int .i64 g, .int .i64 m, .int .i64 x], .int .i64 0]) := ⟨_, rfl⟩
  rw [← hRV]
  have HRV : Hid (RV = if sb = true ∧ sl = false then hdBad 71 else .tuple #[.agg #[.int .i64 k, .int .i64 g, .int .i64 m, .int .i64 x], .int .i64 0]) := Lib.hid (by rw [hRV, ← hsb]; simp only [decide_eq_true_eq])
  clear hH hS hsb hRV
  go_enter Tryz.func17, Tryz.ntmps17
  go_upto_region 1 with (fail)
  rw [← hW0]
  clear hW0
  go_upto_region 4 with (go_at_call 13; (with_reducible refine (HHO.out _ HO.out).mono ?_); rintro e w1 ⟨rfl, ho⟩; have HI1 := Lib.hid (HI.out.later ho); have HO1 := Lib.hid (on_new HO.out ho); clear ho)
  have HB : Hid (Blk (w1.alloc (.cells #[.int .i64 k, .int .i64 g, .int .i64 m, .int .i64 x] 47)) w1.heap.size 47 [.int .i64 k, .int .i64 g, .int .i64 m, .int .i64 x]) := Lib.hid (Blk.new w1 47 _)
  have HI2 := Lib.hid (HI1.out.alloc (.cells #[.int .i64 k, .int .i64 g, .int .i64 m, .int .i64 x] 47))
  have HO2 := Lib.hid (HO1.out.alloc (fun _ h => h) (.cells #[.int .i64 k, .int .i64 g, .int .i64 m, .int .i64 x] 47))
  have HLT : Hid (w.heap.size < w1.heap.size) := Lib.hid HI1.out.lt
  generalize hbl : w1.heap.size = bl at HB HLT
  obtain ⟨W2, hW2⟩ : ∃ W2, W2 = w1.alloc (.cells #[.int .i64 k, .int .i64 g, .int .i64 m, .int .i64 x] 47) := ⟨_, rfl⟩
  rw [← hW2] at HB HI2 HO2
  rw [← hW2]
  clear hW2 hbl
  obtain ⟨i0, i1, i2, i3⟩ := HI2.out.four
  have f0 := HI2.out.frozen 0
  have f1 := HI2.out.frozen 1
  have f2 := HI2.out.frozen 2
  have f3 := HI2.out.frozen 3
  obtain ⟨b0, b1, b2, b3⟩ := HB.out.four
  rcases h1 with rfl | rfl
  · cases sb
    · go_wp2_with (go_at_call 48; (with_reducible refine (HQ.out _).mono ?_); rintro e w2 ⟨rfl, rfl⟩)
      exact bodyPost_ret (results_cell_tmp rfl rfl (load_head (hd_set HI2.out))) rfl ⟨by rw [HRV.out]; first | (simp; done) | (simp; rfl), hd_only HO2.out (Nat.le_refl _)⟩
    · clear i0 i1 i2 i3 f0 f1 f2 f3
      cases sl
      · go_wp2_with (first
          | (go_at_call 48; (with_reducible refine (HQ.out _).mono ?_); rintro e w2 ⟨rfl, rfl⟩)
          | (go_at_call 49; (with_reducible refine (HSE.out _ HO2.out).mono ?_); rintro e w3 ⟨rfl, ho⟩; have HI3 := Lib.hid (HI2.out.later ho); have HO3 := Lib.hid (on_new HO2.out ho); have HB3 := Lib.hid (HB.out.later ho); clear ho b0 b1 b2 b3; (obtain ⟨i0, i1, i2, i3⟩ := HI3.out.four); have f0 := HI3.out.frozen 0; have f1 := HI3.out.frozen 1; have f2 := HI3.out.frozen 2; have f3 := HI3.out.frozen 3; (obtain ⟨b0, b1, b2, b3⟩ := HB3.out.four)))
        exact bodyPost_ret (results_cell_tmp rfl rfl (load_head (hd_set HI3.out))) rfl ⟨by rw [HRV.out]; first | (simp; done) | (simp; rfl), hd_only HO3.out (Nat.le_refl _)⟩
      · go_wp2_with (first
          | (go_at_call 48; (with_reducible refine (HQ.out _).mono ?_); rintro e w2 ⟨rfl, rfl⟩)
          | (go_at_call 49; (with_reducible refine (HSE.out _ HO2.out).mono ?_); rintro e w3 ⟨rfl, ho⟩; have HI3 := Lib.hid (HI2.out.later ho); have HO3 := Lib.hid (on_new HO2.out ho); have HB3 := Lib.hid (HB.out.later ho); clear ho b0 b1 b2 b3; (obtain ⟨i0, i1, i2, i3⟩ := HI3.out.four); have f0 := HI3.out.frozen 0; have f1 := HI3.out.frozen 1; have f2 := HI3.out.frozen 2; have f3 := HI3.out.frozen 3; (obtain ⟨b0, b1, b2, b3⟩ := HB3.out.four)))
        exact bodyPost_ret (results_cell_tmp rfl rfl (load_head (hd_set HI3.out))) rfl ⟨by rw [HRV.out]; first | (simp; done) | (simp; rfl), hd_only HO3.out (Nat.le_refl _)⟩
  · cases sb
    · go_wp2_with (go_at_call 48; (with_reducible refine (HQ.out _).mono ?_); rintro e w2 ⟨rfl, rfl⟩)
      exact bodyPost_ret (results_cell_tmp rfl rfl (load_head (hd_set HI2.out))) rfl ⟨by rw [HRV.out]; first | (simp; done) | (simp; rfl), hd_only HO2.out (Nat.le_refl _)⟩
    · clear i0 i1 i2 i3 f0 f1 f2 f3
      cases sl
      · go_wp2_with (first
          | (go_at_call 48; (with_reducible refine (HQ.out _).mono ?_); rintro e w2 ⟨rfl, rfl⟩)
          | (go_at_call 49; (with_reducible refine (HSE.out _ HO2.out).mono ?_); rintro e w3 ⟨rfl, ho⟩; have HI3 := Lib.hid (HI2.out.later ho); have HO3 := Lib.hid (on_new HO2.out ho); have HB3 := Lib.hid (HB.out.later ho); clear ho b0 b1 b2 b3; (obtain ⟨i0, i1, i2, i3⟩ := HI3.out.four); have f0 := HI3.out.frozen 0; have f1 := HI3.out.frozen 1; have f2 := HI3.out.frozen 2; have f3 := HI3.out.frozen 3; (obtain ⟨b0, b1, b2, b3⟩ := HB3.out.four)))
        exact bodyPost_ret (results_cell_tmp rfl rfl (load_head (hd_set HI3.out))) rfl ⟨by rw [HRV.out]; first | (simp; done) | (simp; rfl), hd_only HO3.out (Nat.le_refl _)⟩
      · go_wp2_with (first
          | (go_at_call 48; (with_reducible refine (HQ.out _).mono ?_); rintro e w2 ⟨rfl, rfl⟩)
          | (go_at_call 49; (with_reducible refine (HSE.out _ HO2.out).mono ?_); rintro e w3 ⟨rfl, ho⟩; have HI3 := Lib.hid (HI2.out.later ho); have HO3 := Lib.hid (on_new HO2.out ho); have HB3 := Lib.hid (HB.out.later ho); clear ho b0 b1 b2 b3; (obtain ⟨i0, i1, i2, i3⟩ := HI3.out.four); have f0 := HI3.out.frozen 0; have f1 := HI3.out.frozen 1; have f2 := HI3.out.frozen 2; have f3 := HI3.out.frozen 3; (obtain ⟨b0, b1, b2, b3⟩ := HB3.out.four)))
        exact bodyPost_ret (results_cell_tmp rfl rfl (load_head (hd_set HI3.out))) rfl ⟨by rw [HRV.out]; first | (simp; done) | (simp; rfl), hd_only HO3.out (Nat.le_refl _)⟩
end
theorem nodeHead_c (w : World) (v : Value) (b : Bytes) (hG : Gens w) (hs : Src w v b) (hn : b.length ≤ 65536) : Calls Tryz.prog 17 #[v] w (Told w (nhV b)) := by
  obtain ⟨A, c, rfl, _⟩ := id hs
  unfold nhV nhE
  by_cases hl : b.length ≠ 256
  · simp only [if_pos hl]
    exact nh_len w A _ c hl
  have hl' : b.length = 256 := Classical.byContradiction hl
  have hH : ∀ W, Only (w.heap.size ≤ ·) w W → Calls Tryz.prog 13 #[.slice A 256 c] W (Told W (hdV b)) := fun W hW => by
    have h := HeadOf_c W _ b (hG.later hW) (hs.later hW) hn
    rwa [hl'] at h
  have hS : ∀ W, Only (w.heap.size ≤ ·) w W → Calls Tryz.prog 49 #[.slice A 256 c, .int .i64 4] W (Told W (.bool (isSealed b 4))) := fun W hW => by
    have h := Sealed_s W _ b (hs.later hW) hn
    rwa [hl'] at h
  simp only [if_neg hl]
  rw [hl']
  by_cases he : hdE b ≠ 0
  · simp only [if_pos he, if_neg he]
    rw [hdV_no he] at hH
    exact nh_bad w A c _ he hH
  have he' : hdE b = 0 := Classical.byContradiction he
  simp only [if_neg he]
  rw [(hdV_ok he').1] at hH
  by_cases hk : hdK b ≠ 76 ∧ hdK b ≠ 66
  · simp only [if_pos hk]
    exact nh_kind w A c _ _ _ _ (by omega) (by omega) hH
  · simp only [if_neg hk]
    have := nh_sum w A c _ _ _ _ _ (by omega) hH hS
    by_cases hg : hdG b ≠ 1 ∧ isSealed b 4 = false
    · rw [if_pos ⟨by have := hg.1; omega, hg.2⟩] at this
      simp only [if_pos hg]
      exact this
    · rw [if_neg fun h => hg ⟨by have := h.1; omega, h.2⟩] at this
      simp only [if_neg hg]
      exact this
end Go.Proofs.YtoghojgajpfkkaaGreatDoor
