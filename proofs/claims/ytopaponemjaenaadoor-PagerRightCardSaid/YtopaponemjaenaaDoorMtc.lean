/-
  Metas: the seven numbers' addresses; are two the same?
-/
import Derived.Test.YtopaponemjaenaaDoorMta
set_option linter.unusedVariables false
namespace Go.Proofs.YtopaponemjaenaaDoor
open Go.RowKit

theorem convert_src {w : World} {v : Value} {xs : Bytes} (h : Src w v xs) : (convert 23 9 v).run Tryd.prog w = .ok (.string ⟨xs.toArray⟩) w := by
  obtain ⟨A, c, rfl, ht, _⟩ := h
  exact convert_txt w A _ c xs ht
theorem load_seven {w : World} {q : Nat} {a b c d e f g : Value} (h : Blk w q 90 [a, b, c, d, e, f, g]) (h0 : a.oneCell' = true) (h1 : b.oneCell' = true) (h2 : c.oneCell' = true) (h3 : d.oneCell' = true) (h4 : e.oneCell' = true) (h5 : f.oneCell' = true) (h6 : g.oneCell' = true) : (loadVar 90 ⟨q, 0, none⟩).run Tryd.prog w = .ok (.agg #[a, b, c, d, e, f, g]) w := by
  have hl := run_loadCells_list (P := Tryd.prog) w ⟨q, 0, none⟩ [a, b, c, d, e, f, g] (fun j z hz => by rw [Addr.add_lit, h.cell, Nat.zero_add]; exact hz)
  simp only [List.length_cons, List.length_nil] at hl
  simp [loadVar, hl]
set_option maxRecDepth 100000 in
set_option maxHeartbeats 1600000 in
theorem fields_c (w : World) (b : Nat) : Calls Tryd.prog 49 #[.pointer (some ⟨b, 0, none⟩)] w (Told w (.agg #[.pointer (some ⟨b, 0, none⟩), .pointer (some ⟨b, 1, none⟩), .pointer (some ⟨b, 2, none⟩), .pointer (some ⟨b, 3, none⟩), .pointer (some ⟨b, 4, none⟩), .pointer (some ⟨b, 5, none⟩), .pointer (some ⟨b, 6, none⟩)])) := by
  obtain ⟨W0, hW0⟩ : ∃ W0, W0 = w.alloc (.cells #[.pointer none, .pointer none, .pointer none, .pointer none, .pointer none, .pointer none, .pointer none] 90) := ⟨_, rfl⟩
  have HO : Hid (Only (w.heap.size ≤ ·) w W0) := Lib.hid (by rw [hW0]; exact (Only.refl _ w).alloc (fun _ h => h) _)
  have HI : Hid (Blk W0 w.heap.size 90 [.pointer none, .pointer none, .pointer none, .pointer none, .pointer none, .pointer none, .pointer none]) := Lib.hid (by rw [hW0]; exact Blk.new w 90 _)
  go_enter Tryd.func49, Tryd.ntmps49
  go_upto_region 1 with (fail)
  rw [← hW0]
  clear hW0
  refine wp_region_list (B := [false, false, false, false, false, false, false, false, false, false, false, false, false, false, false, false, false, false, false, false, false, false, false]) (S := (fun _ => True)) (by kernel_rfl) (by kernel_rfl) (by kernel_rfl) trivial (fun hsel hHeld => ?_)
  obtain ⟨wy, hwy⟩ : ∃ wy, wy = W0.drew := ⟨_, rfl⟩
  have HY : Hid (Blk wy w.heap.size 90 [.pointer none, .pointer none, .pointer none, .pointer none, .pointer none, .pointer none, .pointer none]) := Lib.hid (by rw [hwy]; exact HI.out.drew)
  have HOY : Hid (Only (w.heap.size ≤ ·) w wy) := Lib.hid (by rw [hwy]; exact HO.out.drew)
  rw [← hwy]
  clear hwy
  have s0 : wy.cell? ⟨w.heap.size, 0, none⟩ = some (.pointer none) := HY.out.cell 0
  have s1 : wy.cell? ⟨w.heap.size, 1, none⟩ = some (.pointer none) := HY.out.cell 1
  have s2 : wy.cell? ⟨w.heap.size, 2, none⟩ = some (.pointer none) := HY.out.cell 2
  have s3 : wy.cell? ⟨w.heap.size, 3, none⟩ = some (.pointer none) := HY.out.cell 3
  have s4 : wy.cell? ⟨w.heap.size, 4, none⟩ = some (.pointer none) := HY.out.cell 4
  have s5 : wy.cell? ⟨w.heap.size, 5, none⟩ = some (.pointer none) := HY.out.cell 5
  have s6 : wy.cell? ⟨w.heap.size, 6, none⟩ = some (.pointer none) := HY.out.cell 6
  have z0 := HY.out.frozen 0
  have z1 := HY.out.frozen 1
  have z2 := HY.out.frozen 2
  have z3 := HY.out.frozen 3
  have z4 := HY.out.frozen 4
  have z5 := HY.out.frozen 5
  have z6 := HY.out.frozen 6
  have HS7 := Lib.hid (((((((HY.out.set_ 0 (.pointer (some ⟨b, 0, none⟩))).set_ 1 (.pointer (some ⟨b, 1, none⟩))).set_ 2 (.pointer (some ⟨b, 2, none⟩))).set_ 3 (.pointer (some ⟨b, 3, none⟩))).set_ 4 (.pointer (some ⟨b, 4, none⟩))).set_ 5 (.pointer (some ⟨b, 5, none⟩))).set_ 6 (.pointer (some ⟨b, 6, none⟩)))
  have HO7 := Lib.hid (((((((HOY.out.setCell (p := ⟨w.heap.size, 0, none⟩) (Nat.le_refl _) (.pointer (some ⟨b, 0, none⟩))).setCell (p := ⟨w.heap.size, 1, none⟩) (Nat.le_refl _) (.pointer (some ⟨b, 1, none⟩))).setCell (p := ⟨w.heap.size, 2, none⟩) (Nat.le_refl _) (.pointer (some ⟨b, 2, none⟩))).setCell (p := ⟨w.heap.size, 3, none⟩) (Nat.le_refl _) (.pointer (some ⟨b, 3, none⟩))).setCell (p := ⟨w.heap.size, 4, none⟩) (Nat.le_refl _) (.pointer (some ⟨b, 4, none⟩))).setCell (p := ⟨w.heap.size, 5, none⟩) (Nat.le_refl _) (.pointer (some ⟨b, 5, none⟩))).setCell (p := ⟨w.heap.size, 6, none⟩) (Nat.le_refl _) (.pointer (some ⟨b, 6, none⟩)))
  refine oneA 0 3 hsel (h := ?_)
  simp only [Act.put, List.setIfInBounds_toArray, List.set_cons_zero, List.set_cons_succ]
  refine oneA 1 4 hsel (h := ?_)
  simp only [Act.put, List.setIfInBounds_toArray, List.set_cons_zero, List.set_cons_succ]
  refine oneA 2 5 hsel (h := ?_)
  simp only [Act.put, List.setIfInBounds_toArray, List.set_cons_zero, List.set_cons_succ]
  refine oneA 3 6 hsel (h := ?_)
  simp only [Act.put, List.setIfInBounds_toArray, List.set_cons_zero, List.set_cons_succ]
  refine oneA 4 7 hsel (h := ?_)
  simp only [Act.put, List.setIfInBounds_toArray, List.set_cons_zero, List.set_cons_succ]
  refine oneA 5 8 hsel (h := ?_)
  simp only [Act.put, List.setIfInBounds_toArray, List.set_cons_zero, List.set_cons_succ]
  refine oneA 6 9 hsel (h := ?_)
  simp only [Act.put, List.setIfInBounds_toArray, List.set_cons_zero, List.set_cons_succ]
  refine oneA 7 10 hsel (h := ?_)
  simp only [Act.put, List.setIfInBounds_toArray, List.set_cons_zero, List.set_cons_succ]
  refine oneA 8 11 hsel (h := ?_)
  simp only [Act.put, List.setIfInBounds_toArray, List.set_cons_zero, List.set_cons_succ]
  refine oneA 9 12 hsel (h := ?_)
  simp only [Act.put, List.setIfInBounds_toArray, List.set_cons_zero, List.set_cons_succ]
  refine oneA 10 13 hsel (h := ?_)
  simp only [Act.put, List.setIfInBounds_toArray, List.set_cons_zero, List.set_cons_succ]
  refine oneA 11 14 hsel (h := ?_)
  simp only [Act.put, List.setIfInBounds_toArray, List.set_cons_zero, List.set_cons_succ]
  refine oneA 12 15 hsel (h := ?_)
  simp only [Act.put, List.setIfInBounds_toArray, List.set_cons_zero, List.set_cons_succ]
  refine oneA 13 16 hsel (h := ?_)
  simp only [Act.put, List.setIfInBounds_toArray, List.set_cons_zero, List.set_cons_succ]
  refine oneA 14 17 hsel (h := ?_)
  simp only [Act.put, List.setIfInBounds_toArray, List.set_cons_zero, List.set_cons_succ]
  refine oneA 15 18 hsel (h := ?_)
  simp only [Act.put, List.setIfInBounds_toArray, List.set_cons_zero, List.set_cons_succ]
  refine oneA 16 19 hsel (h := ?_)
  simp only [Act.put, List.setIfInBounds_toArray, List.set_cons_zero, List.set_cons_succ]
  refine oneA 17 20 hsel (h := ?_)
  simp only [Act.put, List.setIfInBounds_toArray, List.set_cons_zero, List.set_cons_succ]
  refine oneA 18 21 hsel (h := ?_)
  simp only [Act.put, List.setIfInBounds_toArray, List.set_cons_zero, List.set_cons_succ]
  refine oneA 19 22 hsel (h := ?_)
  simp only [Act.put, List.setIfInBounds_toArray, List.set_cons_zero, List.set_cons_succ]
  refine oneA 20 23 hsel (h := ?_)
  simp only [Act.put, List.setIfInBounds_toArray, List.set_cons_zero, List.set_cons_succ]
  refine oneA 21 24 hsel (h := ?_)
  simp only [Act.put, List.setIfInBounds_toArray, List.set_cons_zero, List.set_cons_succ]
  refine wpAnyL_ready (rs := [22]) (by kernel_rfl) (by kernel_rfl) (by simp) ?_
  refine AllReadyL.cons (o := ?_) ?_ (fun K hK => ?_) AllReadyL.nil
  case refine_2 => (simp only [List.getElem?_cons_succ, List.getElem?_cons_zero]; rfl)
  go_simp
  clear hHeld
  refine hK.out _ _ trivial (fun hHeld => ?_)
  clear hK K
  try simp only [List.set_cons_zero, List.set_cons_succ]
  refine wpAnyL_done (by kernel_rfl) (by kernel_rfl) ?_ _
  clear hsel hHeld
  go_wp2
  refine bodyPost_ret (results_cell rfl rfl (load_seven HS7.out rfl rfl rfl rfl rfl rfl rfl)) rfl ⟨rfl, ?_⟩
  exact HO7.out
theorem seven_at (g ph t x r p l : Int) (s : Value) {k : Nat} (h : k < 7) : ∃ u, [g, ph, t, x, r, p, l][k]? = some u ∧ [Value.int .i64 g, .int .i64 ph, .int .i64 t, .int .i64 x, .int .i64 r, .int .i64 p, .int .i64 l, s][k]? = some (.int .i64 u) := by
  obtain rfl | rfl | rfl | rfl | rfl | rfl | rfl : k = 0 ∨ k = 1 ∨ k = 2 ∨ k = 3 ∨ k = 4 ∨ k = 5 ∨ k = 6 := by omega
  all_goals exact ⟨_, rfl, rfl⟩
theorem ptr_at (b : Nat) {k : Nat} (h : k < 7) : [Value.pointer (some ⟨b, 0, none⟩), .pointer (some ⟨b, 1, none⟩), .pointer (some ⟨b, 2, none⟩), .pointer (some ⟨b, 3, none⟩), .pointer (some ⟨b, 4, none⟩), .pointer (some ⟨b, 5, none⟩), .pointer (some ⟨b, 6, none⟩)][k]? = some (.pointer (some ⟨b, k, none⟩)) := by
  obtain rfl | rfl | rfl | rfl | rfl | rfl | rfl : k = 0 ∨ k = 1 ∨ k = 2 ∨ k = 3 ∨ k = 4 ∨ k = 5 ∨ k = 6 := by omega
  all_goals rfl
set_option maxRecDepth 100000 in
set_option maxHeartbeats 3200000 in
theorem MSame_c (w : World) (g ph t x r p l g' ph' t' x' r' p' l' : Int) (A B : Option Addr) (n c m d : Nat) (q : Bool) (hq : decide ([g, ph, t, x, r, p, l] = [g', ph', t', x', r', p', l']) = q) (eq : Bool) (hE : ∀ W, Only (w.heap.size ≤ ·) w W → Calls Tryd.prog 30 #[.slice A n c, .slice B m d] W fun e w' => e = .returned (.bool eq) ∧ W = w') :
    Calls Tryd.prog 29 #[.agg #[.int .i64 g, .int .i64 ph, .int .i64 t, .int .i64 x, .int .i64 r, .int .i64 p, .int .i64 l, .slice A n c], .agg #[.int .i64 g', .int .i64 ph', .int .i64 t', .int .i64 x', .int .i64 r', .int .i64 p', .int .i64 l', .slice B m d]] w (Told w (.bool (q && eq))) := by
  have HF : Hid (∀ W b, Calls Tryd.prog 49 #[.pointer (some ⟨b, 0, none⟩)] W (Told W (.agg #[.pointer (some ⟨b, 0, none⟩), .pointer (some ⟨b, 1, none⟩), .pointer (some ⟨b, 2, none⟩), .pointer (some ⟨b, 3, none⟩), .pointer (some ⟨b, 4, none⟩), .pointer (some ⟨b, 5, none⟩), .pointer (some ⟨b, 6, none⟩)]))) := Lib.hid fun W b => fields_c W b
  obtain ⟨w1, hw1⟩ : ∃ W0, W0 = (w.alloc (.cells #[.int .i64 g, .int .i64 ph, .int .i64 t, .int .i64 x, .int .i64 r, .int .i64 p, .int .i64 l, .slice A n c] 36)).alloc (.cells #[.int .i64 g', .int .i64 ph', .int .i64 t', .int .i64 x', .int .i64 r', .int .i64 p', .int .i64 l', .slice B m d] 36) := ⟨_, rfl⟩
  have HO : Hid (Only (w.heap.size ≤ ·) w w1) := Lib.hid (by rw [hw1]; exact ((Only.refl _ w).alloc (fun _ h => h) _).alloc (fun _ h => h) _)
  have HA : Hid (Blk w1 w.heap.size 36 [.int .i64 g, .int .i64 ph, .int .i64 t, .int .i64 x, .int .i64 r, .int .i64 p, .int .i64 l, .slice A n c]) := Lib.hid (by rw [hw1]; exact (Blk.new w 36 _).alloc _)
  have HB : Hid (Blk w1 (w.heap.size + 1) 36 [.int .i64 g', .int .i64 ph', .int .i64 t', .int .i64 x', .int .i64 r', .int .i64 p', .int .i64 l', .slice B m d]) := Lib.hid (by
    rw [hw1]
    have := Blk.new (w.alloc (.cells #[.int .i64 g, .int .i64 ph, .int .i64 t, .int .i64 x, .int .i64 r, .int .i64 p, .int .i64 l, .slice A n c] 36)) 36 [.int .i64 g', .int .i64 ph', .int .i64 t', .int .i64 x', .int .i64 r', .int .i64 p', .int .i64 l', .slice B m d]
    simpa using this)
  have HEQ := Lib.hid hE
  have HQ := Lib.hid hq
  clear hE hq
  go_enter Tryd.func29, Tryd.ntmps29
  go_upto_region 1 with (fail)
  rw [← hw1]
  clear hw1
  have HB0 : Hid (w.heap.size + 1 < w1.heap.size) := Lib.hid HB.out.lt
  go_upto_region 2 with (go_at_call 49; (with_reducible refine (HF.out _ _).mono ?_); rintro ee w2 ⟨rfl, ho⟩; (replace HA := Lib.hid (HA.out.later ho)); (replace HB := Lib.hid (HB.out.later ho)); (replace HO := Lib.hid (on_new HO.out ho)); (replace HB0 := Lib.hid (Nat.lt_of_lt_of_le HB0.out ho.size)); clear ho)
  obtain ⟨wl, hwl⟩ : ∃ y, y = (w2.alloc (.cells #[.pointer (some ⟨w.heap.size, 0, none⟩), .pointer (some ⟨w.heap.size, 1, none⟩), .pointer (some ⟨w.heap.size, 2, none⟩), .pointer (some ⟨w.heap.size, 3, none⟩), .pointer (some ⟨w.heap.size, 4, none⟩), .pointer (some ⟨w.heap.size, 5, none⟩), .pointer (some ⟨w.heap.size, 6, none⟩)] 90)).alloc (.cells #[.pointer (some ⟨w.heap.size + 1, 0, none⟩), .pointer (some ⟨w.heap.size + 1, 1, none⟩), .pointer (some ⟨w.heap.size + 1, 2, none⟩), .pointer (some ⟨w.heap.size + 1, 3, none⟩), .pointer (some ⟨w.heap.size + 1, 4, none⟩), .pointer (some ⟨w.heap.size + 1, 5, none⟩), .pointer (some ⟨w.heap.size + 1, 6, none⟩)] 90) := ⟨_, rfl⟩
  have HP : Hid (Blk wl w2.heap.size 90 [.pointer (some ⟨w.heap.size, 0, none⟩), .pointer (some ⟨w.heap.size, 1, none⟩), .pointer (some ⟨w.heap.size, 2, none⟩), .pointer (some ⟨w.heap.size, 3, none⟩), .pointer (some ⟨w.heap.size, 4, none⟩), .pointer (some ⟨w.heap.size, 5, none⟩), .pointer (some ⟨w.heap.size, 6, none⟩)]) := Lib.hid (by rw [hwl]; exact (Blk.new w2 90 _).alloc _)
  have HR : Hid (Blk wl (w2.heap.size + 1) 90 [.pointer (some ⟨w.heap.size + 1, 0, none⟩), .pointer (some ⟨w.heap.size + 1, 1, none⟩), .pointer (some ⟨w.heap.size + 1, 2, none⟩), .pointer (some ⟨w.heap.size + 1, 3, none⟩), .pointer (some ⟨w.heap.size + 1, 4, none⟩), .pointer (some ⟨w.heap.size + 1, 5, none⟩), .pointer (some ⟨w.heap.size + 1, 6, none⟩)]) := Lib.hid (by
    rw [hwl]
    have := Blk.new (w2.alloc (.cells #[.pointer (some ⟨w.heap.size, 0, none⟩), .pointer (some ⟨w.heap.size, 1, none⟩), .pointer (some ⟨w.heap.size, 2, none⟩), .pointer (some ⟨w.heap.size, 3, none⟩), .pointer (some ⟨w.heap.size, 4, none⟩), .pointer (some ⟨w.heap.size, 5, none⟩), .pointer (some ⟨w.heap.size, 6, none⟩)] 90)) 90 [.pointer (some ⟨w.heap.size + 1, 0, none⟩), .pointer (some ⟨w.heap.size + 1, 1, none⟩), .pointer (some ⟨w.heap.size + 1, 2, none⟩), .pointer (some ⟨w.heap.size + 1, 3, none⟩), .pointer (some ⟨w.heap.size + 1, 4, none⟩), .pointer (some ⟨w.heap.size + 1, 5, none⟩), .pointer (some ⟨w.heap.size + 1, 6, none⟩)]
    simpa using this)
  have HOL : Hid (Only (w2.heap.size ≤ ·) w2 wl) := Lib.hid (by rw [hwl]; exact ((Only.refl _ w2).alloc (fun _ h => h) _).alloc (fun _ h => h) _)
  replace HA := Lib.hid (HA.out.later HOL.out)
  replace HB := Lib.hid (HB.out.later HOL.out)
  replace HO := Lib.hid (on_new HO.out HOL.out)
  have HLT : Hid (w.heap.size + 1 < w2.heap.size) := Lib.hid HB0.out
  rw [← hwl]
  clear hwl HB0 HOL
  go_wp2_with (fail)
  go_loopw [10] (fun kv wr => ∃ k : Nat, k ≤ 7 ∧ kv = .int .i64 k ∧ Hid (∀ j, j < k → [g, ph, t, x, r, p, l][j]? = [g', ph', t', x', r', p', l'][j]?) ∧ Hid (Only (wl.heap.size ≤ ·) wl wr)) (fun kv _ => 7 - (intOf kv).toNat)
  case atStart => exact ⟨0, Nat.zero_le _, rfl, Lib.hid (fun j hj => absurd hj (Nat.not_lt_zero j)), Lib.hid (Only.refl _ _)⟩
  case round =>
    obtain ⟨k, hk, rfl, HS, HW⟩ := hrel
    by_cases hlt : k < 7
    · have hli : (k : Int) < 7 := by omega
      have HAW := Lib.hid (HA.out.later HW.out)
      have HBW := Lib.hid (HB.out.later HW.out)
      have HPW := Lib.hid (HP.out.later HW.out)
      have HRW := Lib.hid (HR.out.later HW.out)
      obtain ⟨u, hu1, hu2⟩ := seven_at g ph t x r p l (.slice A n c) hlt
      obtain ⟨v, hv1, hv2⟩ := seven_at g' ph' t' x' r' p' l' (.slice B m d) hlt
      have KC : Hid (∀ W, Only (wr.heap.size ≤ ·) wr W → W.cell? ⟨w2.heap.size, k, none⟩ = some (.pointer (some ⟨w.heap.size, k, none⟩)) ∧ W.cell? ⟨w2.heap.size + 1, k, none⟩ = some (.pointer (some ⟨w.heap.size + 1, k, none⟩)) ∧ W.cell? ⟨w.heap.size, k, none⟩ = some (.int .i64 u) ∧ W.cell? ⟨w.heap.size + 1, k, none⟩ = some (.int .i64 v)) := Lib.hid fun W hW => ⟨((HPW.out.later hW).cell k).trans (ptr_at w.heap.size hlt), ((HRW.out.later hW).cell k).trans (ptr_at (w.heap.size + 1) hlt), ((HAW.out.later hW).cell k).trans hu2, ((HBW.out.later hW).cell k).trans hv2⟩
      have HUV : Hid ([g, ph, t, x, r, p, l][k]? = some u ∧ [g', ph', t', x', r', p', l'][k]? = some v) := Lib.hid ⟨hu1, hv1⟩
      have HOW := Lib.hid (on_new HO.out HW.out)
      clear hu1 hu2 hv1 hv2
      go_upto_region 5 with (fail)
      by_cases huv : u = v
      · subst huv
        refine wp_region_list (B := [false, false, false, false, false, false, false, false, false, false, false]) (S := (fun W => W.cell? ⟨w2.heap.size, k, none⟩ = some (.pointer (some ⟨w.heap.size, k, none⟩)) ∧ W.cell? ⟨w2.heap.size + 1, k, none⟩ = some (.pointer (some ⟨w.heap.size + 1, k, none⟩)) ∧ W.cell? ⟨w.heap.size, k, none⟩ = some (.int .i64 u) ∧ W.cell? ⟨w.heap.size + 1, k, none⟩ = some (.int .i64 u))) (by kernel_rfl) (by kernel_rfl) (by kernel_rfl) (KC.out _ (Only.refl _ _).drew) (fun hsel hHeld => ?_)
        refine oneA 0 13 hsel (h := ?_)
        simp only [Act.put, List.setIfInBounds_toArray, List.set_cons_zero, List.set_cons_succ]
        refine oneA 1 14 hsel (h := ?_)
        simp only [Act.put, List.setIfInBounds_toArray, List.set_cons_zero, List.set_cons_succ]
        refine oneA 2 15 hsel (h := ?_)
        simp only [Act.put, List.setIfInBounds_toArray, List.set_cons_zero, List.set_cons_succ]
        refine oneA 3 16 hsel (h := ?_)
        simp only [Act.put, List.setIfInBounds_toArray, List.set_cons_zero, List.set_cons_succ]
        refine oneA 4 17 hsel (h := ?_)
        simp only [Act.put, List.setIfInBounds_toArray, List.set_cons_zero, List.set_cons_succ]
        refine oneA 5 18 hsel (h := ?_)
        simp only [Act.put, List.setIfInBounds_toArray, List.set_cons_zero, List.set_cons_succ]
        refine oneA 6 19 hsel (h := ?_)
        simp only [Act.put, List.setIfInBounds_toArray, List.set_cons_zero, List.set_cons_succ]
        refine oneA 7 20 hsel (h := ?_)
        simp only [Act.put, List.setIfInBounds_toArray, List.set_cons_zero, List.set_cons_succ]
        refine oneA 8 21 hsel (h := ?_)
        simp only [Act.put, List.setIfInBounds_toArray, List.set_cons_zero, List.set_cons_succ]
        refine oneA 9 22 hsel (h := ?_)
        simp only [Act.put, List.setIfInBounds_toArray, List.set_cons_zero, List.set_cons_succ]
        refine oneA 10 23 hsel (h := ?_)
        simp only [Act.put, List.setIfInBounds_toArray, List.set_cons_zero, List.set_cons_succ]
        refine wpAnyL_done (by kernel_rfl) (by kernel_rfl) ?_ _
        clear hsel hHeld
        go_wp2_with (fail)
        go_roundw
        case rel => exact ⟨k + 1, by omega, rfl, Lib.hid (fun j hj => by rcases (by omega : j < k ∨ j = k) with h | rfl <;> first | exact HS.out j h | exact HUV.out.1.trans HUV.out.2.symm), Lib.hid HW.out.drew⟩
        case measure => (have h0 : (intOf (.int .i64 ((k : Nat) : Int))).toNat = k := Int.toNat_natCast k; have h1 : (intOf (.int .i64 (((k + 1 : Nat)) : Int))).toNat = k + 1 := Int.toNat_natCast (k + 1); first | omega | (simp [intOf]; omega))
      · have hb : (u != v) = true := by rw [bne_iff_ne]; exact huv
        have HQF : Hid (q = false) := Lib.hid (by
          rw [← HQ.out]
          refine decide_eq_false fun e => huv ?_
          have h1 := HUV.out.1
          rw [e, HUV.out.2] at h1
          exact (Option.some.inj h1).symm)
        clear huv
        refine wp_region_list (B := [false, false, false, false, false, false, false, false, false, false, false]) (S := (fun W => W.cell? ⟨w2.heap.size, k, none⟩ = some (.pointer (some ⟨w.heap.size, k, none⟩)) ∧ W.cell? ⟨w2.heap.size + 1, k, none⟩ = some (.pointer (some ⟨w.heap.size + 1, k, none⟩)) ∧ W.cell? ⟨w.heap.size, k, none⟩ = some (.int .i64 u) ∧ W.cell? ⟨w.heap.size + 1, k, none⟩ = some (.int .i64 v))) (by kernel_rfl) (by kernel_rfl) (by kernel_rfl) (KC.out _ (Only.refl _ _).drew) (fun hsel hHeld => ?_)
        refine oneA 0 13 hsel (h := ?_)
        simp only [Act.put, List.setIfInBounds_toArray, List.set_cons_zero, List.set_cons_succ]
        refine oneA 1 14 hsel (h := ?_)
        simp only [Act.put, List.setIfInBounds_toArray, List.set_cons_zero, List.set_cons_succ]
        refine oneA 2 15 hsel (h := ?_)
        simp only [Act.put, List.setIfInBounds_toArray, List.set_cons_zero, List.set_cons_succ]
        refine oneA 3 16 hsel (h := ?_)
        simp only [Act.put, List.setIfInBounds_toArray, List.set_cons_zero, List.set_cons_succ]
        refine oneA 4 17 hsel (h := ?_)
        simp only [Act.put, List.setIfInBounds_toArray, List.set_cons_zero, List.set_cons_succ]
        refine oneA 5 18 hsel (h := ?_)
        simp only [Act.put, List.setIfInBounds_toArray, List.set_cons_zero, List.set_cons_succ]
        refine oneA 6 19 hsel (h := ?_)
        simp only [Act.put, List.setIfInBounds_toArray, List.set_cons_zero, List.set_cons_succ]
        refine oneA 7 20 hsel (h := ?_)
        simp only [Act.put, List.setIfInBounds_toArray, List.set_cons_zero, List.set_cons_succ]
        refine oneA 8 21 hsel (h := ?_)
        simp only [Act.put, List.setIfInBounds_toArray, List.set_cons_zero, List.set_cons_succ]
        refine oneA 9 22 hsel (h := ?_)
        simp only [Act.put, List.setIfInBounds_toArray, List.set_cons_zero, List.set_cons_succ]
        refine oneA 10 23 hsel (h := ?_)
        simp only [Act.put, List.setIfInBounds_toArray, List.set_cons_zero, List.set_cons_succ]
        refine wpAnyL_done (by kernel_rfl) (by kernel_rfl) ?_ _
        clear hsel hHeld
        go_wp2
        go_ret
        exact ⟨by rw [HQF.out]; rfl, HOW.out.drew⟩
    · obtain rfl : k = 7 := by omega
      have hli : ¬ ((7 : Nat) : Int) < 7 := by omega
      have hqt : q = true := by
        rw [← HQ.out, decide_eq_true_eq]
        have e := HS.out
        have e0 := e 0 (by decide); have e1 := e 1 (by decide); have e2 := e 2 (by decide); have e3 := e 3 (by decide); have e4 := e 4 (by decide); have e5 := e 5 (by decide); have e6 := e 6 (by decide)
        simp only [List.getElem?_cons_zero, List.getElem?_cons_succ, Option.some.injEq] at e0 e1 e2 e3 e4 e5 e6
        rw [e0, e1, e2, e3, e4, e5, e6]
      subst hqt
      have i0 : wr.cell? ⟨w.heap.size, 7, none⟩ = some (.slice A n c) := (HA.out.later HW.out).cell 7
      have i1 : wr.cell? ⟨w.heap.size + 1, 7, none⟩ = some (.slice B m d) := (HB.out.later HW.out).cell 7
      go_wp2_with (go_at_call 30; (with_reducible refine (HEQ.out _ (on_new HO.out HW.out)).mono ?_); rintro ee w9 ⟨rfl, rfl⟩)
      go_ret
      exact ⟨rfl, on_new HO.out HW.out⟩
set_option maxRecDepth 100000 in
set_option maxHeartbeats 6400000 in
theorem rmSame_c (w : World) (g ph t x r p l g' ph' t' x' r' p' l' : Int) (A B : Option Addr) (n c m d : Nat) (xs ys : Bytes) (hx : Src w (.slice A n c) xs) (hy : Src w (.slice B m d) ys) :
    Calls Tryd.prog 22 #[.agg #[.int .i64 g, .int .i64 ph, .int .i64 t, .int .i64 x, .int .i64 r, .int .i64 p, .int .i64 l, .slice A n c], .agg #[.int .i64 g', .int .i64 ph', .int .i64 t', .int .i64 x', .int .i64 r', .int .i64 p', .int .i64 l', .slice B m d]] w (Told w (.bool (decide ([g, ph, t, x, r, p, l] = [g', ph', t', x', r', p', l']) && decide (xs = ys)))) := by
  have HO0 : Hid (Only (w.heap.size ≤ ·) w ((w.alloc (.cells #[.int .i64 g, .int .i64 ph, .int .i64 t, .int .i64 x, .int .i64 r, .int .i64 p, .int .i64 l, .slice A n c] 25)).alloc (.cells #[.int .i64 g', .int .i64 ph', .int .i64 t', .int .i64 x', .int .i64 r', .int .i64 p', .int .i64 l', .slice B m d] 25))) := Lib.hid (((Only.refl _ w).alloc (fun _ h => h) _).alloc (fun _ h => h) _)
  have k1 := convert_src (hx.later HO0.out)
  have k2 := convert_src (hy.later HO0.out)
  clear HO0 hx hy
  by_cases h0 : g = g'
  · subst h0
    by_cases h1 : ph = ph'
    · subst h1
      by_cases h2 : t = t'
      · subst h2
        by_cases h3 : x = x'
        · subst h3
          by_cases h4 : r = r'
          · subst h4
            by_cases h5 : p = p'
            · subst h5
              by_cases h6 : l = l'
              · subst h6
                rw [decide_eq_true rfl, Bool.true_and]
                by_cases h7 : xs = ys
                · subst h7
                  rw [decide_eq_true rfl]
                  go_enter Tryd.func22, Tryd.ntmps22
                  go_wp2
                  go_ret
                  exact ⟨by first | rfl | simp, (((Only.refl _ w).alloc (fun _ h => h) _).alloc (fun _ h => h) _)⟩
                · have hb : (xs == ys) = false := by rw [beq_eq_false_iff_ne]; exact h7
                  rw [decide_eq_false h7]
                  go_enter Tryd.func22, Tryd.ntmps22
                  go_wp2
                  go_ret
                  exact ⟨by first | rfl | simp | simpa using h7, (((Only.refl _ w).alloc (fun _ h => h) _).alloc (fun _ h => h) _)⟩
              · have hb : (l == l') = false := by rw [beq_eq_false_iff_ne]; exact h6
                rw [show decide ([g, ph, t, x, r, p, l] = [g, ph, t, x, r, p, l']) = false from decide_eq_false (by simp [h6]), Bool.false_and]
                go_enter Tryd.func22, Tryd.ntmps22
                go_wp2
                go_ret
                exact ⟨rfl, (((Only.refl _ w).alloc (fun _ h => h) _).alloc (fun _ h => h) _)⟩
            · have hb : (p == p') = false := by rw [beq_eq_false_iff_ne]; exact h5
              rw [show decide ([g, ph, t, x, r, p, l] = [g, ph, t, x, r, p', l']) = false from decide_eq_false (by simp [h5]), Bool.false_and]
              go_enter Tryd.func22, Tryd.ntmps22
              go_wp2
              go_ret
              exact ⟨rfl, (((Only.refl _ w).alloc (fun _ h => h) _).alloc (fun _ h => h) _)⟩
          · have hb : (r == r') = false := by rw [beq_eq_false_iff_ne]; exact h4
            rw [show decide ([g, ph, t, x, r, p, l] = [g, ph, t, x, r', p', l']) = false from decide_eq_false (by simp [h4]), Bool.false_and]
            go_enter Tryd.func22, Tryd.ntmps22
            go_wp2
            go_ret
            exact ⟨rfl, (((Only.refl _ w).alloc (fun _ h => h) _).alloc (fun _ h => h) _)⟩
        · have hb : (x == x') = false := by rw [beq_eq_false_iff_ne]; exact h3
          rw [show decide ([g, ph, t, x, r, p, l] = [g, ph, t, x', r', p', l']) = false from decide_eq_false (by simp [h3]), Bool.false_and]
          go_enter Tryd.func22, Tryd.ntmps22
          go_wp2
          go_ret
          exact ⟨rfl, (((Only.refl _ w).alloc (fun _ h => h) _).alloc (fun _ h => h) _)⟩
      · have hb : (t == t') = false := by rw [beq_eq_false_iff_ne]; exact h2
        rw [show decide ([g, ph, t, x, r, p, l] = [g, ph, t', x', r', p', l']) = false from decide_eq_false (by simp [h2]), Bool.false_and]
        go_enter Tryd.func22, Tryd.ntmps22
        go_wp2
        go_ret
        exact ⟨rfl, (((Only.refl _ w).alloc (fun _ h => h) _).alloc (fun _ h => h) _)⟩
    · have hb : (ph == ph') = false := by rw [beq_eq_false_iff_ne]; exact h1
      rw [show decide ([g, ph, t, x, r, p, l] = [g, ph', t', x', r', p', l']) = false from decide_eq_false (by simp [h1]), Bool.false_and]
      go_enter Tryd.func22, Tryd.ntmps22
      go_wp2
      go_ret
      exact ⟨rfl, (((Only.refl _ w).alloc (fun _ h => h) _).alloc (fun _ h => h) _)⟩
  · have hb : (g == g') = false := by rw [beq_eq_false_iff_ne]; exact h0
    rw [show decide ([g, ph, t, x, r, p, l] = [g', ph', t', x', r', p', l']) = false from decide_eq_false (by simp [h0]), Bool.false_and]
    go_enter Tryd.func22, Tryd.ntmps22
    go_wp2
    go_ret
    exact ⟨rfl, (((Only.refl _ w).alloc (fun _ h => h) _).alloc (fun _ h => h) _)⟩
end Go.Proofs.YtopaponemjaenaaDoor
