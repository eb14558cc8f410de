/-
  Metas: the document's Decode.
-/
import Derived.Test.YtopaponemjaenaaGreatDoorMcp
import Derived.Test.YtopaponemjaenaaGreatDoorMre
set_option linter.unusedVariables false
namespace Go.Proofs.YtopaponemjaenaaGreatDoor
open Go.RowKit

theorem rload_meta {w : World} {q : Nat} {a b c d e f g : Int} {A : Option Addr} {n k : Nat} (h : Blk w q 25 [.int .i64 a, .int .i64 b, .int .i64 c, .int .i64 d, .int .i64 e, .int .i64 f, .int .i64 g, .slice A n k]) : (loadVar 25 ⟨q, 0, none⟩).run Tryz.prog w = .ok (.agg #[.int .i64 a, .int .i64 b, .int .i64 c, .int .i64 d, .int .i64 e, .int .i64 f, .int .i64 g, .slice A n k]) w := by
  have hl := run_loadCells_list (P := Tryz.prog) w ⟨q, 0, none⟩ [.int .i64 a, .int .i64 b, .int .i64 c, .int .i64 d, .int .i64 e, .int .i64 f, .int .i64 g, .slice A n k] (fun j z hz => by rw [Addr.add_lit, h.cell, Nat.zero_add]; exact hz)
  simp only [List.length_cons, List.length_nil] at hl
  simp [loadVar, hl]
/-- The document's meta came back, and an error. -/
def GaveRD (w : World) (M : List Int) (xs : Bytes) (z : Int) (e : Ending) (w' : World) : Prop := ∃ (g ph t x r p l : Int) (A : Option Addr) (n c : Nat), M = [g, ph, t, x, r, p, l] ∧ n = xs.length ∧ e = .returned (.tuple #[.agg #[.int .i64 g, .int .i64 ph, .int .i64 t, .int .i64 x, .int .i64 r, .int .i64 p, .int .i64 l, .slice A n c], .int .i64 z]) ∧ Src w' (.slice A n c) xs ∧ Only (w.heap.size ≤ ·) w w'
theorem byte_at {W : World} {bl o n c : Nat} {b : Bytes} (h : Src W (.slice (some ⟨bl, o, none⟩) n c) b) {i : Nat} (hi : i < b.length) : W.cell? ⟨bl, o + i, none⟩ = some (.int .u8 (dB b i : Nat)) := by
  obtain ⟨A', c', e, ht, _⟩ := h
  simp only [Value.slice.injEq] at e
  obtain ⟨rfl, e2, rfl⟩ := e
  obtain ⟨ad, y, h1, h2, h3⟩ := ht.at_ (k := i) hi
  injection h1 with h1
  subst h1
  rw [Addr.add_lit] at h3
  have e3 : dB b i = y.toNat := by unfold dB; rw [List.getD_eq_getElem?_getD, h2]; rfl
  rw [e3]
  exact h3
theorem dB_lt (b : Bytes) (i : Nat) : dB b i < 256 := UInt8.toNat_lt _
theorem dB_zero {b : Bytes} {i : Nat} (h : dB b i = 0) : b.getD i 0 = 0 := by
  unfold dB at h
  exact UInt8.toNat_inj.1 h
theorem seal_put {w : World} {bl o c : Nat} {b : Bytes} (hs : Src w (.slice (some ⟨bl, o, none⟩) 256 c) b) : sealB b 252 = put4 b 252 := by
  have hl : b.length = 256 := by
    obtain ⟨_, _, e, _⟩ := hs
    injection e with _ e2 _
    exact e2.symm
  unfold sealB
  rw [if_pos (by rw [hl]; decide)]
  rfl
section
variable (w : World) (bl o c : Nat) (b : Bytes) (hs : Src w (.slice (some ⟨bl, o, none⟩) 256 c) b) (hc : 256 ≤ c)
include hs hc
set_option maxRecDepth 100000 in
set_option maxHeartbeats 3200000 in
theorem rd9_m (hm : b.take 4 ≠ mark4) : Calls Tryz.prog 77 #[.slice (some ⟨bl, o, none⟩) 256 c] w (GaveRD w [0, 0, 0, 0, 0, 0, 0] [] 90) := by
  obtain ⟨w1, hw1⟩ : ∃ W0, W0 = w.alloc (.cells #[.int .i64 0, .int .i64 0, .int .i64 0, .int .i64 0, .int .i64 0, .int .i64 0, .int .i64 0, .slice none 0 0] 25) := ⟨_, rfl⟩
  have HO : Hid (Only (w.heap.size ≤ ·) w w1) := Lib.hid (by rw [hw1]; exact (Only.refl _ w).alloc (fun _ h => h) _)
  have HR : Hid (Blk w1 w.heap.size 25 [.int .i64 0, .int .i64 0, .int .i64 0, .int .i64 0, .int .i64 0, .int .i64 0, .int .i64 0, .slice none 0 0]) := Lib.hid (by rw [hw1]; exact Blk.new w 25 _)
  have HSA : Hid (∀ W, Only (w.heap.size ≤ ·) w W → Src W (.slice (some ⟨bl, o, none⟩) 4 c) (b.take 4)) := Lib.hid fun W hW => by
    have h := src_part (hs.later hW) (a := 0) (z := 4) (by omega) (by omega)
    simpa using h
  have HSB : Hid (∀ W, Only (w.heap.size ≤ ·) w W → Src W (.slice (some ⟨bl, o + 248, none⟩) 4 (c - 248)) ((b.drop 248).take 4)) := Lib.hid fun W hW => src_part (hs.later hW) (a := 248) (z := 252) (by omega) (by omega)
  have y1 : (256 : Int) ≤ (c : Int) := by omega
  have y2 : ¬ c = 248 := by omega
  have y3 : 248 ≤ c := by omega
  have y4 : (4 : Int) ≤ (c : Int) := by omega
  have y5 : (252 : Int) ≤ (c : Int) := by omega
  have e1 : (b.take 4 == [82, 71, 65, 85]) = false := by rw [beq_eq_false_iff_ne]; exact hm
  clear hs hc hm
  have k1 := convert_src (HSA.out _ HO.out)
  have k2 := convert_src (HSB.out _ HO.out)
  go_enter Tryz.func77, Tryz.ntmps77
  go_upto_region 1 with (fail)
  rw [← hw1]
  clear hw1
  go_upto_region 2 with (fail)
  clear k1 k2 e1
  obtain ⟨r0, r1, r2, r3, r4, r5, r6, r7⟩ := HR.out.eight
  have z0 := HR.out.frozen 0
  have z1 := HR.out.frozen 1
  have z2 := HR.out.frozen 2
  have z3 := HR.out.frozen 3
  have z4 := HR.out.frozen 4
  have z5 := HR.out.frozen 5
  have z6 := HR.out.frozen 6
  have z7 := HR.out.frozen 7
  go_wp2
  refine bodyPost_ret (results_cell_tmp rfl rfl (rload_meta ((((((((HR.out.set_ 0 (.int .i64 0)).set_ 1 (.int .i64 0)).set_ 2 (.int .i64 0)).set_ 3 (.int .i64 0)).set_ 4 (.int .i64 0)).set_ 5 (.int .i64 0)).set_ 6 (.int .i64 0)).set_ 7 (.slice none 0 0)))) rfl ?_
  exact ⟨0, 0, 0, 0, 0, 0, 0, none, 0, 0, rfl, rfl, rfl, Src.nil_ _, ((((((((HO.out.setCell (p := ⟨w.heap.size, 0, none⟩) (Nat.le_refl _) (.int .i64 0)).setCell (p := ⟨w.heap.size, 1, none⟩) (Nat.le_refl _) (.int .i64 0)).setCell (p := ⟨w.heap.size, 2, none⟩) (Nat.le_refl _) (.int .i64 0)).setCell (p := ⟨w.heap.size, 3, none⟩) (Nat.le_refl _) (.int .i64 0)).setCell (p := ⟨w.heap.size, 4, none⟩) (Nat.le_refl _) (.int .i64 0)).setCell (p := ⟨w.heap.size, 5, none⟩) (Nat.le_refl _) (.int .i64 0)).setCell (p := ⟨w.heap.size, 6, none⟩) (Nat.le_refl _) (.int .i64 0)).setCell (p := ⟨w.heap.size, 7, none⟩) (Nat.le_refl _) (.slice none 0 0))⟩
set_option maxRecDepth 100000 in
set_option maxHeartbeats 3200000 in
theorem rd9_t (hm : b.take 4 = mark4) (ht : (b.drop 248).take 4 ≠ tail4) : Calls Tryz.prog 77 #[.slice (some ⟨bl, o, none⟩) 256 c] w (GaveRD w [0, 0, 0, 0, 0, 0, 0] [] 90) := by
  obtain ⟨w1, hw1⟩ : ∃ W0, W0 = w.alloc (.cells #[.int .i64 0, .int .i64 0, .int .i64 0, .int .i64 0, .int .i64 0, .int .i64 0, .int .i64 0, .slice none 0 0] 25) := ⟨_, rfl⟩
  have HO : Hid (Only (w.heap.size ≤ ·) w w1) := Lib.hid (by rw [hw1]; exact (Only.refl _ w).alloc (fun _ h => h) _)
  have HR : Hid (Blk w1 w.heap.size 25 [.int .i64 0, .int .i64 0, .int .i64 0, .int .i64 0, .int .i64 0, .int .i64 0, .int .i64 0, .slice none 0 0]) := Lib.hid (by rw [hw1]; exact Blk.new w 25 _)
  have HSA : Hid (∀ W, Only (w.heap.size ≤ ·) w W → Src W (.slice (some ⟨bl, o, none⟩) 4 c) (b.take 4)) := Lib.hid fun W hW => by
    have h := src_part (hs.later hW) (a := 0) (z := 4) (by omega) (by omega)
    simpa using h
  have HSB : Hid (∀ W, Only (w.heap.size ≤ ·) w W → Src W (.slice (some ⟨bl, o + 248, none⟩) 4 (c - 248)) ((b.drop 248).take 4)) := Lib.hid fun W hW => src_part (hs.later hW) (a := 248) (z := 252) (by omega) (by omega)
  have y1 : (256 : Int) ≤ (c : Int) := by omega
  have y2 : ¬ c = 248 := by omega
  have y3 : 248 ≤ c := by omega
  have y4 : (4 : Int) ≤ (c : Int) := by omega
  have y5 : (252 : Int) ≤ (c : Int) := by omega
  have e1 : (b.take 4 == [82, 71, 65, 85]) = true := by rw [beq_iff_eq]; exact hm
  have e2 : ((b.drop 248).take 4 == [85, 65, 71, 82]) = false := by rw [beq_eq_false_iff_ne]; exact ht
  clear hs hc hm ht
  have k1 := convert_src (HSA.out _ HO.out)
  have k2 := convert_src (HSB.out _ HO.out)
  go_enter Tryz.func77, Tryz.ntmps77
  go_upto_region 1 with (fail)
  rw [← hw1]
  clear hw1
  go_upto_region 2 with (fail)
  clear k1 k2 e1 e2
  obtain ⟨r0, r1, r2, r3, r4, r5, r6, r7⟩ := HR.out.eight
  have z0 := HR.out.frozen 0
  have z1 := HR.out.frozen 1
  have z2 := HR.out.frozen 2
  have z3 := HR.out.frozen 3
  have z4 := HR.out.frozen 4
  have z5 := HR.out.frozen 5
  have z6 := HR.out.frozen 6
  have z7 := HR.out.frozen 7
  go_wp2
  refine bodyPost_ret (results_cell_tmp rfl rfl (rload_meta ((((((((HR.out.set_ 0 (.int .i64 0)).set_ 1 (.int .i64 0)).set_ 2 (.int .i64 0)).set_ 3 (.int .i64 0)).set_ 4 (.int .i64 0)).set_ 5 (.int .i64 0)).set_ 6 (.int .i64 0)).set_ 7 (.slice none 0 0)))) rfl ?_
  exact ⟨0, 0, 0, 0, 0, 0, 0, none, 0, 0, rfl, rfl, rfl, Src.nil_ _, ((((((((HO.out.setCell (p := ⟨w.heap.size, 0, none⟩) (Nat.le_refl _) (.int .i64 0)).setCell (p := ⟨w.heap.size, 1, none⟩) (Nat.le_refl _) (.int .i64 0)).setCell (p := ⟨w.heap.size, 2, none⟩) (Nat.le_refl _) (.int .i64 0)).setCell (p := ⟨w.heap.size, 3, none⟩) (Nat.le_refl _) (.int .i64 0)).setCell (p := ⟨w.heap.size, 4, none⟩) (Nat.le_refl _) (.int .i64 0)).setCell (p := ⟨w.heap.size, 5, none⟩) (Nat.le_refl _) (.int .i64 0)).setCell (p := ⟨w.heap.size, 6, none⟩) (Nat.le_refl _) (.int .i64 0)).setCell (p := ⟨w.heap.size, 7, none⟩) (Nat.le_refl _) (.slice none 0 0))⟩
set_option maxRecDepth 100000 in
set_option maxHeartbeats 3200000 in
theorem rd9_s (h1 : b.take 4 = mark4) (h2 : (b.drop 248).take 4 = tail4) (h3 : b ≠ put4 b 252) : Calls Tryz.prog 77 #[.slice (some ⟨bl, o, none⟩) 256 c] w (GaveRD w [0, 0, 0, 0, 0, 0, 0] [] 91) := by
  obtain ⟨w1, hw1⟩ : ∃ W0, W0 = w.alloc (.cells #[.int .i64 0, .int .i64 0, .int .i64 0, .int .i64 0, .int .i64 0, .int .i64 0, .int .i64 0, .slice none 0 0] 25) := ⟨_, rfl⟩
  have HO : Hid (Only (w.heap.size ≤ ·) w w1) := Lib.hid (by rw [hw1]; exact (Only.refl _ w).alloc (fun _ h => h) _)
  have HR : Hid (Blk w1 w.heap.size 25 [.int .i64 0, .int .i64 0, .int .i64 0, .int .i64 0, .int .i64 0, .int .i64 0, .int .i64 0, .slice none 0 0]) := Lib.hid (by rw [hw1]; exact Blk.new w 25 _)
  have HSA : Hid (∀ W, Only (w.heap.size ≤ ·) w W → Src W (.slice (some ⟨bl, o, none⟩) 4 c) (b.take 4)) := Lib.hid fun W hW => by
    have h := src_part (hs.later hW) (a := 0) (z := 4) (by omega) (by omega)
    simpa using h
  have HSB : Hid (∀ W, Only (w.heap.size ≤ ·) w W → Src W (.slice (some ⟨bl, o + 248, none⟩) 4 (c - 248)) ((b.drop 248).take 4)) := Lib.hid fun W hW => src_part (hs.later hW) (a := 248) (z := 252) (by omega) (by omega)
  have HSS : Hid (∀ W, Only (w.heap.size ≤ ·) w W → Src W (.slice (some ⟨bl, o, none⟩) 256 c) b) := Lib.hid fun W hW => hs.later hW
  have y1 : (256 : Int) ≤ (c : Int) := by omega
  have y2 : ¬ c = 248 := by omega
  have y3 : 248 ≤ c := by omega
  have y4 : (4 : Int) ≤ (c : Int) := by omega
  have y5 : (252 : Int) ≤ (c : Int) := by omega
  have e1 : (b.take 4 == [82, 71, 65, 85]) = true := by rw [beq_iff_eq]; exact h1
  have e2 : ((b.drop 248).take 4 == [85, 65, 71, 82]) = true := by rw [beq_iff_eq]; exact h2
  have HSL : Hid (∀ W, Only (w.heap.size ≤ ·) w W → Calls Tryz.prog 69 #[.slice (some ⟨bl, o, none⟩) 256 c, .int .i64 252] W (GaveB W (put4 b 252))) := Lib.hid fun W hW => by have h := rSeal_t W _ b (hs.later hW) (by (obtain ⟨_, _, e, _⟩ := hs); injection e with _ e2 _; omega); rwa [seal_put hs] at h
  have e3 : (put4 b 252 == b) = false := by rw [beq_eq_false_iff_ne]; exact fun e => h3 e.symm
  clear hs hc h1 h2 h3
  have k1 := convert_src (HSA.out _ HO.out)
  have k2 := convert_src (HSB.out _ HO.out)
  go_enter Tryz.func77, Tryz.ntmps77
  go_upto_region 1 with (fail)
  rw [← hw1]
  clear hw1
  go_upto_region 3 with (fail)
  clear k1 k2 e1 e2
  go_cut [30] from 25 to 29 (fun y wz => y = .bool true ∧ Hid (Only (w.heap.size ≤ ·) w wz) ∧ Hid (Blk wz w.heap.size 25 [.int .i64 0, .int .i64 0, .int .i64 0, .int .i64 0, .int .i64 0, .int .i64 0, .int .i64 0, .slice none 0 0]))
  case first =>
    replace HR := Lib.hid HR.out.drew
    replace HO := Lib.hid HO.out.drew
    refine wp_region_list (B := [false, false, false, false, false, false]) (S := (fun _ => True)) (by kernel_rfl) (by kernel_rfl) (by kernel_rfl) trivial (fun hsel hHeld => ?_)
    generalize hwz : World.drew _ = wz at HR HO hHeld ⊢
    clear hwz
    refine oneA 0 25 hsel (h := ?_)
    simp only [Act.put, List.setIfInBounds_toArray, List.set_cons_zero, List.set_cons_succ]
    refine oneA 3 28 hsel (h := ?_)
    simp only [Act.put, List.setIfInBounds_toArray, List.set_cons_zero, List.set_cons_succ]
    refine wpAnyL_ready (rs := [1, 4]) (by kernel_rfl) (by kernel_rfl) (by simp) ?_
    refine AllReadyL.cons (o := ?_) ?_ (fun K hK => ?_) (AllReadyL.cons (o := ?_) ?_ (fun K hK => ?_) AllReadyL.nil)
    case refine_2 => (simp only [List.getElem?_cons_succ, List.getElem?_cons_zero]; rfl)
    case refine_5 => (simp only [List.getElem?_cons_succ, List.getElem?_cons_zero]; rfl)
    case refine_3 =>
      go_simp
      (go_at_call 69; (with_reducible refine (HSL.out _ HO.out).mono ?_); rintro ee w3 ⟨sv, rfl, hsv, ho⟩; have HSV := Lib.hid hsv; (replace HR := Lib.hid (HR.out.later ho)); (replace HO := Lib.hid (on_new HO.out ho)); clear ho hsv)
      go_wp2_with (fail)
      clear hHeld
      refine hK.out _ _ trivial (fun hHeld => ?_)
      clear hK K
      try simp only [List.set_cons_zero, List.set_cons_succ]
      refine wpAnyL_ready (rs := [2, 4]) (by kernel_rfl) (by kernel_rfl) (by simp) ?_
      refine AllReadyL.cons (o := ?_) ?_ (fun K hK => ?_) (AllReadyL.cons (o := ?_) ?_ (fun K hK => ?_) AllReadyL.nil)
      case refine_2 => (simp only [List.getElem?_cons_succ, List.getElem?_cons_zero]; rfl)
      case refine_5 => (simp only [List.getElem?_cons_succ, List.getElem?_cons_zero]; rfl)
      case refine_3 =>
        have k1 := convert_src HSV.out
        go_simp
        clear hHeld
        refine hK.out _ _ trivial (fun hHeld => ?_)
        clear hK K
        try simp only [List.set_cons_zero, List.set_cons_succ]
        clear k1
        refine wpAnyL_ready (rs := [4]) (by kernel_rfl) (by kernel_rfl) (by simp) ?_
        refine AllReadyL.cons (o := ?_) ?_ (fun K hK => ?_) AllReadyL.nil
        case refine_2 => (simp only [List.getElem?_cons_succ, List.getElem?_cons_zero]; rfl)
        have k2 := convert_src (HSS.out _ HO.out)
        go_simp
        clear hHeld
        refine hK.out _ _ trivial (fun hHeld => ?_)
        clear hK K
        try simp only [List.set_cons_zero, List.set_cons_succ]
        clear k2
        refine oneA 5 30 hsel (h := ?_)
        simp only [Act.put, List.setIfInBounds_toArray, List.set_cons_zero, List.set_cons_succ]
        refine wpAnyL_done (by kernel_rfl) (by kernel_rfl) ?_ _
        clear hsel hHeld
        go_wp2_with (fail)
        go_meet
        exact ⟨rfl, HO, HR⟩
      case refine_6 =>
        have k2 := convert_src (HSS.out _ HO.out)
        go_simp
        clear hHeld
        refine hK.out _ _ trivial (fun hHeld => ?_)
        clear hK K
        try simp only [List.set_cons_zero, List.set_cons_succ]
        clear k2
        refine wpAnyL_ready (rs := [2]) (by kernel_rfl) (by kernel_rfl) (by simp) ?_
        refine AllReadyL.cons (o := ?_) ?_ (fun K hK => ?_) AllReadyL.nil
        case refine_2 => (simp only [List.getElem?_cons_succ, List.getElem?_cons_zero]; rfl)
        have k1 := convert_src HSV.out
        go_simp
        clear hHeld
        refine hK.out _ _ trivial (fun hHeld => ?_)
        clear hK K
        try simp only [List.set_cons_zero, List.set_cons_succ]
        clear k1
        refine oneA 5 30 hsel (h := ?_)
        simp only [Act.put, List.setIfInBounds_toArray, List.set_cons_zero, List.set_cons_succ]
        refine wpAnyL_done (by kernel_rfl) (by kernel_rfl) ?_ _
        clear hsel hHeld
        go_wp2_with (fail)
        go_meet
        exact ⟨rfl, HO, HR⟩
    case refine_6 =>
      have k2 := convert_src (HSS.out _ HO.out)
      go_simp
      clear hHeld
      refine hK.out _ _ trivial (fun hHeld => ?_)
      clear hK K
      try simp only [List.set_cons_zero, List.set_cons_succ]
      clear k2
      refine wpAnyL_ready (rs := [1]) (by kernel_rfl) (by kernel_rfl) (by simp) ?_
      refine AllReadyL.cons (o := ?_) ?_ (fun K hK => ?_) AllReadyL.nil
      case refine_2 => (simp only [List.getElem?_cons_succ, List.getElem?_cons_zero]; rfl)
      go_simp
      (go_at_call 69; (with_reducible refine (HSL.out _ HO.out).mono ?_); rintro ee w3 ⟨sv, rfl, hsv, ho⟩; have HSV := Lib.hid hsv; (replace HR := Lib.hid (HR.out.later ho)); (replace HO := Lib.hid (on_new HO.out ho)); clear ho hsv)
      go_wp2_with (fail)
      clear hHeld
      refine hK.out _ _ trivial (fun hHeld => ?_)
      clear hK K
      try simp only [List.set_cons_zero, List.set_cons_succ]
      refine wpAnyL_ready (rs := [2]) (by kernel_rfl) (by kernel_rfl) (by simp) ?_
      refine AllReadyL.cons (o := ?_) ?_ (fun K hK => ?_) AllReadyL.nil
      case refine_2 => (simp only [List.getElem?_cons_succ, List.getElem?_cons_zero]; rfl)
      have k1 := convert_src HSV.out
      go_simp
      clear hHeld
      refine hK.out _ _ trivial (fun hHeld => ?_)
      clear hK K
      try simp only [List.set_cons_zero, List.set_cons_succ]
      clear k1
      refine oneA 5 30 hsel (h := ?_)
      simp only [Act.put, List.setIfInBounds_toArray, List.set_cons_zero, List.set_cons_succ]
      refine wpAnyL_done (by kernel_rfl) (by kernel_rfl) ?_ _
      clear hsel hHeld
      go_wp2_with (fail)
      go_meet
      exact ⟨rfl, HO, HR⟩
  case rest =>
    obtain ⟨rfl, HO, HR⟩ := hcut
    obtain ⟨r0, r1, r2, r3, r4, r5, r6, r7⟩ := HR.out.eight
    have z0 := HR.out.frozen 0
    have z1 := HR.out.frozen 1
    have z2 := HR.out.frozen 2
    have z3 := HR.out.frozen 3
    have z4 := HR.out.frozen 4
    have z5 := HR.out.frozen 5
    have z6 := HR.out.frozen 6
    have z7 := HR.out.frozen 7
    go_wp2
    refine bodyPost_ret (results_cell_tmp rfl rfl (rload_meta ((((((((HR.out.set_ 0 (.int .i64 0)).set_ 1 (.int .i64 0)).set_ 2 (.int .i64 0)).set_ 3 (.int .i64 0)).set_ 4 (.int .i64 0)).set_ 5 (.int .i64 0)).set_ 6 (.int .i64 0)).set_ 7 (.slice none 0 0)))) rfl ?_
    exact ⟨0, 0, 0, 0, 0, 0, 0, none, 0, 0, rfl, rfl, rfl, Src.nil_ _, ((((((((HO.out.setCell (p := ⟨w.heap.size, 0, none⟩) (Nat.le_refl _) (.int .i64 0)).setCell (p := ⟨w.heap.size, 1, none⟩) (Nat.le_refl _) (.int .i64 0)).setCell (p := ⟨w.heap.size, 2, none⟩) (Nat.le_refl _) (.int .i64 0)).setCell (p := ⟨w.heap.size, 3, none⟩) (Nat.le_refl _) (.int .i64 0)).setCell (p := ⟨w.heap.size, 4, none⟩) (Nat.le_refl _) (.int .i64 0)).setCell (p := ⟨w.heap.size, 5, none⟩) (Nat.le_refl _) (.int .i64 0)).setCell (p := ⟨w.heap.size, 6, none⟩) (Nat.le_refl _) (.int .i64 0)).setCell (p := ⟨w.heap.size, 7, none⟩) (Nat.le_refl _) (.slice none 0 0))⟩
set_option maxRecDepth 100000 in
set_option maxHeartbeats 6400000 in
theorem rd9_g (h1 : b.take 4 = mark4) (h2 : (b.drop 248).take 4 = tail4) (h3 : b = put4 b 252) (hg : ¬ (gen (dB b 4 : Int) = true ∧ dB b 6 ≤ 3)) : Calls Tryz.prog 77 #[.slice (some ⟨bl, o, none⟩) 256 c] w (GaveRD w [0, 0, 0, 0, 0, 0, 0] [] 93) := by
  obtain ⟨w1, hw1⟩ : ∃ W0, W0 = w.alloc (.cells #[.int .i64 0, .int .i64 0, .int .i64 0, .int .i64 0, .int .i64 0, .int .i64 0, .int .i64 0, .slice none 0 0] 25) := ⟨_, rfl⟩
  have HO : Hid (Only (w.heap.size ≤ ·) w w1) := Lib.hid (by rw [hw1]; exact (Only.refl _ w).alloc (fun _ h => h) _)
  have HR : Hid (Blk w1 w.heap.size 25 [.int .i64 0, .int .i64 0, .int .i64 0, .int .i64 0, .int .i64 0, .int .i64 0, .int .i64 0, .slice none 0 0]) := Lib.hid (by rw [hw1]; exact Blk.new w 25 _)
  have HSA : Hid (∀ W, Only (w.heap.size ≤ ·) w W → Src W (.slice (some ⟨bl, o, none⟩) 4 c) (b.take 4)) := Lib.hid fun W hW => by
    have h := src_part (hs.later hW) (a := 0) (z := 4) (by omega) (by omega)
    simpa using h
  have HSB : Hid (∀ W, Only (w.heap.size ≤ ·) w W → Src W (.slice (some ⟨bl, o + 248, none⟩) 4 (c - 248)) ((b.drop 248).take 4)) := Lib.hid fun W hW => src_part (hs.later hW) (a := 248) (z := 252) (by omega) (by omega)
  have HSS : Hid (∀ W, Only (w.heap.size ≤ ·) w W → Src W (.slice (some ⟨bl, o, none⟩) 256 c) b) := Lib.hid fun W hW => hs.later hW
  have y1 : (256 : Int) ≤ (c : Int) := by omega
  have y2 : ¬ c = 248 := by omega
  have y3 : 248 ≤ c := by omega
  have y4 : (4 : Int) ≤ (c : Int) := by omega
  have y5 : (252 : Int) ≤ (c : Int) := by omega
  have HBL : Hid (b.length = 256) := Lib.hid (by (obtain ⟨_, _, e, _⟩ := hs; injection e with _ e2 _; exact e2.symm))
  have e1 : (b.take 4 == [82, 71, 65, 85]) = true := by rw [beq_iff_eq]; exact h1
  have e2 : ((b.drop 248).take 4 == [85, 65, 71, 82]) = true := by rw [beq_iff_eq]; exact h2
  have HSL : Hid (∀ W, Only (w.heap.size ≤ ·) w W → Calls Tryz.prog 69 #[.slice (some ⟨bl, o, none⟩) 256 c, .int .i64 252] W (GaveB W (put4 b 252))) := Lib.hid fun W hW => by have h := rSeal_t W _ b (hs.later hW) (by (obtain ⟨_, _, e, _⟩ := hs); injection e with _ e2 _; omega); rwa [seal_put hs] at h
  have e3 : (put4 b 252 == b) = true := by rw [beq_iff_eq]; exact h3.symm
  have hcase : dB b 4 < 1 ∨ 3 < dB b 4 ∨ (1 ≤ dB b 4 ∧ dB b 4 ≤ 3 ∧ 3 < dB b 6) := by
    by_cases a1 : dB b 4 < 1
    · exact .inl a1
    by_cases a2 : 3 < dB b 4
    · exact .inr (.inl a2)
    refine .inr (.inr ⟨by omega, by omega, Nat.lt_of_not_le fun h => hg ⟨?_, h⟩⟩)
    unfold gen
    rw [decide_eq_true_eq]
    omega
  have HCA := Lib.hid hcase
  clear hs hc h1 h2 h3 hg hcase
  have k1 := convert_src (HSA.out _ HO.out)
  have k2 := convert_src (HSB.out _ HO.out)
  go_enter Tryz.func77, Tryz.ntmps77
  go_upto_region 1 with (fail)
  rw [← hw1]
  clear hw1
  go_upto_region 3 with (fail)
  clear k1 k2 e1 e2
  go_cut [30] from 25 to 29 (fun y wz => y = .bool false ∧ Hid (Only (w.heap.size ≤ ·) w wz) ∧ Hid (Blk wz w.heap.size 25 [.int .i64 0, .int .i64 0, .int .i64 0, .int .i64 0, .int .i64 0, .int .i64 0, .int .i64 0, .slice none 0 0]))
  case first =>
    replace HR := Lib.hid HR.out.drew
    replace HO := Lib.hid HO.out.drew
    refine wp_region_list (B := [false, false, false, false, false, false]) (S := (fun _ => True)) (by kernel_rfl) (by kernel_rfl) (by kernel_rfl) trivial (fun hsel hHeld => ?_)
    generalize hwz : World.drew _ = wz at HR HO hHeld ⊢
    clear hwz
    refine oneA 0 25 hsel (h := ?_)
    simp only [Act.put, List.setIfInBounds_toArray, List.set_cons_zero, List.set_cons_succ]
    refine oneA 3 28 hsel (h := ?_)
    simp only [Act.put, List.setIfInBounds_toArray, List.set_cons_zero, List.set_cons_succ]
    refine wpAnyL_ready (rs := [1, 4]) (by kernel_rfl) (by kernel_rfl) (by simp) ?_
    refine AllReadyL.cons (o := ?_) ?_ (fun K hK => ?_) (AllReadyL.cons (o := ?_) ?_ (fun K hK => ?_) AllReadyL.nil)
    case refine_2 => (simp only [List.getElem?_cons_succ, List.getElem?_cons_zero]; rfl)
    case refine_5 => (simp only [List.getElem?_cons_succ, List.getElem?_cons_zero]; rfl)
    case refine_3 =>
      go_simp
      (go_at_call 69; (with_reducible refine (HSL.out _ HO.out).mono ?_); rintro ee w3 ⟨sv, rfl, hsv, ho⟩; have HSV := Lib.hid hsv; (replace HR := Lib.hid (HR.out.later ho)); (replace HO := Lib.hid (on_new HO.out ho)); clear ho hsv)
      go_wp2_with (fail)
      clear hHeld
      refine hK.out _ _ trivial (fun hHeld => ?_)
      clear hK K
      try simp only [List.set_cons_zero, List.set_cons_succ]
      refine wpAnyL_ready (rs := [2, 4]) (by kernel_rfl) (by kernel_rfl) (by simp) ?_
      refine AllReadyL.cons (o := ?_) ?_ (fun K hK => ?_) (AllReadyL.cons (o := ?_) ?_ (fun K hK => ?_) AllReadyL.nil)
      case refine_2 => (simp only [List.getElem?_cons_succ, List.getElem?_cons_zero]; rfl)
      case refine_5 => (simp only [List.getElem?_cons_succ, List.getElem?_cons_zero]; rfl)
      case refine_3 =>
        have k1 := convert_src HSV.out
        go_simp
        clear hHeld
        refine hK.out _ _ trivial (fun hHeld => ?_)
        clear hK K
        try simp only [List.set_cons_zero, List.set_cons_succ]
        clear k1
        refine wpAnyL_ready (rs := [4]) (by kernel_rfl) (by kernel_rfl) (by simp) ?_
        refine AllReadyL.cons (o := ?_) ?_ (fun K hK => ?_) AllReadyL.nil
        case refine_2 => (simp only [List.getElem?_cons_succ, List.getElem?_cons_zero]; rfl)
        have k2 := convert_src (HSS.out _ HO.out)
        go_simp
        clear hHeld
        refine hK.out _ _ trivial (fun hHeld => ?_)
        clear hK K
        try simp only [List.set_cons_zero, List.set_cons_succ]
        clear k2
        refine oneA 5 30 hsel (h := ?_)
        simp only [Act.put, List.setIfInBounds_toArray, List.set_cons_zero, List.set_cons_succ]
        refine wpAnyL_done (by kernel_rfl) (by kernel_rfl) ?_ _
        clear hsel hHeld
        go_wp2_with (fail)
        go_meet
        exact ⟨rfl, HO, HR⟩
      case refine_6 =>
        have k2 := convert_src (HSS.out _ HO.out)
        go_simp
        clear hHeld
        refine hK.out _ _ trivial (fun hHeld => ?_)
        clear hK K
        try simp only [List.set_cons_zero, List.set_cons_succ]
        clear k2
        refine wpAnyL_ready (rs := [2]) (by kernel_rfl) (by kernel_rfl) (by simp) ?_
        refine AllReadyL.cons (o := ?_) ?_ (fun K hK => ?_) AllReadyL.nil
        case refine_2 => (simp only [List.getElem?_cons_succ, List.getElem?_cons_zero]; rfl)
        have k1 := convert_src HSV.out
        go_simp
        clear hHeld
        refine hK.out _ _ trivial (fun hHeld => ?_)
        clear hK K
        try simp only [List.set_cons_zero, List.set_cons_succ]
        clear k1
        refine oneA 5 30 hsel (h := ?_)
        simp only [Act.put, List.setIfInBounds_toArray, List.set_cons_zero, List.set_cons_succ]
        refine wpAnyL_done (by kernel_rfl) (by kernel_rfl) ?_ _
        clear hsel hHeld
        go_wp2_with (fail)
        go_meet
        exact ⟨rfl, HO, HR⟩
    case refine_6 =>
      have k2 := convert_src (HSS.out _ HO.out)
      go_simp
      clear hHeld
      refine hK.out _ _ trivial (fun hHeld => ?_)
      clear hK K
      try simp only [List.set_cons_zero, List.set_cons_succ]
      clear k2
      refine wpAnyL_ready (rs := [1]) (by kernel_rfl) (by kernel_rfl) (by simp) ?_
      refine AllReadyL.cons (o := ?_) ?_ (fun K hK => ?_) AllReadyL.nil
      case refine_2 => (simp only [List.getElem?_cons_succ, List.getElem?_cons_zero]; rfl)
      go_simp
      (go_at_call 69; (with_reducible refine (HSL.out _ HO.out).mono ?_); rintro ee w3 ⟨sv, rfl, hsv, ho⟩; have HSV := Lib.hid hsv; (replace HR := Lib.hid (HR.out.later ho)); (replace HO := Lib.hid (on_new HO.out ho)); clear ho hsv)
      go_wp2_with (fail)
      clear hHeld
      refine hK.out _ _ trivial (fun hHeld => ?_)
      clear hK K
      try simp only [List.set_cons_zero, List.set_cons_succ]
      refine wpAnyL_ready (rs := [2]) (by kernel_rfl) (by kernel_rfl) (by simp) ?_
      refine AllReadyL.cons (o := ?_) ?_ (fun K hK => ?_) AllReadyL.nil
      case refine_2 => (simp only [List.getElem?_cons_succ, List.getElem?_cons_zero]; rfl)
      have k1 := convert_src HSV.out
      go_simp
      clear hHeld
      refine hK.out _ _ trivial (fun hHeld => ?_)
      clear hK K
      try simp only [List.set_cons_zero, List.set_cons_succ]
      clear k1
      refine oneA 5 30 hsel (h := ?_)
      simp only [Act.put, List.setIfInBounds_toArray, List.set_cons_zero, List.set_cons_succ]
      refine wpAnyL_done (by kernel_rfl) (by kernel_rfl) ?_ _
      clear hsel hHeld
      go_wp2_with (fail)
      go_meet
      exact ⟨rfl, HO, HR⟩
  case rest =>
    obtain ⟨rfl, HO, HR⟩ := hcut
    have m4 := byte_at (HSS.out _ HO.out) (i := 4) (by rw [HBL.out]; decide)
    have m6 := byte_at (HSS.out _ HO.out) (i := 6) (by rw [HBL.out]; decide)
    have u4 := dB_lt b 4
    have t4 : IntKind.i64.wrap ((dB b 4 : Nat) : Int) = (dB b 4 : Nat) := IntWalk.i64_in _ (by omega)
    have u6 := dB_lt b 6
    rcases HCA.out with g1 | g1 | ⟨g1, g2, g3⟩
    · have g1i : (dB b 4 : Int) < 1 := by omega
      go_upto_region 7 with (fail)
      clear m4 m6 u4 t4 u6 g1 g1i
      obtain ⟨r0, r1, r2, r3, r4, r5, r6, r7⟩ := HR.out.eight
      have z0 := HR.out.frozen 0
      have z1 := HR.out.frozen 1
      have z2 := HR.out.frozen 2
      have z3 := HR.out.frozen 3
      have z4 := HR.out.frozen 4
      have z5 := HR.out.frozen 5
      have z6 := HR.out.frozen 6
      have z7 := HR.out.frozen 7
      go_wp2
      refine bodyPost_ret (results_cell_tmp rfl rfl (rload_meta ((((((((HR.out.set_ 0 (.int .i64 0)).set_ 1 (.int .i64 0)).set_ 2 (.int .i64 0)).set_ 3 (.int .i64 0)).set_ 4 (.int .i64 0)).set_ 5 (.int .i64 0)).set_ 6 (.int .i64 0)).set_ 7 (.slice none 0 0)))) rfl ?_
      exact ⟨0, 0, 0, 0, 0, 0, 0, none, 0, 0, rfl, rfl, rfl, Src.nil_ _, ((((((((HO.out.setCell (p := ⟨w.heap.size, 0, none⟩) (Nat.le_refl _) (.int .i64 0)).setCell (p := ⟨w.heap.size, 1, none⟩) (Nat.le_refl _) (.int .i64 0)).setCell (p := ⟨w.heap.size, 2, none⟩) (Nat.le_refl _) (.int .i64 0)).setCell (p := ⟨w.heap.size, 3, none⟩) (Nat.le_refl _) (.int .i64 0)).setCell (p := ⟨w.heap.size, 4, none⟩) (Nat.le_refl _) (.int .i64 0)).setCell (p := ⟨w.heap.size, 5, none⟩) (Nat.le_refl _) (.int .i64 0)).setCell (p := ⟨w.heap.size, 6, none⟩) (Nat.le_refl _) (.int .i64 0)).setCell (p := ⟨w.heap.size, 7, none⟩) (Nat.le_refl _) (.slice none 0 0))⟩
    · have g1i : (3 : Int) < (dB b 4 : Int) := by omega
      have g2i : ¬ (dB b 4 : Int) < 1 := by omega
      go_upto_region 7 with (fail)
      clear m4 m6 u4 t4 u6 g1 g1i g2i
      obtain ⟨r0, r1, r2, r3, r4, r5, r6, r7⟩ := HR.out.eight
      have z0 := HR.out.frozen 0
      have z1 := HR.out.frozen 1
      have z2 := HR.out.frozen 2
      have z3 := HR.out.frozen 3
      have z4 := HR.out.frozen 4
      have z5 := HR.out.frozen 5
      have z6 := HR.out.frozen 6
      have z7 := HR.out.frozen 7
      go_wp2
      refine bodyPost_ret (results_cell_tmp rfl rfl (rload_meta ((((((((HR.out.set_ 0 (.int .i64 0)).set_ 1 (.int .i64 0)).set_ 2 (.int .i64 0)).set_ 3 (.int .i64 0)).set_ 4 (.int .i64 0)).set_ 5 (.int .i64 0)).set_ 6 (.int .i64 0)).set_ 7 (.slice none 0 0)))) rfl ?_
      exact ⟨0, 0, 0, 0, 0, 0, 0, none, 0, 0, rfl, rfl, rfl, Src.nil_ _, ((((((((HO.out.setCell (p := ⟨w.heap.size, 0, none⟩) (Nat.le_refl _) (.int .i64 0)).setCell (p := ⟨w.heap.size, 1, none⟩) (Nat.le_refl _) (.int .i64 0)).setCell (p := ⟨w.heap.size, 2, none⟩) (Nat.le_refl _) (.int .i64 0)).setCell (p := ⟨w.heap.size, 3, none⟩) (Nat.le_refl _) (.int .i64 0)).setCell (p := ⟨w.heap.size, 4, none⟩) (Nat.le_refl _) (.int .i64 0)).setCell (p := ⟨w.heap.size, 5, none⟩) (Nat.le_refl _) (.int .i64 0)).setCell (p := ⟨w.heap.size, 6, none⟩) (Nat.le_refl _) (.int .i64 0)).setCell (p := ⟨w.heap.size, 7, none⟩) (Nat.le_refl _) (.slice none 0 0))⟩
    · have g1i : ¬ (3 : Int) < (dB b 4 : Int) := by omega
      have g2i : ¬ (dB b 4 : Int) < 1 := by omega
      have g3i : (3 : Int) < (dB b 6 : Int) := by omega
      go_upto_region 7 with (fail)
      clear m4 m6 u4 t4 u6 g1 g2 g3 g1i g2i g3i
      obtain ⟨r0, r1, r2, r3, r4, r5, r6, r7⟩ := HR.out.eight
      have z0 := HR.out.frozen 0
      have z1 := HR.out.frozen 1
      have z2 := HR.out.frozen 2
      have z3 := HR.out.frozen 3
      have z4 := HR.out.frozen 4
      have z5 := HR.out.frozen 5
      have z6 := HR.out.frozen 6
      have z7 := HR.out.frozen 7
      go_wp2
      refine bodyPost_ret (results_cell_tmp rfl rfl (rload_meta ((((((((HR.out.set_ 0 (.int .i64 0)).set_ 1 (.int .i64 0)).set_ 2 (.int .i64 0)).set_ 3 (.int .i64 0)).set_ 4 (.int .i64 0)).set_ 5 (.int .i64 0)).set_ 6 (.int .i64 0)).set_ 7 (.slice none 0 0)))) rfl ?_
      exact ⟨0, 0, 0, 0, 0, 0, 0, none, 0, 0, rfl, rfl, rfl, Src.nil_ _, ((((((((HO.out.setCell (p := ⟨w.heap.size, 0, none⟩) (Nat.le_refl _) (.int .i64 0)).setCell (p := ⟨w.heap.size, 1, none⟩) (Nat.le_refl _) (.int .i64 0)).setCell (p := ⟨w.heap.size, 2, none⟩) (Nat.le_refl _) (.int .i64 0)).setCell (p := ⟨w.heap.size, 3, none⟩) (Nat.le_refl _) (.int .i64 0)).setCell (p := ⟨w.heap.size, 4, none⟩) (Nat.le_refl _) (.int .i64 0)).setCell (p := ⟨w.heap.size, 5, none⟩) (Nat.le_refl _) (.int .i64 0)).setCell (p := ⟨w.heap.size, 6, none⟩) (Nat.le_refl _) (.int .i64 0)).setCell (p := ⟨w.heap.size, 7, none⟩) (Nat.le_refl _) (.slice none 0 0))⟩
set_option maxRecDepth 100000 in
set_option maxHeartbeats 25600000 in
theorem rd9_go4 (h1 : b.take 4 = mark4) (h2 : (b.drop 248).take 4 = tail4) (h3 : b = put4 b 252) (hg : gen (dB b 4 : Int) = true ∧ dB b 6 ≤ 3) (hk : tr (dB b 4 : Int) 4 8 8 = 4) : Calls Tryz.prog 77 #[.slice (some ⟨bl, o, none⟩) 256 c] w fun e w' => (DocOk b ∧ GaveRD w (dM b) (dX b) 0 e w') ∨ (¬ DocOk b ∧ GaveRD w [0, 0, 0, 0, 0, 0, 0] [] 92 e w') := by
  obtain ⟨w1, hw1⟩ : ∃ W0, W0 = w.alloc (.cells #[.int .i64 0, .int .i64 0, .int .i64 0, .int .i64 0, .int .i64 0, .int .i64 0, .int .i64 0, .slice none 0 0] 25) := ⟨_, rfl⟩
  have HO : Hid (Only (w.heap.size ≤ ·) w w1) := Lib.hid (by rw [hw1]; exact (Only.refl _ w).alloc (fun _ h => h) _)
  have HR : Hid (Blk w1 w.heap.size 25 [.int .i64 0, .int .i64 0, .int .i64 0, .int .i64 0, .int .i64 0, .int .i64 0, .int .i64 0, .slice none 0 0]) := Lib.hid (by rw [hw1]; exact Blk.new w 25 _)
  have HSA : Hid (∀ W, Only (w.heap.size ≤ ·) w W → Src W (.slice (some ⟨bl, o, none⟩) 4 c) (b.take 4)) := Lib.hid fun W hW => by
    have h := src_part (hs.later hW) (a := 0) (z := 4) (by omega) (by omega)
    simpa using h
  have HSB : Hid (∀ W, Only (w.heap.size ≤ ·) w W → Src W (.slice (some ⟨bl, o + 248, none⟩) 4 (c - 248)) ((b.drop 248).take 4)) := Lib.hid fun W hW => src_part (hs.later hW) (a := 248) (z := 252) (by omega) (by omega)
  have HSS : Hid (∀ W, Only (w.heap.size ≤ ·) w W → Src W (.slice (some ⟨bl, o, none⟩) 256 c) b) := Lib.hid fun W hW => hs.later hW
  have y1 : (256 : Int) ≤ (c : Int) := by omega
  have y2 : ¬ c = 248 := by omega
  have y3 : 248 ≤ c := by omega
  have y4 : (4 : Int) ≤ (c : Int) := by omega
  have y5 : (252 : Int) ≤ (c : Int) := by omega
  have HBL : Hid (b.length = 256) := Lib.hid (by (obtain ⟨_, _, e, _⟩ := hs; injection e with _ e2 _; exact e2.symm))
  have e1 : (b.take 4 == [82, 71, 65, 85]) = true := by rw [beq_iff_eq]; exact h1
  have e2 : ((b.drop 248).take 4 == [85, 65, 71, 82]) = true := by rw [beq_iff_eq]; exact h2
  have HSL : Hid (∀ W, Only (w.heap.size ≤ ·) w W → Calls Tryz.prog 69 #[.slice (some ⟨bl, o, none⟩) 256 c, .int .i64 252] W (GaveB W (put4 b 252))) := Lib.hid fun W hW => by have h := rSeal_t W _ b (hs.later hW) (by (obtain ⟨_, _, e, _⟩ := hs); injection e with _ e2 _; omega); rwa [seal_put hs] at h
  have e3 : (put4 b 252 == b) = true := by rw [beq_iff_eq]; exact h3.symm
  have hw : dW b = 4 := by unfold dW; rw [hk]; rfl
  have HIW : Hid (∀ W, Calls Tryz.prog 67 #[.int .i64 (dB b 4 : Nat)] W fun e w' => e = .returned (.int .i64 4) ∧ W = w') := Lib.hid fun W => by have h := rIdWidth_c W (dB b 4 : Nat); rwa [hk] at h
  obtain ⟨m, hm⟩ : ∃ m, m = dB b 7 := ⟨_, rfl⟩
  have hde : dEnd b = 24 + m := by unfold dEnd; rw [hw, hm]
  have HME := Lib.hid hm
  have HDE := Lib.hid hde
  have HOK : Hid (dEnd b ≤ 248 → dZ b → okL (dM b) m = true → DocOk b) := Lib.hid fun a1 a2 a3 => ⟨by unfold markedB; rw [decide_eq_true HBL.out, decide_eq_true h1, decide_eq_true h2]; rfl, h3, hg, a1, a2, by rw [← hm]; exact a3⟩
  have HNE : Hid (¬ dEnd b ≤ 248 → ¬ DocOk b) := Lib.hid fun h q => h q.2.2.2.1
  have HNZ : Hid (¬ dZ b → ¬ DocOk b) := Lib.hid fun h q => h q.2.2.2.2.1
  have HNR : Hid (¬ okL (dM b) m = true → ¬ DocOk b) := Lib.hid fun h q => h (by rw [hm]; exact q.2.2.2.2.2)
  have HSC : Hid (24 + m ≤ 248 → ∀ W, Only (w.heap.size ≤ ·) w W → Src W (.slice (some ⟨bl, o + 24, none⟩) m (c - 24)) (dX b) ∧ m = (dX b).length) := Lib.hid fun hl W hW => by
    have h := src_part (hs.later hW) (a := 24) (z := 24 + m) (by omega) (by omega)
    have e : dX b = (b.drop 24).take m := by unfold dX; rw [hw, hm]
    rw [show 24 + m - 24 = m from by omega] at h
    rw [e]
    exact ⟨h, by rw [List.length_take, List.length_drop, HBL.out]; omega⟩
  obtain ⟨x0, hx0⟩ : ∃ x, x = number9 (dPart b 0) := ⟨_, rfl⟩
  have HN0 : Hid (∀ W, Only (w.heap.size ≤ ·) w W → Calls Tryz.prog 96 #[.slice (some ⟨bl, o + 8, none⟩) 4 (c - 8)] W fun e w' => e = .returned (.int .i64 x0) ∧ W = w') := Lib.hid fun W hW => by
    have h := src_part (hs.later hW) (a := 8) (z := 12) (by omega) (by omega)
    have e : dPart b 0 = (b.drop 8).take 4 := by unfold dPart; rw [hw]
    rw [hx0, e]
    exact rmnumber_c W _ 4 _ _ h (by rw [List.length_take, List.length_drop, HBL.out]; omega) (by decide)
  have HX0 := Lib.hid hx0
  clear hx0
  obtain ⟨x1, hx1⟩ : ∃ x, x = number9 (dPart b 1) := ⟨_, rfl⟩
  have HN1 : Hid (∀ W, Only (w.heap.size ≤ ·) w W → Calls Tryz.prog 96 #[.slice (some ⟨bl, o + 12, none⟩) 4 (c - 12)] W fun e w' => e = .returned (.int .i64 x1) ∧ W = w') := Lib.hid fun W hW => by
    have h := src_part (hs.later hW) (a := 12) (z := 16) (by omega) (by omega)
    have e : dPart b 1 = (b.drop 12).take 4 := by unfold dPart; rw [hw]
    rw [hx1, e]
    exact rmnumber_c W _ 4 _ _ h (by rw [List.length_take, List.length_drop, HBL.out]; omega) (by decide)
  have HX1 := Lib.hid hx1
  clear hx1
  obtain ⟨x2, hx2⟩ : ∃ x, x = number9 (dPart b 2) := ⟨_, rfl⟩
  have HN2 : Hid (∀ W, Only (w.heap.size ≤ ·) w W → Calls Tryz.prog 96 #[.slice (some ⟨bl, o + 16, none⟩) 4 (c - 16)] W fun e w' => e = .returned (.int .i64 x2) ∧ W = w') := Lib.hid fun W hW => by
    have h := src_part (hs.later hW) (a := 16) (z := 20) (by omega) (by omega)
    have e : dPart b 2 = (b.drop 16).take 4 := by unfold dPart; rw [hw]
    rw [hx2, e]
    exact rmnumber_c W _ 4 _ _ h (by rw [List.length_take, List.length_drop, HBL.out]; omega) (by decide)
  have HX2 := Lib.hid hx2
  clear hx2
  obtain ⟨x3, hx3⟩ : ∃ x, x = number9 (dPart b 3) := ⟨_, rfl⟩
  have HN3 : Hid (∀ W, Only (w.heap.size ≤ ·) w W → Calls Tryz.prog 96 #[.slice (some ⟨bl, o + 20, none⟩) 4 (c - 20)] W fun e w' => e = .returned (.int .i64 x3) ∧ W = w') := Lib.hid fun W hW => by
    have h := src_part (hs.later hW) (a := 20) (z := 24) (by omega) (by omega)
    have e : dPart b 3 = (b.drop 20).take 4 := by unfold dPart; rw [hw]
    rw [hx3, e]
    exact rmnumber_c W _ 4 _ _ h (by rw [List.length_take, List.length_drop, HBL.out]; omega) (by decide)
  have HX3 := Lib.hid hx3
  clear hx3
  have hg1 : 1 ≤ dB b 4 ∧ dB b 4 ≤ 3 := by
    have h := hg.1
    unfold gen at h
    rw [decide_eq_true_eq] at h
    omega
  have HG1 := Lib.hid hg1
  have HG6 := Lib.hid hg.2
  have y8i : (8 : Int) ≤ (c : Int) := by omega
  have y8n : ¬ c = 8 := by omega
  have y8l : 8 ≤ c := by omega
  have y12i : (12 : Int) ≤ (c : Int) := by omega
  have y12n : ¬ c = 12 := by omega
  have y12l : 12 ≤ c := by omega
  have y16i : (16 : Int) ≤ (c : Int) := by omega
  have y16n : ¬ c = 16 := by omega
  have y16l : 16 ≤ c := by omega
  have y20i : (20 : Int) ≤ (c : Int) := by omega
  have y20n : ¬ c = 20 := by omega
  have y20l : 20 ≤ c := by omega
  have y24i : (24 : Int) ≤ (c : Int) := by omega
  have y24n : ¬ c = 24 := by omega
  have y24l : 24 ≤ c := by omega
  have hm8 : m < 256 := by rw [hm]; exact dB_lt b 7
  clear hs hc h1 h2 h3 hg hg1 hk hw hm hde
  have k1 := convert_src (HSA.out _ HO.out)
  have k2 := convert_src (HSB.out _ HO.out)
  go_enter Tryz.func77, Tryz.ntmps77
  go_upto_region 1 with (fail)
  rw [← hw1]
  clear hw1
  go_upto_region 3 with (fail)
  clear k1 k2 e1 e2
  go_cut [30] from 25 to 29 (fun y wz => y = .bool false ∧ Hid (Only (w.heap.size ≤ ·) w wz) ∧ Hid (Blk wz w.heap.size 25 [.int .i64 0, .int .i64 0, .int .i64 0, .int .i64 0, .int .i64 0, .int .i64 0, .int .i64 0, .slice none 0 0]))
  case first =>
    replace HR := Lib.hid HR.out.drew
    replace HO := Lib.hid HO.out.drew
    refine wp_region_list (B := [false, false, false, false, false, false]) (S := (fun _ => True)) (by kernel_rfl) (by kernel_rfl) (by kernel_rfl) trivial (fun hsel hHeld => ?_)
    generalize hwz : World.drew _ = wz at HR HO hHeld ⊢
    clear hwz
    refine oneA 0 25 hsel (h := ?_)
    simp only [Act.put, List.setIfInBounds_toArray, List.set_cons_zero, List.set_cons_succ]
    refine oneA 3 28 hsel (h := ?_)
    simp only [Act.put, List.setIfInBounds_toArray, List.set_cons_zero, List.set_cons_succ]
    refine wpAnyL_ready (rs := [1, 4]) (by kernel_rfl) (by kernel_rfl) (by simp) ?_
    refine AllReadyL.cons (o := ?_) ?_ (fun K hK => ?_) (AllReadyL.cons (o := ?_) ?_ (fun K hK => ?_) AllReadyL.nil)
    case refine_2 => (simp only [List.getElem?_cons_succ, List.getElem?_cons_zero]; rfl)
    case refine_5 => (simp only [List.getElem?_cons_succ, List.getElem?_cons_zero]; rfl)
    case refine_3 =>
      go_simp
      (go_at_call 69; (with_reducible refine (HSL.out _ HO.out).mono ?_); rintro ee w3 ⟨sv, rfl, hsv, ho⟩; have HSV := Lib.hid hsv; (replace HR := Lib.hid (HR.out.later ho)); (replace HO := Lib.hid (on_new HO.out ho)); clear ho hsv)
      go_wp2_with (fail)
      clear hHeld
      refine hK.out _ _ trivial (fun hHeld => ?_)
      clear hK K
      try simp only [List.set_cons_zero, List.set_cons_succ]
      refine wpAnyL_ready (rs := [2, 4]) (by kernel_rfl) (by kernel_rfl) (by simp) ?_
      refine AllReadyL.cons (o := ?_) ?_ (fun K hK => ?_) (AllReadyL.cons (o := ?_) ?_ (fun K hK => ?_) AllReadyL.nil)
      case refine_2 => (simp only [List.getElem?_cons_succ, List.getElem?_cons_zero]; rfl)
      case refine_5 => (simp only [List.getElem?_cons_succ, List.getElem?_cons_zero]; rfl)
      case refine_3 =>
        have k1 := convert_src HSV.out
        go_simp
        clear hHeld
        refine hK.out _ _ trivial (fun hHeld => ?_)
        clear hK K
        try simp only [List.set_cons_zero, List.set_cons_succ]
        clear k1
        refine wpAnyL_ready (rs := [4]) (by kernel_rfl) (by kernel_rfl) (by simp) ?_
        refine AllReadyL.cons (o := ?_) ?_ (fun K hK => ?_) AllReadyL.nil
        case refine_2 => (simp only [List.getElem?_cons_succ, List.getElem?_cons_zero]; rfl)
        have k2 := convert_src (HSS.out _ HO.out)
        go_simp
        clear hHeld
        refine hK.out _ _ trivial (fun hHeld => ?_)
        clear hK K
        try simp only [List.set_cons_zero, List.set_cons_succ]
        clear k2
        refine oneA 5 30 hsel (h := ?_)
        simp only [Act.put, List.setIfInBounds_toArray, List.set_cons_zero, List.set_cons_succ]
        refine wpAnyL_done (by kernel_rfl) (by kernel_rfl) ?_ _
        clear hsel hHeld
        go_wp2_with (fail)
        go_meet
        exact ⟨rfl, HO, HR⟩
      case refine_6 =>
        have k2 := convert_src (HSS.out _ HO.out)
        go_simp
        clear hHeld
        refine hK.out _ _ trivial (fun hHeld => ?_)
        clear hK K
        try simp only [List.set_cons_zero, List.set_cons_succ]
        clear k2
        refine wpAnyL_ready (rs := [2]) (by kernel_rfl) (by kernel_rfl) (by simp) ?_
        refine AllReadyL.cons (o := ?_) ?_ (fun K hK => ?_) AllReadyL.nil
        case refine_2 => (simp only [List.getElem?_cons_succ, List.getElem?_cons_zero]; rfl)
        have k1 := convert_src HSV.out
        go_simp
        clear hHeld
        refine hK.out _ _ trivial (fun hHeld => ?_)
        clear hK K
        try simp only [List.set_cons_zero, List.set_cons_succ]
        clear k1
        refine oneA 5 30 hsel (h := ?_)
        simp only [Act.put, List.setIfInBounds_toArray, List.set_cons_zero, List.set_cons_succ]
        refine wpAnyL_done (by kernel_rfl) (by kernel_rfl) ?_ _
        clear hsel hHeld
        go_wp2_with (fail)
        go_meet
        exact ⟨rfl, HO, HR⟩
    case refine_6 =>
      have k2 := convert_src (HSS.out _ HO.out)
      go_simp
      clear hHeld
      refine hK.out _ _ trivial (fun hHeld => ?_)
      clear hK K
      try simp only [List.set_cons_zero, List.set_cons_succ]
      clear k2
      refine wpAnyL_ready (rs := [1]) (by kernel_rfl) (by kernel_rfl) (by simp) ?_
      refine AllReadyL.cons (o := ?_) ?_ (fun K hK => ?_) AllReadyL.nil
      case refine_2 => (simp only [List.getElem?_cons_succ, List.getElem?_cons_zero]; rfl)
      go_simp
      (go_at_call 69; (with_reducible refine (HSL.out _ HO.out).mono ?_); rintro ee w3 ⟨sv, rfl, hsv, ho⟩; have HSV := Lib.hid hsv; (replace HR := Lib.hid (HR.out.later ho)); (replace HO := Lib.hid (on_new HO.out ho)); clear ho hsv)
      go_wp2_with (fail)
      clear hHeld
      refine hK.out _ _ trivial (fun hHeld => ?_)
      clear hK K
      try simp only [List.set_cons_zero, List.set_cons_succ]
      refine wpAnyL_ready (rs := [2]) (by kernel_rfl) (by kernel_rfl) (by simp) ?_
      refine AllReadyL.cons (o := ?_) ?_ (fun K hK => ?_) AllReadyL.nil
      case refine_2 => (simp only [List.getElem?_cons_succ, List.getElem?_cons_zero]; rfl)
      have k1 := convert_src HSV.out
      go_simp
      clear hHeld
      refine hK.out _ _ trivial (fun hHeld => ?_)
      clear hK K
      try simp only [List.set_cons_zero, List.set_cons_succ]
      clear k1
      refine oneA 5 30 hsel (h := ?_)
      simp only [Act.put, List.setIfInBounds_toArray, List.set_cons_zero, List.set_cons_succ]
      refine wpAnyL_done (by kernel_rfl) (by kernel_rfl) ?_ _
      clear hsel hHeld
      go_wp2_with (fail)
      go_meet
      exact ⟨rfl, HO, HR⟩
  case rest =>
    obtain ⟨rfl, HO, HR⟩ := hcut
    have m4 := byte_at (HSS.out _ HO.out) (i := 4) (by rw [HBL.out]; decide)
    have m6 := byte_at (HSS.out _ HO.out) (i := 6) (by rw [HBL.out]; decide)
    have u4 := dB_lt b 4
    have t4 : IntKind.i64.wrap ((dB b 4 : Nat) : Int) = (dB b 4 : Nat) := IntWalk.i64_in _ (by omega)
    have u6 := dB_lt b 6
    have g1i : ¬ (3 : Int) < (dB b 4 : Int) := by have := HG1.out; omega
    have g2i : ¬ (dB b 4 : Int) < 1 := by have := HG1.out; omega
    have g3i : ¬ (3 : Int) < (dB b 6 : Int) := by have := HG6.out; omega
    go_upto_region 8 with (fail)
    clear m4 m6 t4 g1i g2i g3i
    go_upto_region 9 with (go_at_call 67; (with_reducible refine (HIW.out _).mono ?_); rintro ee w' ⟨rfl, rfl⟩)
    have KC : Hid (∀ W, Only (w.heap.size ≤ ·) w W → W.cell? ⟨bl, o + 5, none⟩ = some (.int .u8 (dB b 5 : Nat)) ∧ W.cell? ⟨bl, o + 6, none⟩ = some (.int .u8 (dB b 6 : Nat))) := Lib.hid fun W hW => ⟨byte_at (HSS.out _ hW) (by rw [HBL.out]; decide), byte_at (HSS.out _ hW) (by rw [HBL.out]; decide)⟩
    have u5 := dB_lt b 5
    have t5 : IntKind.i64.wrap ((dB b 5 : Nat) : Int) = (dB b 5 : Nat) := IntWalk.i64_in _ (by omega)
    have t6 : IntKind.i64.wrap ((dB b 6 : Nat) : Int) = (dB b 6 : Nat) := IntWalk.i64_in _ (by omega)
    replace HR := Lib.hid HR.out.drew
    replace HO := Lib.hid HO.out.drew
    refine wp_region_list (B := [false, false, false, false, false, false, false, false, false, false, false, false]) (S := (fun W => W.cell? ⟨bl, o + 5, none⟩ = some (.int .u8 (dB b 5 : Nat)) ∧ W.cell? ⟨bl, o + 6, none⟩ = some (.int .u8 (dB b 6 : Nat)))) (by kernel_rfl) (by kernel_rfl) (by kernel_rfl) (KC.out _ HO.out) (fun hsel hHeld => ?_)
    generalize hwz : World.drew _ = wz9 at HR HO hHeld ⊢
    clear hwz
    refine oneA 0 51 hsel (h := ?_)
    simp only [Act.put, List.setIfInBounds_toArray, List.set_cons_zero, List.set_cons_succ]
    refine oneA 1 52 hsel (h := ?_)
    simp only [Act.put, List.setIfInBounds_toArray, List.set_cons_zero, List.set_cons_succ]
    refine oneA 2 53 hsel (h := ?_)
    simp only [Act.put, List.setIfInBounds_toArray, List.set_cons_zero, List.set_cons_succ]
    refine oneA 3 54 hsel (h := ?_)
    simp only [Act.put, List.setIfInBounds_toArray, List.set_cons_zero, List.set_cons_succ]
    refine oneA 4 55 hsel (h := ?_)
    simp only [Act.put, List.setIfInBounds_toArray, List.set_cons_zero, List.set_cons_succ]
    refine oneA 5 56 hsel (h := ?_)
    simp only [Act.put, List.setIfInBounds_toArray, List.set_cons_zero, List.set_cons_succ]
    refine oneA 6 57 hsel (h := ?_)
    simp only [Act.put, List.setIfInBounds_toArray, List.set_cons_zero, List.set_cons_succ]
    refine oneA 7 58 hsel (h := ?_)
    simp only [Act.put, List.setIfInBounds_toArray, List.set_cons_zero, List.set_cons_succ]
    refine oneA 8 59 hsel (h := ?_)
    simp only [Act.put, List.setIfInBounds_toArray, List.set_cons_zero, List.set_cons_succ]
    refine oneA 9 60 hsel (h := ?_)
    simp only [Act.put, List.setIfInBounds_toArray, List.set_cons_zero, List.set_cons_succ]
    refine wpAnyL_ready (rs := [10]) (by kernel_rfl) (by kernel_rfl) (by simp) ?_
    refine AllReadyL.cons (o := ?_) ?_ (fun K hK => ?_) AllReadyL.nil
    case refine_2 => (simp only [List.getElem?_cons_succ, List.getElem?_cons_zero]; rfl)
    go_simp
    have HOP := Lib.hid HO.out
    replace HO := Lib.hid (HO.out.alloc (fun _ h => h) (.cells #[.int .i64 0, .int .i64 0, .int .i64 0, .int .i64 0, .int .i64 0, .int .i64 0, .int .i64 0, .slice none 0 0] 25))
    clear hHeld
    refine hK.out _ _ (KC.out _ HO.out) (fun hHeld => ?_)
    clear hK K
    try simp only [List.set_cons_zero, List.set_cons_succ]
    refine wpAnyL_ready (rs := [11]) (by kernel_rfl) (by kernel_rfl) (by simp) ?_
    refine AllReadyL.cons (o := ?_) ?_ (fun K hK => ?_) AllReadyL.nil
    case refine_2 => (simp only [List.getElem?_cons_succ, List.getElem?_cons_zero]; rfl)
    have HLF : Hid (Only (w.heap.size ≤ ·) w (wz9.alloc (.cells #[.int .i64 (dB b 4 : Nat), .int .i64 (dB b 5 : Nat), .int .i64 (dB b 6 : Nat), .int .i64 0, .int .i64 0, .int .i64 0, .int .i64 0, .slice none 0 0] 25))) := Lib.hid (HOP.out.alloc (fun _ h => h) _)
    go_simp
    clear hHeld
    refine hK.out _ _ (KC.out _ HLF.out) (fun hHeld => ?_)
    clear hK K
    try simp only [List.set_cons_zero, List.set_cons_succ]
    refine wpAnyL_done (by kernel_rfl) (by kernel_rfl) ?_ _
    clear hsel hHeld
    have HLB : Hid (w.heap.size < wz9.heap.size) := Lib.hid HR.out.lt
    obtain ⟨wq0, hwq⟩ : ∃ q, q = wz9.alloc (.cells #[.int .i64 (dB b 4 : Nat), .int .i64 (dB b 5 : Nat), .int .i64 (dB b 6 : Nat), .int .i64 0, .int .i64 0, .int .i64 0, .int .i64 0, .slice none 0 0] 25) := ⟨_, rfl⟩
    have HBX : Hid (Blk wq0 wz9.heap.size 25 [.int .i64 (dB b 4 : Nat), .int .i64 (dB b 5 : Nat), .int .i64 (dB b 6 : Nat), .int .i64 0, .int .i64 0, .int .i64 0, .int .i64 0, .slice none 0 0]) := Lib.hid (by rw [hwq]; exact Blk.new wz9 25 _)
    replace HR := Lib.hid (HR.out.alloc (.cells #[.int .i64 (dB b 4 : Nat), .int .i64 (dB b 5 : Nat), .int .i64 (dB b 6 : Nat), .int .i64 0, .int .i64 0, .int .i64 0, .int .i64 0, .slice none 0 0] 25))
    rw [← hwq] at HR HLF
    rw [← hwq]
    clear HO HOP hwq t5 t6
    have HO := Lib.hid HLF.out
    clear HLF
    generalize wz9.heap.size = bx at HBX HLB ⊢
    obtain ⟨b0, b1, b2, b3, b4, b5, b6, b7⟩ := HBX.out.eight
    have f3 := HBX.out.frozen 3
    go_upto_region 11 with (go_at_call 96; (with_reducible refine (HN0.out _ HO.out).mono ?_); rintro ee w' ⟨rfl, rfl⟩)
    have HOX : Hid (Only (· = bx) wq0 _) := Lib.hid ((Only.refl (· = bx) wq0).setCell (p := ⟨bx, 3, none⟩) rfl (.int .i64 x0))
    replace HBX := Lib.hid (HBX.out.set_ 3 (.int .i64 x0))
    replace HR := Lib.hid (HR.out.only HOX.out (by have := HLB.out; omega))
    replace HO := Lib.hid (HO.out.trans (HOX.out.mono fun j hj => by have := HLB.out; rw [hj]; omega))
    generalize hw : World.setCell wq0 ⟨bx, 3, none⟩ (.int .i64 x0) = wq1 at HBX HO HR ⊢
    clear hw HOX b0 b1 b2 b3 b4 b5 b6 b7 f3
    replace HBX : Hid (Blk wq1 bx 25 [.int .i64 (dB b 4 : Nat), .int .i64 (dB b 5 : Nat), .int .i64 (dB b 6 : Nat), .int .i64 x0, .int .i64 0, .int .i64 0, .int .i64 0, .slice none 0 0]) := HBX
    obtain ⟨b0, b1, b2, b3, b4, b5, b6, b7⟩ := HBX.out.eight
    have f4 := HBX.out.frozen 4
    go_upto_region 12 with (go_at_call 96; (with_reducible refine (HN1.out _ HO.out).mono ?_); rintro ee w' ⟨rfl, rfl⟩)
    have HOX : Hid (Only (· = bx) wq1 _) := Lib.hid ((Only.refl (· = bx) wq1).setCell (p := ⟨bx, 4, none⟩) rfl (.int .i64 x1))
    replace HBX := Lib.hid (HBX.out.set_ 4 (.int .i64 x1))
    replace HR := Lib.hid (HR.out.only HOX.out (by have := HLB.out; omega))
    replace HO := Lib.hid (HO.out.trans (HOX.out.mono fun j hj => by have := HLB.out; rw [hj]; omega))
    generalize hw : World.setCell wq1 ⟨bx, 4, none⟩ (.int .i64 x1) = wq2 at HBX HO HR ⊢
    clear hw HOX b0 b1 b2 b3 b4 b5 b6 b7 f4
    replace HBX : Hid (Blk wq2 bx 25 [.int .i64 (dB b 4 : Nat), .int .i64 (dB b 5 : Nat), .int .i64 (dB b 6 : Nat), .int .i64 x0, .int .i64 x1, .int .i64 0, .int .i64 0, .slice none 0 0]) := HBX
    obtain ⟨b0, b1, b2, b3, b4, b5, b6, b7⟩ := HBX.out.eight
    have f5 := HBX.out.frozen 5
    go_upto_region 13 with (go_at_call 96; (with_reducible refine (HN2.out _ HO.out).mono ?_); rintro ee w' ⟨rfl, rfl⟩)
    have HOX : Hid (Only (· = bx) wq2 _) := Lib.hid ((Only.refl (· = bx) wq2).setCell (p := ⟨bx, 5, none⟩) rfl (.int .i64 x2))
    replace HBX := Lib.hid (HBX.out.set_ 5 (.int .i64 x2))
    replace HR := Lib.hid (HR.out.only HOX.out (by have := HLB.out; omega))
    replace HO := Lib.hid (HO.out.trans (HOX.out.mono fun j hj => by have := HLB.out; rw [hj]; omega))
    generalize hw : World.setCell wq2 ⟨bx, 5, none⟩ (.int .i64 x2) = wq3 at HBX HO HR ⊢
    clear hw HOX b0 b1 b2 b3 b4 b5 b6 b7 f5
    replace HBX : Hid (Blk wq3 bx 25 [.int .i64 (dB b 4 : Nat), .int .i64 (dB b 5 : Nat), .int .i64 (dB b 6 : Nat), .int .i64 x0, .int .i64 x1, .int .i64 x2, .int .i64 0, .slice none 0 0]) := HBX
    obtain ⟨b0, b1, b2, b3, b4, b5, b6, b7⟩ := HBX.out.eight
    have f6 := HBX.out.frozen 6
    go_upto_region 14 with (go_at_call 96; (with_reducible refine (HN3.out _ HO.out).mono ?_); rintro ee w' ⟨rfl, rfl⟩)
    have HOX : Hid (Only (· = bx) wq3 _) := Lib.hid ((Only.refl (· = bx) wq3).setCell (p := ⟨bx, 6, none⟩) rfl (.int .i64 x3))
    replace HBX := Lib.hid (HBX.out.set_ 6 (.int .i64 x3))
    replace HR := Lib.hid (HR.out.only HOX.out (by have := HLB.out; omega))
    replace HO := Lib.hid (HO.out.trans (HOX.out.mono fun j hj => by have := HLB.out; rw [hj]; omega))
    generalize hw : World.setCell wq3 ⟨bx, 6, none⟩ (.int .i64 x3) = wq4 at HBX HO HR ⊢
    clear hw HOX b0 b1 b2 b3 b4 b5 b6 b7 f6
    replace HBX : Hid (Blk wq4 bx 25 [.int .i64 (dB b 4 : Nat), .int .i64 (dB b 5 : Nat), .int .i64 (dB b 6 : Nat), .int .i64 x0, .int .i64 x1, .int .i64 x2, .int .i64 x3, .slice none 0 0]) := HBX
    obtain ⟨b0, b1, b2, b3, b4, b5, b6, b7⟩ := HBX.out.eight
    have m7 := byte_at (HSS.out _ HO.out) (i := 7) (by rw [HBL.out]; decide)
    rw [← HME.out] at m7
    have t7 : IntKind.i64.wrap ((m : Nat) : Int) = (m : Nat) := IntWalk.i64_in _ (by omega)
    have t8 : IntKind.i64.wrap (24 + (m : Int)) = 24 + (m : Int) := IntWalk.i64_in _ (by omega)
    go_upto_region 15 with (fail)
    by_cases hend : 24 + m ≤ 248
    · have h248 : ¬ (248 : Int) < 24 + (m : Int) := by omega
      have s1 : (0 : Int) ≤ (m : Int) := by omega
      have s2 : 24 + (m : Int) ≤ (c : Int) := by omega
      have f7 := HBX.out.frozen 7
      have HSR := Lib.hid (HSC.out hend)
      go_upto_region 18 with (fail)
      have HOX : Hid (Only (· = bx) wq4 _) := Lib.hid ((Only.refl (· = bx) wq4).setCell (p := ⟨bx, 7, none⟩) rfl (.slice (some ⟨bl, o + 24, none⟩) m (c - 24)))
      replace HBX := Lib.hid (HBX.out.set_ 7 (.slice (some ⟨bl, o + 24, none⟩) m (c - 24)))
      replace HR := Lib.hid (HR.out.only HOX.out (by have := HLB.out; omega))
      replace HO := Lib.hid (HO.out.trans (HOX.out.mono fun j hj => by have := HLB.out; rw [hj]; omega))
      generalize hw : World.setCell wq4 ⟨bx, 7, none⟩ (.slice (some ⟨bl, o + 24, none⟩) m (c - 24)) = wq5 at HBX HO HR ⊢
      clear hw HOX b0 b1 b2 b3 b4 b5 b6 b7 f7
      replace HBX : Hid (Blk wq5 bx 25 [.int .i64 (dB b 4 : Nat), .int .i64 (dB b 5 : Nat), .int .i64 (dB b 6 : Nat), .int .i64 x0, .int .i64 x1, .int .i64 x2, .int .i64 x3, .slice (some ⟨bl, o + 24, none⟩) m (c - 24)]) := HBX
      obtain ⟨b0, b1, b2, b3, b4, b5, b6, b7⟩ := HBX.out.eight
      clear s1 s2 h248 m7 t7 t8
      go_upto_region 19 with (fail)
      go_loopw [8] (fun kv wr => ∃ i : Nat, 24 + m ≤ i ∧ i ≤ 248 ∧ kv = .int .i64 (i : Nat) ∧ Hid (∀ j, 24 + m ≤ j → j < i → b.getD j 0 = 0) ∧ wr = wq5) (fun kv _ => 248 - (intOf kv).toNat)
      case atStart => exact ⟨24 + m, Nat.le_refl _, hend, by rw [Int.natCast_add]; rfl, Lib.hid (fun j h1 h2 => by omega), rfl⟩
      case round =>
        obtain ⟨i, hi1, hi2, rfl, HZR, rfl⟩ := hrel
        clear b0 b1 b2 b3 b4 b5 b6 b7
        by_cases hlt : i < 248
        · have hli : (i : Int) < 248 := by omega
          have hl2 : (i : Int) < 256 := by omega
          have mi := byte_at (HSS.out _ HO.out) (i := i) (by rw [HBL.out]; omega)
          by_cases hzi : dB b i = 0
          · rw [hzi] at mi
            have HZI : Hid (b.getD i 0 = 0) := Lib.hid (dB_zero hzi)
            go_wp2_with (fail)
            go_roundw
            case rel => exact ⟨i + 1, by omega, by omega, by simp, Lib.hid (fun j h1 h2 => by rcases Nat.lt_or_ge j i with h3 | h3; (exact HZR.out j h1 h3); (have h4 : j = i := by omega); rw [h4]; exact HZI.out), trivial⟩
            case measure => simp [intOf]; omega
          · have bzi : ((dB b i : Int) != 0) = true := by rw [bne_iff_ne]; omega
            have HBD : Hid (¬ DocOk b) := Lib.hid (HNZ.out fun h => hzi (by unfold dB; rw [h i (by rw [HDE.out]; exact hi1) hlt]; rfl))
            go_upto_region 22 with (fail)
            clear mi bzi hli hl2
            obtain ⟨r0, r1, r2, r3, r4, r5, r6, r7⟩ := HR.out.eight
            have z0 := HR.out.frozen 0
            have z1 := HR.out.frozen 1
            have z2 := HR.out.frozen 2
            have z3 := HR.out.frozen 3
            have z4 := HR.out.frozen 4
            have z5 := HR.out.frozen 5
            have z6 := HR.out.frozen 6
            have z7 := HR.out.frozen 7
            go_wp2
            refine bodyPost_ret (results_cell_tmp rfl rfl (rload_meta ((((((((HR.out.set_ 0 (.int .i64 0)).set_ 1 (.int .i64 0)).set_ 2 (.int .i64 0)).set_ 3 (.int .i64 0)).set_ 4 (.int .i64 0)).set_ 5 (.int .i64 0)).set_ 6 (.int .i64 0)).set_ 7 (.slice none 0 0)))) rfl ?_
            refine .inr ⟨HBD.out, ?_⟩
            exact ⟨0, 0, 0, 0, 0, 0, 0, none, 0, 0, rfl, rfl, rfl, Src.nil_ _, ((((((((HO.out.setCell (p := ⟨w.heap.size, 0, none⟩) (Nat.le_refl _) (.int .i64 0)).setCell (p := ⟨w.heap.size, 1, none⟩) (Nat.le_refl _) (.int .i64 0)).setCell (p := ⟨w.heap.size, 2, none⟩) (Nat.le_refl _) (.int .i64 0)).setCell (p := ⟨w.heap.size, 3, none⟩) (Nat.le_refl _) (.int .i64 0)).setCell (p := ⟨w.heap.size, 4, none⟩) (Nat.le_refl _) (.int .i64 0)).setCell (p := ⟨w.heap.size, 5, none⟩) (Nat.le_refl _) (.int .i64 0)).setCell (p := ⟨w.heap.size, 6, none⟩) (Nat.le_refl _) (.int .i64 0)).setCell (p := ⟨w.heap.size, 7, none⟩) (Nat.le_refl _) (.slice none 0 0))⟩
        · have hli : ¬ (i : Int) < 248 := by omega
          have HDZ : Hid (dZ b) := Lib.hid fun j h1 h2 => HZR.out j (by rw [← HDE.out]; exact h1) (by omega)
          have HRI : Hid (∀ W, Calls Tryz.prog 47 #[.agg #[.int .i64 (dB b 4 : Nat), .int .i64 (dB b 5 : Nat), .int .i64 (dB b 6 : Nat), .int .i64 x0, .int .i64 x1, .int .i64 x2, .int .i64 x3, .slice (some ⟨bl, o + 24, none⟩) m (c - 24)]] W (Told W (.bool (okL (dM b) m)))) := Lib.hid fun W => by
            have h := rmRight_c W (dB b 4 : Nat) (dB b 5 : Nat) (dB b 6 : Nat) x0 x1 x2 x3 (some ⟨bl, o + 24, none⟩) m (c - 24)
            have e : okL (dM b) m = okM (dB b 4 : Nat) (dB b 5 : Nat) (dB b 6 : Nat) x0 x1 x2 x3 m := by unfold dM; rw [← HX0.out, ← HX1.out, ← HX2.out, ← HX3.out]; rfl
            rw [e]
            exact h
          obtain ⟨b0, b1, b2, b3, b4, b5, b6, b7⟩ := HBX.out.eight
          by_cases hq : okL (dM b) m = true
          · rw [hq] at HRI
            have HDO : Hid (DocOk b) := Lib.hid (HOK.out (by rw [HDE.out]; exact hend) HDZ.out hq)
            clear hq
            go_upto_region 25 with (go_at_call 47; (with_reducible refine (HRI.out _).mono ?_); rintro ee w9 ⟨rfl, ho⟩; (replace HR := Lib.hid (HR.out.later ho)); (replace HBX := Lib.hid (HBX.out.later ho)); (replace HO := Lib.hid (on_new HO.out ho)); clear ho b0 b1 b2 b3 b4 b5 b6 b7)
            obtain ⟨b0, b1, b2, b3, b4, b5, b6, b7⟩ := HBX.out.eight
            obtain ⟨r0, r1, r2, r3, r4, r5, r6, r7⟩ := HR.out.eight
            have z0 := HR.out.frozen 0
            have z1 := HR.out.frozen 1
            have z2 := HR.out.frozen 2
            have z3 := HR.out.frozen 3
            have z4 := HR.out.frozen 4
            have z5 := HR.out.frozen 5
            have z6 := HR.out.frozen 6
            have z7 := HR.out.frozen 7
            go_wp2
            refine bodyPost_ret (results_cell_tmp rfl rfl (rload_meta ((((((((HR.out.set_ 0 (.int .i64 (dB b 4 : Nat))).set_ 1 (.int .i64 (dB b 5 : Nat))).set_ 2 (.int .i64 (dB b 6 : Nat))).set_ 3 (.int .i64 x0)).set_ 4 (.int .i64 x1)).set_ 5 (.int .i64 x2)).set_ 6 (.int .i64 x3)).set_ 7 (.slice (some ⟨bl, o + 24, none⟩) m (c - 24))))) rfl ?_
            refine .inl ⟨HDO.out, _, _, _, _, _, _, _, _, _, _, ?_, (HSR.out _ HO.out).2, rfl, ((HSR.out _ ?_).1), ?_⟩
            · unfold dM
              rw [← HX0.out, ← HX1.out, ← HX2.out, ← HX3.out]
            · exact ((((((((HO.out.setCell (p := ⟨w.heap.size, 0, none⟩) (Nat.le_refl _) (.int .i64 (dB b 4 : Nat))).setCell (p := ⟨w.heap.size, 1, none⟩) (Nat.le_refl _) (.int .i64 (dB b 5 : Nat))).setCell (p := ⟨w.heap.size, 2, none⟩) (Nat.le_refl _) (.int .i64 (dB b 6 : Nat))).setCell (p := ⟨w.heap.size, 3, none⟩) (Nat.le_refl _) (.int .i64 x0)).setCell (p := ⟨w.heap.size, 4, none⟩) (Nat.le_refl _) (.int .i64 x1)).setCell (p := ⟨w.heap.size, 5, none⟩) (Nat.le_refl _) (.int .i64 x2)).setCell (p := ⟨w.heap.size, 6, none⟩) (Nat.le_refl _) (.int .i64 x3)).setCell (p := ⟨w.heap.size, 7, none⟩) (Nat.le_refl _) (.slice (some ⟨bl, o + 24, none⟩) m (c - 24)))
            · exact ((((((((HO.out.setCell (p := ⟨w.heap.size, 0, none⟩) (Nat.le_refl _) (.int .i64 (dB b 4 : Nat))).setCell (p := ⟨w.heap.size, 1, none⟩) (Nat.le_refl _) (.int .i64 (dB b 5 : Nat))).setCell (p := ⟨w.heap.size, 2, none⟩) (Nat.le_refl _) (.int .i64 (dB b 6 : Nat))).setCell (p := ⟨w.heap.size, 3, none⟩) (Nat.le_refl _) (.int .i64 x0)).setCell (p := ⟨w.heap.size, 4, none⟩) (Nat.le_refl _) (.int .i64 x1)).setCell (p := ⟨w.heap.size, 5, none⟩) (Nat.le_refl _) (.int .i64 x2)).setCell (p := ⟨w.heap.size, 6, none⟩) (Nat.le_refl _) (.int .i64 x3)).setCell (p := ⟨w.heap.size, 7, none⟩) (Nat.le_refl _) (.slice (some ⟨bl, o + 24, none⟩) m (c - 24)))
          · have HBD : Hid (¬ DocOk b) := Lib.hid (HNR.out hq)
            have hqf : okL (dM b) m = false := by simpa using hq
            rw [hqf] at HRI
            clear hq hqf
            go_upto_region 24 with (go_at_call 47; (with_reducible refine (HRI.out _).mono ?_); rintro ee w9 ⟨rfl, ho⟩; (replace HR := Lib.hid (HR.out.later ho)); (replace HBX := Lib.hid (HBX.out.later ho)); (replace HO := Lib.hid (on_new HO.out ho)); clear ho b0 b1 b2 b3 b4 b5 b6 b7)
            obtain ⟨r0, r1, r2, r3, r4, r5, r6, r7⟩ := HR.out.eight
            have z0 := HR.out.frozen 0
            have z1 := HR.out.frozen 1
            have z2 := HR.out.frozen 2
            have z3 := HR.out.frozen 3
            have z4 := HR.out.frozen 4
            have z5 := HR.out.frozen 5
            have z6 := HR.out.frozen 6
            have z7 := HR.out.frozen 7
            go_wp2
            refine bodyPost_ret (results_cell_tmp rfl rfl (rload_meta ((((((((HR.out.set_ 0 (.int .i64 0)).set_ 1 (.int .i64 0)).set_ 2 (.int .i64 0)).set_ 3 (.int .i64 0)).set_ 4 (.int .i64 0)).set_ 5 (.int .i64 0)).set_ 6 (.int .i64 0)).set_ 7 (.slice none 0 0)))) rfl ?_
            refine .inr ⟨HBD.out, ?_⟩
            exact ⟨0, 0, 0, 0, 0, 0, 0, none, 0, 0, rfl, rfl, rfl, Src.nil_ _, ((((((((HO.out.setCell (p := ⟨w.heap.size, 0, none⟩) (Nat.le_refl _) (.int .i64 0)).setCell (p := ⟨w.heap.size, 1, none⟩) (Nat.le_refl _) (.int .i64 0)).setCell (p := ⟨w.heap.size, 2, none⟩) (Nat.le_refl _) (.int .i64 0)).setCell (p := ⟨w.heap.size, 3, none⟩) (Nat.le_refl _) (.int .i64 0)).setCell (p := ⟨w.heap.size, 4, none⟩) (Nat.le_refl _) (.int .i64 0)).setCell (p := ⟨w.heap.size, 5, none⟩) (Nat.le_refl _) (.int .i64 0)).setCell (p := ⟨w.heap.size, 6, none⟩) (Nat.le_refl _) (.int .i64 0)).setCell (p := ⟨w.heap.size, 7, none⟩) (Nat.le_refl _) (.slice none 0 0))⟩
    · have h248 : (248 : Int) < 24 + (m : Int) := by omega
      go_upto_region 16 with (fail)
      have HBD : Hid (¬ DocOk b) := Lib.hid (HNE.out (by rw [HDE.out]; exact hend))
      clear h248 hend m7 t7 t8 b0 b1 b2 b3 b4 b5 b6 b7
      obtain ⟨r0, r1, r2, r3, r4, r5, r6, r7⟩ := HR.out.eight
      have z0 := HR.out.frozen 0
      have z1 := HR.out.frozen 1
      have z2 := HR.out.frozen 2
      have z3 := HR.out.frozen 3
      have z4 := HR.out.frozen 4
      have z5 := HR.out.frozen 5
      have z6 := HR.out.frozen 6
      have z7 := HR.out.frozen 7
      go_wp2
      refine bodyPost_ret (results_cell_tmp rfl rfl (rload_meta ((((((((HR.out.set_ 0 (.int .i64 0)).set_ 1 (.int .i64 0)).set_ 2 (.int .i64 0)).set_ 3 (.int .i64 0)).set_ 4 (.int .i64 0)).set_ 5 (.int .i64 0)).set_ 6 (.int .i64 0)).set_ 7 (.slice none 0 0)))) rfl ?_
      refine .inr ⟨HBD.out, ?_⟩
      exact ⟨0, 0, 0, 0, 0, 0, 0, none, 0, 0, rfl, rfl, rfl, Src.nil_ _, ((((((((HO.out.setCell (p := ⟨w.heap.size, 0, none⟩) (Nat.le_refl _) (.int .i64 0)).setCell (p := ⟨w.heap.size, 1, none⟩) (Nat.le_refl _) (.int .i64 0)).setCell (p := ⟨w.heap.size, 2, none⟩) (Nat.le_refl _) (.int .i64 0)).setCell (p := ⟨w.heap.size, 3, none⟩) (Nat.le_refl _) (.int .i64 0)).setCell (p := ⟨w.heap.size, 4, none⟩) (Nat.le_refl _) (.int .i64 0)).setCell (p := ⟨w.heap.size, 5, none⟩) (Nat.le_refl _) (.int .i64 0)).setCell (p := ⟨w.heap.size, 6, none⟩) (Nat.le_refl _) (.int .i64 0)).setCell (p := ⟨w.heap.size, 7, none⟩) (Nat.le_refl _) (.slice none 0 0))⟩
set_option maxRecDepth 100000 in
set_option maxHeartbeats 25600000 in
theorem rd9_go8 (h1 : b.take 4 = mark4) (h2 : (b.drop 248).take 4 = tail4) (h3 : b = put4 b 252) (hg : gen (dB b 4 : Int) = true ∧ dB b 6 ≤ 3) (hk : tr (dB b 4 : Int) 4 8 8 = 8) : Calls Tryz.prog 77 #[.slice (some ⟨bl, o, none⟩) 256 c] w fun e w' => (DocOk b ∧ GaveRD w (dM b) (dX b) 0 e w') ∨ (¬ DocOk b ∧ GaveRD w [0, 0, 0, 0, 0, 0, 0] [] 92 e w') := by
  obtain ⟨w1, hw1⟩ : ∃ W0, W0 = w.alloc (.cells #[.int .i64 0, .int .i64 0, .int .i64 0, .int .i64 0, .int .i64 0, .int .i64 0, .int .i64 0, .slice none 0 0] 25) := ⟨_, rfl⟩
  have HO : Hid (Only (w.heap.size ≤ ·) w w1) := Lib.hid (by rw [hw1]; exact (Only.refl _ w).alloc (fun _ h => h) _)
  have HR : Hid (Blk w1 w.heap.size 25 [.int .i64 0, .int .i64 0, .int .i64 0, .int .i64 0, .int .i64 0, .int .i64 0, .int .i64 0, .slice none 0 0]) := Lib.hid (by rw [hw1]; exact Blk.new w 25 _)
  have HSA : Hid (∀ W, Only (w.heap.size ≤ ·) w W → Src W (.slice (some ⟨bl, o, none⟩) 4 c) (b.take 4)) := Lib.hid fun W hW => by
    have h := src_part (hs.later hW) (a := 0) (z := 4) (by omega) (by omega)
    simpa using h
  have HSB : Hid (∀ W, Only (w.heap.size ≤ ·) w W → Src W (.slice (some ⟨bl, o + 248, none⟩) 4 (c - 248)) ((b.drop 248).take 4)) := Lib.hid fun W hW => src_part (hs.later hW) (a := 248) (z := 252) (by omega) (by omega)
  have HSS : Hid (∀ W, Only (w.heap.size ≤ ·) w W → Src W (.slice (some ⟨bl, o, none⟩) 256 c) b) := Lib.hid fun W hW => hs.later hW
  have y1 : (256 : Int) ≤ (c : Int) := by omega
  have y2 : ¬ c = 248 := by omega
  have y3 : 248 ≤ c := by omega
  have y4 : (4 : Int) ≤ (c : Int) := by omega
  have y5 : (252 : Int) ≤ (c : Int) := by omega
  have HBL : Hid (b.length = 256) := Lib.hid (by (obtain ⟨_, _, e, _⟩ := hs; injection e with _ e2 _; exact e2.symm))
  have e1 : (b.take 4 == [82, 71, 65, 85]) = true := by rw [beq_iff_eq]; exact h1
  have e2 : ((b.drop 248).take 4 == [85, 65, 71, 82]) = true := by rw [beq_iff_eq]; exact h2
  have HSL : Hid (∀ W, Only (w.heap.size ≤ ·) w W → Calls Tryz.prog 69 #[.slice (some ⟨bl, o, none⟩) 256 c, .int .i64 252] W (GaveB W (put4 b 252))) := Lib.hid fun W hW => by have h := rSeal_t W _ b (hs.later hW) (by (obtain ⟨_, _, e, _⟩ := hs); injection e with _ e2 _; omega); rwa [seal_put hs] at h
  have e3 : (put4 b 252 == b) = true := by rw [beq_iff_eq]; exact h3.symm
  have hw : dW b = 8 := by unfold dW; rw [hk]; rfl
  have HIW : Hid (∀ W, Calls Tryz.prog 67 #[.int .i64 (dB b 4 : Nat)] W fun e w' => e = .returned (.int .i64 8) ∧ W = w') := Lib.hid fun W => by have h := rIdWidth_c W (dB b 4 : Nat); rwa [hk] at h
  obtain ⟨m, hm⟩ : ∃ m, m = dB b 7 := ⟨_, rfl⟩
  have hde : dEnd b = 40 + m := by unfold dEnd; rw [hw, hm]
  have HME := Lib.hid hm
  have HDE := Lib.hid hde
  have HOK : Hid (dEnd b ≤ 248 → dZ b → okL (dM b) m = true → DocOk b) := Lib.hid fun a1 a2 a3 => ⟨by unfold markedB; rw [decide_eq_true HBL.out, decide_eq_true h1, decide_eq_true h2]; rfl, h3, hg, a1, a2, by rw [← hm]; exact a3⟩
  have HNE : Hid (¬ dEnd b ≤ 248 → ¬ DocOk b) := Lib.hid fun h q => h q.2.2.2.1
  have HNZ : Hid (¬ dZ b → ¬ DocOk b) := Lib.hid fun h q => h q.2.2.2.2.1
  have HNR : Hid (¬ okL (dM b) m = true → ¬ DocOk b) := Lib.hid fun h q => h (by rw [hm]; exact q.2.2.2.2.2)
  have HSC : Hid (40 + m ≤ 248 → ∀ W, Only (w.heap.size ≤ ·) w W → Src W (.slice (some ⟨bl, o + 40, none⟩) m (c - 40)) (dX b) ∧ m = (dX b).length) := Lib.hid fun hl W hW => by
    have h := src_part (hs.later hW) (a := 40) (z := 40 + m) (by omega) (by omega)
    have e : dX b = (b.drop 40).take m := by unfold dX; rw [hw, hm]
    rw [show 40 + m - 40 = m from by omega] at h
    rw [e]
    exact ⟨h, by rw [List.length_take, List.length_drop, HBL.out]; omega⟩
  obtain ⟨x0, hx0⟩ : ∃ x, x = number9 (dPart b 0) := ⟨_, rfl⟩
  have HN0 : Hid (∀ W, Only (w.heap.size ≤ ·) w W → Calls Tryz.prog 96 #[.slice (some ⟨bl, o + 8, none⟩) 8 (c - 8)] W fun e w' => e = .returned (.int .i64 x0) ∧ W = w') := Lib.hid fun W hW => by
    have h := src_part (hs.later hW) (a := 8) (z := 16) (by omega) (by omega)
    have e : dPart b 0 = (b.drop 8).take 8 := by unfold dPart; rw [hw]
    rw [hx0, e]
    exact rmnumber_c W _ 8 _ _ h (by rw [List.length_take, List.length_drop, HBL.out]; omega) (by decide)
  have HX0 := Lib.hid hx0
  clear hx0
  obtain ⟨x1, hx1⟩ : ∃ x, x = number9 (dPart b 1) := ⟨_, rfl⟩
  have HN1 : Hid (∀ W, Only (w.heap.size ≤ ·) w W → Calls Tryz.prog 96 #[.slice (some ⟨bl, o + 16, none⟩) 8 (c - 16)] W fun e w' => e = .returned (.int .i64 x1) ∧ W = w') := Lib.hid fun W hW => by
    have h := src_part (hs.later hW) (a := 16) (z := 24) (by omega) (by omega)
    have e : dPart b 1 = (b.drop 16).take 8 := by unfold dPart; rw [hw]
    rw [hx1, e]
    exact rmnumber_c W _ 8 _ _ h (by rw [List.length_take, List.length_drop, HBL.out]; omega) (by decide)
  have HX1 := Lib.hid hx1
  clear hx1
  obtain ⟨x2, hx2⟩ : ∃ x, x = number9 (dPart b 2) := ⟨_, rfl⟩
  have HN2 : Hid (∀ W, Only (w.heap.size ≤ ·) w W → Calls Tryz.prog 96 #[.slice (some ⟨bl, o + 24, none⟩) 8 (c - 24)] W fun e w' => e = .returned (.int .i64 x2) ∧ W = w') := Lib.hid fun W hW => by
    have h := src_part (hs.later hW) (a := 24) (z := 32) (by omega) (by omega)
    have e : dPart b 2 = (b.drop 24).take 8 := by unfold dPart; rw [hw]
    rw [hx2, e]
    exact rmnumber_c W _ 8 _ _ h (by rw [List.length_take, List.length_drop, HBL.out]; omega) (by decide)
  have HX2 := Lib.hid hx2
  clear hx2
  obtain ⟨x3, hx3⟩ : ∃ x, x = number9 (dPart b 3) := ⟨_, rfl⟩
  have HN3 : Hid (∀ W, Only (w.heap.size ≤ ·) w W → Calls Tryz.prog 96 #[.slice (some ⟨bl, o + 32, none⟩) 8 (c - 32)] W fun e w' => e = .returned (.int .i64 x3) ∧ W = w') := Lib.hid fun W hW => by
    have h := src_part (hs.later hW) (a := 32) (z := 40) (by omega) (by omega)
    have e : dPart b 3 = (b.drop 32).take 8 := by unfold dPart; rw [hw]
    rw [hx3, e]
    exact rmnumber_c W _ 8 _ _ h (by rw [List.length_take, List.length_drop, HBL.out]; omega) (by decide)
  have HX3 := Lib.hid hx3
  clear hx3
  have hg1 : 1 ≤ dB b 4 ∧ dB b 4 ≤ 3 := by
    have h := hg.1
    unfold gen at h
    rw [decide_eq_true_eq] at h
    omega
  have HG1 := Lib.hid hg1
  have HG6 := Lib.hid hg.2
  have y8i : (8 : Int) ≤ (c : Int) := by omega
  have y8n : ¬ c = 8 := by omega
  have y8l : 8 ≤ c := by omega
  have y16i : (16 : Int) ≤ (c : Int) := by omega
  have y16n : ¬ c = 16 := by omega
  have y16l : 16 ≤ c := by omega
  have y24i : (24 : Int) ≤ (c : Int) := by omega
  have y24n : ¬ c = 24 := by omega
  have y24l : 24 ≤ c := by omega
  have y32i : (32 : Int) ≤ (c : Int) := by omega
  have y32n : ¬ c = 32 := by omega
  have y32l : 32 ≤ c := by omega
  have y40i : (40 : Int) ≤ (c : Int) := by omega
  have y40n : ¬ c = 40 := by omega
  have y40l : 40 ≤ c := by omega
  have hm8 : m < 256 := by rw [hm]; exact dB_lt b 7
  clear hs hc h1 h2 h3 hg hg1 hk hw hm hde
  have k1 := convert_src (HSA.out _ HO.out)
  have k2 := convert_src (HSB.out _ HO.out)
  go_enter Tryz.func77, Tryz.ntmps77
  go_upto_region 1 with (fail)
  rw [← hw1]
  clear hw1
  go_upto_region 3 with (fail)
  clear k1 k2 e1 e2
  go_cut [30] from 25 to 29 (fun y wz => y = .bool false ∧ Hid (Only (w.heap.size ≤ ·) w wz) ∧ Hid (Blk wz w.heap.size 25 [.int .i64 0, .int .i64 0, .int .i64 0, .int .i64 0, .int .i64 0, .int .i64 0, .int .i64 0, .slice none 0 0]))
  case first =>
    replace HR := Lib.hid HR.out.drew
    replace HO := Lib.hid HO.out.drew
    refine wp_region_list (B := [false, false, false, false, false, false]) (S := (fun _ => True)) (by kernel_rfl) (by kernel_rfl) (by kernel_rfl) trivial (fun hsel hHeld => ?_)
    generalize hwz : World.drew _ = wz at HR HO hHeld ⊢
    clear hwz
    refine oneA 0 25 hsel (h := ?_)
    simp only [Act.put, List.setIfInBounds_toArray, List.set_cons_zero, List.set_cons_succ]
    refine oneA 3 28 hsel (h := ?_)
    simp only [Act.put, List.setIfInBounds_toArray, List.set_cons_zero, List.set_cons_succ]
    refine wpAnyL_ready (rs := [1, 4]) (by kernel_rfl) (by kernel_rfl) (by simp) ?_
    refine AllReadyL.cons (o := ?_) ?_ (fun K hK => ?_) (AllReadyL.cons (o := ?_) ?_ (fun K hK => ?_) AllReadyL.nil)
    case refine_2 => (simp only [List.getElem?_cons_succ, List.getElem?_cons_zero]; rfl)
    case refine_5 => (simp only [List.getElem?_cons_succ, List.getElem?_cons_zero]; rfl)
    case refine_3 =>
      go_simp
      (go_at_call 69; (with_reducible refine (HSL.out _ HO.out).mono ?_); rintro ee w3 ⟨sv, rfl, hsv, ho⟩; have HSV := Lib.hid hsv; (replace HR := Lib.hid (HR.out.later ho)); (replace HO := Lib.hid (on_new HO.out ho)); clear ho hsv)
      go_wp2_with (fail)
      clear hHeld
      refine hK.out _ _ trivial (fun hHeld => ?_)
      clear hK K
      try simp only [List.set_cons_zero, List.set_cons_succ]
      refine wpAnyL_ready (rs := [2, 4]) (by kernel_rfl) (by kernel_rfl) (by simp) ?_
      refine AllReadyL.cons (o := ?_) ?_ (fun K hK => ?_) (AllReadyL.cons (o := ?_) ?_ (fun K hK => ?_) AllReadyL.nil)
      case refine_2 => (simp only [List.getElem?_cons_succ, List.getElem?_cons_zero]; rfl)
      case refine_5 => (simp only [List.getElem?_cons_succ, List.getElem?_cons_zero]; rfl)
      case refine_3 =>
        have k1 := convert_src HSV.out
        go_simp
        clear hHeld
        refine hK.out _ _ trivial (fun hHeld => ?_)
        clear hK K
        try simp only [List.set_cons_zero, List.set_cons_succ]
        clear k1
        refine wpAnyL_ready (rs := [4]) (by kernel_rfl) (by kernel_rfl) (by simp) ?_
        refine AllReadyL.cons (o := ?_) ?_ (fun K hK => ?_) AllReadyL.nil
        case refine_2 => (simp only [List.getElem?_cons_succ, List.getElem?_cons_zero]; rfl)
        have k2 := convert_src (HSS.out _ HO.out)
        go_simp
        clear hHeld
        refine hK.out _ _ trivial (fun hHeld => ?_)
        clear hK K
        try simp only [List.set_cons_zero, List.set_cons_succ]
        clear k2
        refine oneA 5 30 hsel (h := ?_)
        simp only [Act.put, List.setIfInBounds_toArray, List.set_cons_zero, List.set_cons_succ]
        refine wpAnyL_done (by kernel_rfl) (by kernel_rfl) ?_ _
        clear hsel hHeld
        go_wp2_with (fail)
        go_meet
        exact ⟨rfl, HO, HR⟩
      case refine_6 =>
        have k2 := convert_src (HSS.out _ HO.out)
        go_simp
        clear hHeld
        refine hK.out _ _ trivial (fun hHeld => ?_)
        clear hK K
        try simp only [List.set_cons_zero, List.set_cons_succ]
        clear k2
        refine wpAnyL_ready (rs := [2]) (by kernel_rfl) (by kernel_rfl) (by simp) ?_
        refine AllReadyL.cons (o := ?_) ?_ (fun K hK => ?_) AllReadyL.nil
        case refine_2 => (simp only [List.getElem?_cons_succ, List.getElem?_cons_zero]; rfl)
        have k1 := convert_src HSV.out
        go_simp
        clear hHeld
        refine hK.out _ _ trivial (fun hHeld => ?_)
        clear hK K
        try simp only [List.set_cons_zero, List.set_cons_succ]
        clear k1
        refine oneA 5 30 hsel (h := ?_)
        simp only [Act.put, List.setIfInBounds_toArray, List.set_cons_zero, List.set_cons_succ]
        refine wpAnyL_done (by kernel_rfl) (by kernel_rfl) ?_ _
        clear hsel hHeld
        go_wp2_with (fail)
        go_meet
        exact ⟨rfl, HO, HR⟩
    case refine_6 =>
      have k2 := convert_src (HSS.out _ HO.out)
      go_simp
      clear hHeld
      refine hK.out _ _ trivial (fun hHeld => ?_)
      clear hK K
      try simp only [List.set_cons_zero, List.set_cons_succ]
      clear k2
      refine wpAnyL_ready (rs := [1]) (by kernel_rfl) (by kernel_rfl) (by simp) ?_
      refine AllReadyL.cons (o := ?_) ?_ (fun K hK => ?_) AllReadyL.nil
      case refine_2 => (simp only [List.getElem?_cons_succ, List.getElem?_cons_zero]; rfl)
      go_simp
      (go_at_call 69; (with_reducible refine (HSL.out _ HO.out).mono ?_); rintro ee w3 ⟨sv, rfl, hsv, ho⟩; have HSV := Lib.hid hsv; (replace HR := Lib.hid (HR.out.later ho)); (replace HO := Lib.hid (on_new HO.out ho)); clear ho hsv)
      go_wp2_with (fail)
      clear hHeld
      refine hK.out _ _ trivial (fun hHeld => ?_)
      clear hK K
      try simp only [List.set_cons_zero, List.set_cons_succ]
      refine wpAnyL_ready (rs := [2]) (by kernel_rfl) (by kernel_rfl) (by simp) ?_
      refine AllReadyL.cons (o := ?_) ?_ (fun K hK => ?_) AllReadyL.nil
      case refine_2 => (simp only [List.getElem?_cons_succ, List.getElem?_cons_zero]; rfl)
      have k1 := convert_src HSV.out
      go_simp
      clear hHeld
      refine hK.out _ _ trivial (fun hHeld => ?_)
      clear hK K
      try simp only [List.set_cons_zero, List.set_cons_succ]
      clear k1
      refine oneA 5 30 hsel (h := ?_)
      simp only [Act.put, List.setIfInBounds_toArray, List.set_cons_zero, List.set_cons_succ]
      refine wpAnyL_done (by kernel_rfl) (by kernel_rfl) ?_ _
      clear hsel hHeld
      go_wp2_with (fail)
      go_meet
      exact ⟨rfl, HO, HR⟩
  case rest =>
    obtain ⟨rfl, HO, HR⟩ := hcut
    have m4 := byte_at (HSS.out _ HO.out) (i := 4) (by rw [HBL.out]; decide)
    have m6 := byte_at (HSS.out _ HO.out) (i := 6) (by rw [HBL.out]; decide)
    have u4 := dB_lt b 4
    have t4 : IntKind.i64.wrap ((dB b 4 : Nat) : Int) = (dB b 4 : Nat) := IntWalk.i64_in _ (by omega)
    have u6 := dB_lt b 6
    have g1i : ¬ (3 : Int) < (dB b 4 : Int) := by have := HG1.out; omega
    have g2i : ¬ (dB b 4 : Int) < 1 := by have := HG1.out; omega
    have g3i : ¬ (3 : Int) < (dB b 6 : Int) := by have := HG6.out; omega
    go_upto_region 8 with (fail)
    clear m4 m6 t4 g1i g2i g3i
    go_upto_region 9 with (go_at_call 67; (with_reducible refine (HIW.out _).mono ?_); rintro ee w' ⟨rfl, rfl⟩)
    have KC : Hid (∀ W, Only (w.heap.size ≤ ·) w W → W.cell? ⟨bl, o + 5, none⟩ = some (.int .u8 (dB b 5 : Nat)) ∧ W.cell? ⟨bl, o + 6, none⟩ = some (.int .u8 (dB b 6 : Nat))) := Lib.hid fun W hW => ⟨byte_at (HSS.out _ hW) (by rw [HBL.out]; decide), byte_at (HSS.out _ hW) (by rw [HBL.out]; decide)⟩
    have u5 := dB_lt b 5
    have t5 : IntKind.i64.wrap ((dB b 5 : Nat) : Int) = (dB b 5 : Nat) := IntWalk.i64_in _ (by omega)
    have t6 : IntKind.i64.wrap ((dB b 6 : Nat) : Int) = (dB b 6 : Nat) := IntWalk.i64_in _ (by omega)
    replace HR := Lib.hid HR.out.drew
    replace HO := Lib.hid HO.out.drew
    refine wp_region_list (B := [false, false, false, false, false, false, false, false, false, false, false, false]) (S := (fun W => W.cell? ⟨bl, o + 5, none⟩ = some (.int .u8 (dB b 5 : Nat)) ∧ W.cell? ⟨bl, o + 6, none⟩ = some (.int .u8 (dB b 6 : Nat)))) (by kernel_rfl) (by kernel_rfl) (by kernel_rfl) (KC.out _ HO.out) (fun hsel hHeld => ?_)
    generalize hwz : World.drew _ = wz9 at HR HO hHeld ⊢
    clear hwz
    refine oneA 0 51 hsel (h := ?_)
    simp only [Act.put, List.setIfInBounds_toArray, List.set_cons_zero, List.set_cons_succ]
    refine oneA 1 52 hsel (h := ?_)
    simp only [Act.put, List.setIfInBounds_toArray, List.set_cons_zero, List.set_cons_succ]
    refine oneA 2 53 hsel (h := ?_)
    simp only [Act.put, List.setIfInBounds_toArray, List.set_cons_zero, List.set_cons_succ]
    refine oneA 3 54 hsel (h := ?_)
    simp only [Act.put, List.setIfInBounds_toArray, List.set_cons_zero, List.set_cons_succ]
    refine oneA 4 55 hsel (h := ?_)
    simp only [Act.put, List.setIfInBounds_toArray, List.set_cons_zero, List.set_cons_succ]
    refine oneA 5 56 hsel (h := ?_)
    simp only [Act.put, List.setIfInBounds_toArray, List.set_cons_zero, List.set_cons_succ]
    refine oneA 6 57 hsel (h := ?_)
    simp only [Act.put, List.setIfInBounds_toArray, List.set_cons_zero, List.set_cons_succ]
    refine oneA 7 58 hsel (h := ?_)
    simp only [Act.put, List.setIfInBounds_toArray, List.set_cons_zero, List.set_cons_succ]
    refine oneA 8 59 hsel (h := ?_)
    simp only [Act.put, List.setIfInBounds_toArray, List.set_cons_zero, List.set_cons_succ]
    refine oneA 9 60 hsel (h := ?_)
    simp only [Act.put, List.setIfInBounds_toArray, List.set_cons_zero, List.set_cons_succ]
    refine wpAnyL_ready (rs := [10]) (by kernel_rfl) (by kernel_rfl) (by simp) ?_
    refine AllReadyL.cons (o := ?_) ?_ (fun K hK => ?_) AllReadyL.nil
    case refine_2 => (simp only [List.getElem?_cons_succ, List.getElem?_cons_zero]; rfl)
    go_simp
    have HOP := Lib.hid HO.out
    replace HO := Lib.hid (HO.out.alloc (fun _ h => h) (.cells #[.int .i64 0, .int .i64 0, .int .i64 0, .int .i64 0, .int .i64 0, .int .i64 0, .int .i64 0, .slice none 0 0] 25))
    clear hHeld
    refine hK.out _ _ (KC.out _ HO.out) (fun hHeld => ?_)
    clear hK K
    try simp only [List.set_cons_zero, List.set_cons_succ]
    refine wpAnyL_ready (rs := [11]) (by kernel_rfl) (by kernel_rfl) (by simp) ?_
    refine AllReadyL.cons (o := ?_) ?_ (fun K hK => ?_) AllReadyL.nil
    case refine_2 => (simp only [List.getElem?_cons_succ, List.getElem?_cons_zero]; rfl)
    have HLF : Hid (Only (w.heap.size ≤ ·) w (wz9.alloc (.cells #[.int .i64 (dB b 4 : Nat), .int .i64 (dB b 5 : Nat), .int .i64 (dB b 6 : Nat), .int .i64 0, .int .i64 0, .int .i64 0, .int .i64 0, .slice none 0 0] 25))) := Lib.hid (HOP.out.alloc (fun _ h => h) _)
    go_simp
    clear hHeld
    refine hK.out _ _ (KC.out _ HLF.out) (fun hHeld => ?_)
    clear hK K
    try simp only [List.set_cons_zero, List.set_cons_succ]
    refine wpAnyL_done (by kernel_rfl) (by kernel_rfl) ?_ _
    clear hsel hHeld
    have HLB : Hid (w.heap.size < wz9.heap.size) := Lib.hid HR.out.lt
    obtain ⟨wq0, hwq⟩ : ∃ q, q = wz9.alloc (.cells #[.int .i64 (dB b 4 : Nat), .int .i64 (dB b 5 : Nat), .int .i64 (dB b 6 : Nat), .int .i64 0, .int .i64 0, .int .i64 0, .int .i64 0, .slice none 0 0] 25) := ⟨_, rfl⟩
    have HBX : Hid (Blk wq0 wz9.heap.size 25 [.int .i64 (dB b 4 : Nat), .int .i64 (dB b 5 : Nat), .int .i64 (dB b 6 : Nat), .int .i64 0, .int .i64 0, .int .i64 0, .int .i64 0, .slice none 0 0]) := Lib.hid (by rw [hwq]; exact Blk.new wz9 25 _)
    replace HR := Lib.hid (HR.out.alloc (.cells #[.int .i64 (dB b 4 : Nat), .int .i64 (dB b 5 : Nat), .int .i64 (dB b 6 : Nat), .int .i64 0, .int .i64 0, .int .i64 0, .int .i64 0, .slice none 0 0] 25))
    rw [← hwq] at HR HLF
    rw [← hwq]
    clear HO HOP hwq t5 t6
    have HO := Lib.hid HLF.out
    clear HLF
    generalize wz9.heap.size = bx at HBX HLB ⊢
    obtain ⟨b0, b1, b2, b3, b4, b5, b6, b7⟩ := HBX.out.eight
    have f3 := HBX.out.frozen 3
    go_upto_region 11 with (go_at_call 96; (with_reducible refine (HN0.out _ HO.out).mono ?_); rintro ee w' ⟨rfl, rfl⟩)
    have HOX : Hid (Only (· = bx) wq0 _) := Lib.hid ((Only.refl (· = bx) wq0).setCell (p := ⟨bx, 3, none⟩) rfl (.int .i64 x0))
    replace HBX := Lib.hid (HBX.out.set_ 3 (.int .i64 x0))
    replace HR := Lib.hid (HR.out.only HOX.out (by have := HLB.out; omega))
    replace HO := Lib.hid (HO.out.trans (HOX.out.mono fun j hj => by have := HLB.out; rw [hj]; omega))
    generalize hw : World.setCell wq0 ⟨bx, 3, none⟩ (.int .i64 x0) = wq1 at HBX HO HR ⊢
    clear hw HOX b0 b1 b2 b3 b4 b5 b6 b7 f3
    replace HBX : Hid (Blk wq1 bx 25 [.int .i64 (dB b 4 : Nat), .int .i64 (dB b 5 : Nat), .int .i64 (dB b 6 : Nat), .int .i64 x0, .int .i64 0, .int .i64 0, .int .i64 0, .slice none 0 0]) := HBX
    obtain ⟨b0, b1, b2, b3, b4, b5, b6, b7⟩ := HBX.out.eight
    have f4 := HBX.out.frozen 4
    go_upto_region 12 with (go_at_call 96; (with_reducible refine (HN1.out _ HO.out).mono ?_); rintro ee w' ⟨rfl, rfl⟩)
    have HOX : Hid (Only (· = bx) wq1 _) := Lib.hid ((Only.refl (· = bx) wq1).setCell (p := ⟨bx, 4, none⟩) rfl (.int .i64 x1))
    replace HBX := Lib.hid (HBX.out.set_ 4 (.int .i64 x1))
    replace HR := Lib.hid (HR.out.only HOX.out (by have := HLB.out; omega))
    replace HO := Lib.hid (HO.out.trans (HOX.out.mono fun j hj => by have := HLB.out; rw [hj]; omega))
    generalize hw : World.setCell wq1 ⟨bx, 4, none⟩ (.int .i64 x1) = wq2 at HBX HO HR ⊢
    clear hw HOX b0 b1 b2 b3 b4 b5 b6 b7 f4
    replace HBX : Hid (Blk wq2 bx 25 [.int .i64 (dB b 4 : Nat), .int .i64 (dB b 5 : Nat), .int .i64 (dB b 6 : Nat), .int .i64 x0, .int .i64 x1, .int .i64 0, .int .i64 0, .slice none 0 0]) := HBX
    obtain ⟨b0, b1, b2, b3, b4, b5, b6, b7⟩ := HBX.out.eight
    have f5 := HBX.out.frozen 5
    go_upto_region 13 with (go_at_call 96; (with_reducible refine (HN2.out _ HO.out).mono ?_); rintro ee w' ⟨rfl, rfl⟩)
    have HOX : Hid (Only (· = bx) wq2 _) := Lib.hid ((Only.refl (· = bx) wq2).setCell (p := ⟨bx, 5, none⟩) rfl (.int .i64 x2))
    replace HBX := Lib.hid (HBX.out.set_ 5 (.int .i64 x2))
    replace HR := Lib.hid (HR.out.only HOX.out (by have := HLB.out; omega))
    replace HO := Lib.hid (HO.out.trans (HOX.out.mono fun j hj => by have := HLB.out; rw [hj]; omega))
    generalize hw : World.setCell wq2 ⟨bx, 5, none⟩ (.int .i64 x2) = wq3 at HBX HO HR ⊢
    clear hw HOX b0 b1 b2 b3 b4 b5 b6 b7 f5
    replace HBX : Hid (Blk wq3 bx 25 [.int .i64 (dB b 4 : Nat), .int .i64 (dB b 5 : Nat), .int .i64 (dB b 6 : Nat), .int .i64 x0, .int .i64 x1, .int .i64 x2, .int .i64 0, .slice none 0 0]) := HBX
    obtain ⟨b0, b1, b2, b3, b4, b5, b6, b7⟩ := HBX.out.eight
    have f6 := HBX.out.frozen 6
    go_upto_region 14 with (go_at_call 96; (with_reducible refine (HN3.out _ HO.out).mono ?_); rintro ee w' ⟨rfl, rfl⟩)
    have HOX : Hid (Only (· = bx) wq3 _) := Lib.hid ((Only.refl (· = bx) wq3).setCell (p := ⟨bx, 6, none⟩) rfl (.int .i64 x3))
    replace HBX := Lib.hid (HBX.out.set_ 6 (.int .i64 x3))
    replace HR := Lib.hid (HR.out.only HOX.out (by have := HLB.out; omega))
    replace HO := Lib.hid (HO.out.trans (HOX.out.mono fun j hj => by have := HLB.out; rw [hj]; omega))
    generalize hw : World.setCell wq3 ⟨bx, 6, none⟩ (.int .i64 x3) = wq4 at HBX HO HR ⊢
    clear hw HOX b0 b1 b2 b3 b4 b5 b6 b7 f6
    replace HBX : Hid (Blk wq4 bx 25 [.int .i64 (dB b 4 : Nat), .int .i64 (dB b 5 : Nat), .int .i64 (dB b 6 : Nat), .int .i64 x0, .int .i64 x1, .int .i64 x2, .int .i64 x3, .slice none 0 0]) := HBX
    obtain ⟨b0, b1, b2, b3, b4, b5, b6, b7⟩ := HBX.out.eight
    have m7 := byte_at (HSS.out _ HO.out) (i := 7) (by rw [HBL.out]; decide)
    rw [← HME.out] at m7
    have t7 : IntKind.i64.wrap ((m : Nat) : Int) = (m : Nat) := IntWalk.i64_in _ (by omega)
    have t8 : IntKind.i64.wrap (40 + (m : Int)) = 40 + (m : Int) := IntWalk.i64_in _ (by omega)
    go_upto_region 15 with (fail)
    by_cases hend : 40 + m ≤ 248
    · have h248 : ¬ (248 : Int) < 40 + (m : Int) := by omega
      have s1 : (0 : Int) ≤ (m : Int) := by omega
      have s2 : 40 + (m : Int) ≤ (c : Int) := by omega
      have f7 := HBX.out.frozen 7
      have HSR := Lib.hid (HSC.out hend)
      go_upto_region 18 with (fail)
      have HOX : Hid (Only (· = bx) wq4 _) := Lib.hid ((Only.refl (· = bx) wq4).setCell (p := ⟨bx, 7, none⟩) rfl (.slice (some ⟨bl, o + 40, none⟩) m (c - 40)))
      replace HBX := Lib.hid (HBX.out.set_ 7 (.slice (some ⟨bl, o + 40, none⟩) m (c - 40)))
      replace HR := Lib.hid (HR.out.only HOX.out (by have := HLB.out; omega))
      replace HO := Lib.hid (HO.out.trans (HOX.out.mono fun j hj => by have := HLB.out; rw [hj]; omega))
      generalize hw : World.setCell wq4 ⟨bx, 7, none⟩ (.slice (some ⟨bl, o + 40, none⟩) m (c - 40)) = wq5 at HBX HO HR ⊢
      clear hw HOX b0 b1 b2 b3 b4 b5 b6 b7 f7
      replace HBX : Hid (Blk wq5 bx 25 [.int .i64 (dB b 4 : Nat), .int .i64 (dB b 5 : Nat), .int .i64 (dB b 6 : Nat), .int .i64 x0, .int .i64 x1, .int .i64 x2, .int .i64 x3, .slice (some ⟨bl, o + 40, none⟩) m (c - 40)]) := HBX
      obtain ⟨b0, b1, b2, b3, b4, b5, b6, b7⟩ := HBX.out.eight
      clear s1 s2 h248 m7 t7 t8
      go_upto_region 19 with (fail)
      go_loopw [8] (fun kv wr => ∃ i : Nat, 40 + m ≤ i ∧ i ≤ 248 ∧ kv = .int .i64 (i : Nat) ∧ Hid (∀ j, 40 + m ≤ j → j < i → b.getD j 0 = 0) ∧ wr = wq5) (fun kv _ => 248 - (intOf kv).toNat)
      case atStart => exact ⟨40 + m, Nat.le_refl _, hend, by rw [Int.natCast_add]; rfl, Lib.hid (fun j h1 h2 => by omega), rfl⟩
      case round =>
        obtain ⟨i, hi1, hi2, rfl, HZR, rfl⟩ := hrel
        clear b0 b1 b2 b3 b4 b5 b6 b7
        by_cases hlt : i < 248
        · have hli : (i : Int) < 248 := by omega
          have hl2 : (i : Int) < 256 := by omega
          have mi := byte_at (HSS.out _ HO.out) (i := i) (by rw [HBL.out]; omega)
          by_cases hzi : dB b i = 0
          · rw [hzi] at mi
            have HZI : Hid (b.getD i 0 = 0) := Lib.hid (dB_zero hzi)
            go_wp2_with (fail)
            go_roundw
            case rel => exact ⟨i + 1, by omega, by omega, by simp, Lib.hid (fun j h1 h2 => by rcases Nat.lt_or_ge j i with h3 | h3; (exact HZR.out j h1 h3); (have h4 : j = i := by omega); rw [h4]; exact HZI.out), trivial⟩
            case measure => simp [intOf]; omega
          · have bzi : ((dB b i : Int) != 0) = true := by rw [bne_iff_ne]; omega
            have HBD : Hid (¬ DocOk b) := Lib.hid (HNZ.out fun h => hzi (by unfold dB; rw [h i (by rw [HDE.out]; exact hi1) hlt]; rfl))
            go_upto_region 22 with (fail)
            clear mi bzi hli hl2
            obtain ⟨r0, r1, r2, r3, r4, r5, r6, r7⟩ := HR.out.eight
            have z0 := HR.out.frozen 0
            have z1 := HR.out.frozen 1
            have z2 := HR.out.frozen 2
            have z3 := HR.out.frozen 3
            have z4 := HR.out.frozen 4
            have z5 := HR.out.frozen 5
            have z6 := HR.out.frozen 6
            have z7 := HR.out.frozen 7
            go_wp2
            refine bodyPost_ret (results_cell_tmp rfl rfl (rload_meta ((((((((HR.out.set_ 0 (.int .i64 0)).set_ 1 (.int .i64 0)).set_ 2 (.int .i64 0)).set_ 3 (.int .i64 0)).set_ 4 (.int .i64 0)).set_ 5 (.int .i64 0)).set_ 6 (.int .i64 0)).set_ 7 (.slice none 0 0)))) rfl ?_
            refine .inr ⟨HBD.out, ?_⟩
            exact ⟨0, 0, 0, 0, 0, 0, 0, none, 0, 0, rfl, rfl, rfl, Src.nil_ _, ((((((((HO.out.setCell (p := ⟨w.heap.size, 0, none⟩) (Nat.le_refl _) (.int .i64 0)).setCell (p := ⟨w.heap.size, 1, none⟩) (Nat.le_refl _) (.int .i64 0)).setCell (p := ⟨w.heap.size, 2, none⟩) (Nat.le_refl _) (.int .i64 0)).setCell (p := ⟨w.heap.size, 3, none⟩) (Nat.le_refl _) (.int .i64 0)).setCell (p := ⟨w.heap.size, 4, none⟩) (Nat.le_refl _) (.int .i64 0)).setCell (p := ⟨w.heap.size, 5, none⟩) (Nat.le_refl _) (.int .i64 0)).setCell (p := ⟨w.heap.size, 6, none⟩) (Nat.le_refl _) (.int .i64 0)).setCell (p := ⟨w.heap.size, 7, none⟩) (Nat.le_refl _) (.slice none 0 0))⟩
        · have hli : ¬ (i : Int) < 248 := by omega
          have HDZ : Hid (dZ b) := Lib.hid fun j h1 h2 => HZR.out j (by rw [← HDE.out]; exact h1) (by omega)
          have HRI : Hid (∀ W, Calls Tryz.prog 47 #[.agg #[.int .i64 (dB b 4 : Nat), .int .i64 (dB b 5 : Nat), .int .i64 (dB b 6 : Nat), .int .i64 x0, .int .i64 x1, .int .i64 x2, .int .i64 x3, .slice (some ⟨bl, o + 40, none⟩) m (c - 40)]] W (Told W (.bool (okL (dM b) m)))) := Lib.hid fun W => by
            have h := rmRight_c W (dB b 4 : Nat) (dB b 5 : Nat) (dB b 6 : Nat) x0 x1 x2 x3 (some ⟨bl, o + 40, none⟩) m (c - 40)
            have e : okL (dM b) m = okM (dB b 4 : Nat) (dB b 5 : Nat) (dB b 6 : Nat) x0 x1 x2 x3 m := by unfold dM; rw [← HX0.out, ← HX1.out, ← HX2.out, ← HX3.out]; rfl
            rw [e]
            exact h
          obtain ⟨b0, b1, b2, b3, b4, b5, b6, b7⟩ := HBX.out.eight
          by_cases hq : okL (dM b) m = true
          · rw [hq] at HRI
            have HDO : Hid (DocOk b) := Lib.hid (HOK.out (by rw [HDE.out]; exact hend) HDZ.out hq)
            clear hq
            go_upto_region 25 with (go_at_call 47; (with_reducible refine (HRI.out _).mono ?_); rintro ee w9 ⟨rfl, ho⟩; (replace HR := Lib.hid (HR.out.later ho)); (replace HBX := Lib.hid (HBX.out.later ho)); (replace HO := Lib.hid (on_new HO.out ho)); clear ho b0 b1 b2 b3 b4 b5 b6 b7)
            obtain ⟨b0, b1, b2, b3, b4, b5, b6, b7⟩ := HBX.out.eight
            obtain ⟨r0, r1, r2, r3, r4, r5, r6, r7⟩ := HR.out.eight
            have z0 := HR.out.frozen 0
            have z1 := HR.out.frozen 1
            have z2 := HR.out.frozen 2
            have z3 := HR.out.frozen 3
            have z4 := HR.out.frozen 4
            have z5 := HR.out.frozen 5
            have z6 := HR.out.frozen 6
            have z7 := HR.out.frozen 7
            go_wp2
            refine bodyPost_ret (results_cell_tmp rfl rfl (rload_meta ((((((((HR.out.set_ 0 (.int .i64 (dB b 4 : Nat))).set_ 1 (.int .i64 (dB b 5 : Nat))).set_ 2 (.int .i64 (dB b 6 : Nat))).set_ 3 (.int .i64 x0)).set_ 4 (.int .i64 x1)).set_ 5 (.int .i64 x2)).set_ 6 (.int .i64 x3)).set_ 7 (.slice (some ⟨bl, o + 40, none⟩) m (c - 40))))) rfl ?_
            refine .inl ⟨HDO.out, _, _, _, _, _, _, _, _, _, _, ?_, (HSR.out _ HO.out).2, rfl, ((HSR.out _ ?_).1), ?_⟩
            · unfold dM
              rw [← HX0.out, ← HX1.out, ← HX2.out, ← HX3.out]
            · exact ((((((((HO.out.setCell (p := ⟨w.heap.size, 0, none⟩) (Nat.le_refl _) (.int .i64 (dB b 4 : Nat))).setCell (p := ⟨w.heap.size, 1, none⟩) (Nat.le_refl _) (.int .i64 (dB b 5 : Nat))).setCell (p := ⟨w.heap.size, 2, none⟩) (Nat.le_refl _) (.int .i64 (dB b 6 : Nat))).setCell (p := ⟨w.heap.size, 3, none⟩) (Nat.le_refl _) (.int .i64 x0)).setCell (p := ⟨w.heap.size, 4, none⟩) (Nat.le_refl _) (.int .i64 x1)).setCell (p := ⟨w.heap.size, 5, none⟩) (Nat.le_refl _) (.int .i64 x2)).setCell (p := ⟨w.heap.size, 6, none⟩) (Nat.le_refl _) (.int .i64 x3)).setCell (p := ⟨w.heap.size, 7, none⟩) (Nat.le_refl _) (.slice (some ⟨bl, o + 40, none⟩) m (c - 40)))
            · exact ((((((((HO.out.setCell (p := ⟨w.heap.size, 0, none⟩) (Nat.le_refl _) (.int .i64 (dB b 4 : Nat))).setCell (p := ⟨w.heap.size, 1, none⟩) (Nat.le_refl _) (.int .i64 (dB b 5 : Nat))).setCell (p := ⟨w.heap.size, 2, none⟩) (Nat.le_refl _) (.int .i64 (dB b 6 : Nat))).setCell (p := ⟨w.heap.size, 3, none⟩) (Nat.le_refl _) (.int .i64 x0)).setCell (p := ⟨w.heap.size, 4, none⟩) (Nat.le_refl _) (.int .i64 x1)).setCell (p := ⟨w.heap.size, 5, none⟩) (Nat.le_refl _) (.int .i64 x2)).setCell (p := ⟨w.heap.size, 6, none⟩) (Nat.le_refl _) (.int .i64 x3)).setCell (p := ⟨w.heap.size, 7, none⟩) (Nat.le_refl _) (.slice (some ⟨bl, o + 40, none⟩) m (c - 40)))
          · have HBD : Hid (¬ DocOk b) := Lib.hid (HNR.out hq)
            have hqf : okL (dM b) m = false := by simpa using hq
            rw [hqf] at HRI
            clear hq hqf
            go_upto_region 24 with (go_at_call 47; (with_reducible refine (HRI.out _).mono ?_); rintro ee w9 ⟨rfl, ho⟩; (replace HR := Lib.hid (HR.out.later ho)); (replace HBX := Lib.hid (HBX.out.later ho)); (replace HO := Lib.hid (on_new HO.out ho)); clear ho b0 b1 b2 b3 b4 b5 b6 b7)
            obtain ⟨r0, r1, r2, r3, r4, r5, r6, r7⟩ := HR.out.eight
            have z0 := HR.out.frozen 0
            have z1 := HR.out.frozen 1
            have z2 := HR.out.frozen 2
            have z3 := HR.out.frozen 3
            have z4 := HR.out.frozen 4
            have z5 := HR.out.frozen 5
            have z6 := HR.out.frozen 6
            have z7 := HR.out.frozen 7
            go_wp2
            refine bodyPost_ret (results_cell_tmp rfl rfl (rload_meta ((((((((HR.out.set_ 0 (.int .i64 0)).set_ 1 (.int .i64 0)).set_ 2 (.int .i64 0)).set_ 3 (.int .i64 0)).set_ 4 (.int .i64 0)).set_ 5 (.int .i64 0)).set_ 6 (.int .i64 0)).set_ 7 (.slice none 0 0)))) rfl ?_
            refine .inr ⟨HBD.out, ?_⟩
            exact ⟨0, 0, 0, 0, 0, 0, 0, none, 0, 0, rfl, rfl, rfl, Src.nil_ _, ((((((((HO.out.setCell (p := ⟨w.heap.size, 0, none⟩) (Nat.le_refl _) (.int .i64 0)).setCell (p := ⟨w.heap.size, 1, none⟩) (Nat.le_refl _) (.int .i64 0)).setCell (p := ⟨w.heap.size, 2, none⟩) (Nat.le_refl _) (.int .i64 0)).setCell (p := ⟨w.heap.size, 3, none⟩) (Nat.le_refl _) (.int .i64 0)).setCell (p := ⟨w.heap.size, 4, none⟩) (Nat.le_refl _) (.int .i64 0)).setCell (p := ⟨w.heap.size, 5, none⟩) (Nat.le_refl _) (.int .i64 0)).setCell (p := ⟨w.heap.size, 6, none⟩) (Nat.le_refl _) (.int .i64 0)).setCell (p := ⟨w.heap.size, 7, none⟩) (Nat.le_refl _) (.slice none 0 0))⟩
    · have h248 : (248 : Int) < 40 + (m : Int) := by omega
      go_upto_region 16 with (fail)
      have HBD : Hid (¬ DocOk b) := Lib.hid (HNE.out (by rw [HDE.out]; exact hend))
      clear h248 hend m7 t7 t8 b0 b1 b2 b3 b4 b5 b6 b7
      obtain ⟨r0, r1, r2, r3, r4, r5, r6, r7⟩ := HR.out.eight
      have z0 := HR.out.frozen 0
      have z1 := HR.out.frozen 1
      have z2 := HR.out.frozen 2
      have z3 := HR.out.frozen 3
      have z4 := HR.out.frozen 4
      have z5 := HR.out.frozen 5
      have z6 := HR.out.frozen 6
      have z7 := HR.out.frozen 7
      go_wp2
      refine bodyPost_ret (results_cell_tmp rfl rfl (rload_meta ((((((((HR.out.set_ 0 (.int .i64 0)).set_ 1 (.int .i64 0)).set_ 2 (.int .i64 0)).set_ 3 (.int .i64 0)).set_ 4 (.int .i64 0)).set_ 5 (.int .i64 0)).set_ 6 (.int .i64 0)).set_ 7 (.slice none 0 0)))) rfl ?_
      refine .inr ⟨HBD.out, ?_⟩
      exact ⟨0, 0, 0, 0, 0, 0, 0, none, 0, 0, rfl, rfl, rfl, Src.nil_ _, ((((((((HO.out.setCell (p := ⟨w.heap.size, 0, none⟩) (Nat.le_refl _) (.int .i64 0)).setCell (p := ⟨w.heap.size, 1, none⟩) (Nat.le_refl _) (.int .i64 0)).setCell (p := ⟨w.heap.size, 2, none⟩) (Nat.le_refl _) (.int .i64 0)).setCell (p := ⟨w.heap.size, 3, none⟩) (Nat.le_refl _) (.int .i64 0)).setCell (p := ⟨w.heap.size, 4, none⟩) (Nat.le_refl _) (.int .i64 0)).setCell (p := ⟨w.heap.size, 5, none⟩) (Nat.le_refl _) (.int .i64 0)).setCell (p := ⟨w.heap.size, 6, none⟩) (Nat.le_refl _) (.int .i64 0)).setCell (p := ⟨w.heap.size, 7, none⟩) (Nat.le_refl _) (.slice none 0 0))⟩

end
end Go.Proofs.YtopaponemjaenaaGreatDoor
