/-
  PageEncodes: the walk.
-/
import Derived.Test.YtnmfhadmkgndmaaGreatDoorRen
import Derived.Test.YtnmfhadmkgndmaaGreatDoorGnw
set_option linter.unusedVariables false
namespace Go.Proofs.YtnmfhadmkgndmaaGreatDoor
open Go.RowKit

/-- Bytes of a length, and a number. -/
def GaveBL (w : World) (xs : Bytes) (l : Nat) (z : Int) (e : Ending) (w' : World) : Prop := ∃ A c, e = .returned (.tuple #[.slice A l c, .int .i64 z]) ∧ Src w' (.slice A l c) xs ∧ Only (w.heap.size ≤ ·) w w'
theorem GaveBE.long {w w' : World} {xs : Bytes} {l : Nat} {z : Int} {e : Ending} (h : GaveBE w xs z e w') (hl : xs.length = l) : GaveBL w xs l z e w' := by
  obtain ⟨v, e1, hs, ho⟩ := h
  have hs2 := hs
  obtain ⟨A, c, e2, _⟩ := hs2
  rw [hl] at e2
  subst e2
  exact ⟨A, c, e1, hs, ho⟩
section
variable (hal : ∀ W, Gens W → Calls Tryz.prog 5 #[] W (Told W (.bool true))) (w : World) (g : Int) (A B : Option Addr) (n c m d : Nat) (y : Nd) (hG : Gens w)
include hal hG
set_option maxRecDepth 100000 in
set_option maxHeartbeats 6400000 in
theorem encs_out (f : Bool) (hc : 60 < n ∨ 60 < m) : Calls Tryz.prog 3 #[.int .i64 g, .agg #[.bool f, .slice A n c, .slice B m d]] w (Told w (.bool true)) := by
  have HAL : Hid (∀ W, Only (w.heap.size ≤ ·) w W → Calls Tryz.prog 5 #[] W (Told W (.bool true))) := Lib.hid fun W hW => hal W (hG.later hW)
  have HO : Hid (Only (w.heap.size ≤ ·) w (w.alloc (.cells #[.bool f, .slice A n c, .slice B m d] 25))) := Lib.hid ((Only.refl _ w).alloc (fun _ h => h) _)
  clear hG hal
  by_cases h2 : 60 < n
  · have h2i : (60 : Int) < (n : Int) := by omega
    clear hc
    go_enter Tryz.func3, Tryz.ntmps3
    go_wp2_with (go_at_call 5; (with_reducible refine (HAL.out _ HO.out).mono ?_); rintro ee w2 ⟨rfl, ho⟩; (replace HO := Lib.hid (on_new HO.out ho)); clear ho)
    go_ret
    exact ⟨rfl, HO.out⟩
  have h3i : (60 : Int) < (m : Int) := by omega
  have h2i : ¬ (60 : Int) < (n : Int) := by omega
  clear hc
  go_enter Tryz.func3, Tryz.ntmps3
  go_wp2_with (go_at_call 5; (with_reducible refine (HAL.out _ HO.out).mono ?_); rintro ee w2 ⟨rfl, ho⟩; (replace HO := Lib.hid (on_new HO.out ho)); clear ho)
  go_ret
  exact ⟨rfl, HO.out⟩
set_option maxRecDepth 100000 in
set_option maxHeartbeats 12800000 in
theorem encs_no (hN : Nod w y y.leaf (.slice A n c) (.slice B m d)) (hn : n ≤ 60) (hm : m ≤ 60) (P : Bytes)
    (hE : ∀ W A n c B m d, Only (w.heap.size ≤ ·) w W → Nod W y y.leaf (.slice A n c) (.slice B m d) → Calls Tryz.prog 6 #[.int .i64 g, .agg #[.bool y.leaf, .slice A n c, .slice B m d]] W (GaveBL W P 0 73))
    (hR : ∀ W, Only (w.heap.size ≤ ·) w W → Calls Tryz.prog 8 #[.int .i64 g, .agg #[.bool y.leaf, .slice A n c, .slice B m d]] W (GaveBL W P 0 73)) : Calls Tryz.prog 3 #[.int .i64 g, .agg #[.bool y.leaf, .slice A n c, .slice B m d]] w (Told w (.bool true)) := by
  have HAL : Hid (∀ W, Only (w.heap.size ≤ ·) w W → Calls Tryz.prog 5 #[] W (Told W (.bool true))) := Lib.hid fun W hW => hal W (hG.later hW)
  obtain ⟨w1, hw1⟩ : ∃ w1, w1 = w.alloc (.cells #[.bool y.leaf, .slice A n c, .slice B m d] 25) := ⟨_, rfl⟩
  have HO : Hid (Only (w.heap.size ≤ ·) w w1) := Lib.hid (by rw [hw1]; exact (Only.refl _ w).alloc (fun _ h => h) _)
  have HB : Hid (Blk w1 w.heap.size 25 [.bool y.leaf, .slice A n c, .slice B m d]) := Lib.hid (by rw [hw1]; exact Blk.new w 25 _)
  have HOF : Hid (∀ W, Only (w.heap.size ≤ ·) w W → Calls Tryz.prog 7 #[.agg #[.bool y.leaf, .slice A n c, .slice B m d]] W (GaveN W y)) := Lib.hid fun W hW => NOf_c W A B n c m d y.leaf y (hN.later hW) ⟨by rw [← hN.2.1.len]; omega, by rw [← hN.2.2.len]; omega, trivial⟩
  have HE := Lib.hid hE
  have HR := Lib.hid hR
  have HN := Lib.hid hN
  have h2i : ¬ (60 : Int) < (n : Int) := by omega
  have h3i : ¬ (60 : Int) < (m : Int) := by omega
  obtain ⟨i0, i1, i2⟩ := HB.out.tri
  clear hN hn hm hE hR hG hal
  go_enter Tryz.func3, Tryz.ntmps3
  go_upto_region 1 with (fail)
  rw [← hw1]
  clear hw1
  go_wp2_with (first
    | (go_at_call 7; (with_reducible refine (HOF.out _ HO.out).mono ?_); rintro ee w2 ⟨A2, n2, c2, B2, m2, d2, rfl, hn2, ho⟩; have HN2 := Lib.hid hn2; (replace HB := Lib.hid (HB.out.later ho)); (replace HO := Lib.hid (on_new HO.out ho)); clear ho hn2; clear i0 i1 i2; (obtain ⟨i0, i1, i2⟩ := HB.out.tri))
    | (go_at_call 6; (with_reducible refine (HE.out _ _ _ _ _ _ _ HO.out HN2.out).mono ?_); rintro ee w3 ⟨V1, q1, rfl, hs1, ho⟩; have HS1 := Lib.hid hs1; (replace HB := Lib.hid (HB.out.later ho)); (replace HO := Lib.hid (on_new HO.out ho)); clear ho hs1; clear i0 i1 i2; (obtain ⟨i0, i1, i2⟩ := HB.out.tri))
    | (go_at_call 8; (with_reducible refine (HR.out _ HO.out).mono ?_); rintro ee w3 ⟨V2, q2, rfl, hs2, ho⟩; have HS2 := Lib.hid hs2; (replace HS1 := Lib.hid (HS1.out.later ho)); (replace HB := Lib.hid (HB.out.later ho)); (replace HO := Lib.hid (on_new HO.out ho)); clear ho hs2; clear i0 i1 i2; (obtain ⟨i0, i1, i2⟩ := HB.out.tri))
    | (go_at_call 9; (with_reducible refine (Equal_b _ _ _ P P true HS1.out HS2.out (by simp)).mono ?_); rintro ee w' ⟨rfl, rfl⟩)
    | (go_at_call 5; (with_reducible refine (HAL.out _ HO.out).mono ?_); rintro ee w5 ⟨rfl, ho⟩; (replace HO := Lib.hid (on_new HO.out ho)); clear ho))
  go_ret
  exact ⟨rfl, HO.out⟩
set_option maxRecDepth 100000 in
set_option maxHeartbeats 12800000 in
theorem encs_yes (hN : Nod w y y.leaf (.slice A n c) (.slice B m d)) (hn : n ≤ 60) (hm : m ≤ 60) (P : Bytes)
    (hE : ∀ W A n c B m d, Only (w.heap.size ≤ ·) w W → Nod W y y.leaf (.slice A n c) (.slice B m d) → Calls Tryz.prog 6 #[.int .i64 g, .agg #[.bool y.leaf, .slice A n c, .slice B m d]] W (GaveBL W P 256 0))
    (hR : ∀ W, Only (w.heap.size ≤ ·) w W → Calls Tryz.prog 8 #[.int .i64 g, .agg #[.bool y.leaf, .slice A n c, .slice B m d]] W (GaveBL W P 256 0))
    (hD : ∀ W v, Only (w.heap.size ≤ ·) w W → Src W v P → Calls Tryz.prog 10 #[v] W (fun e w' => ∃ A n c B m d, e = .returned (.tuple #[.int .i64 g, .agg #[.bool y.leaf, .slice A n c, .slice B m d], .int .i64 0]) ∧ Nod w' y y.leaf (.slice A n c) (.slice B m d) ∧ Only (W.heap.size ≤ ·) W w')) :
    Calls Tryz.prog 3 #[.int .i64 g, .agg #[.bool y.leaf, .slice A n c, .slice B m d]] w (Told w (.bool true)) := by
  have HD := Lib.hid hD
  have HNL : Hid (n ≤ 1000 ∧ m ≤ 1000) := Lib.hid (by omega)
  have HSM : Hid (y.its.length ≤ 1000 ∧ y.kds.length ≤ 1000 ∧ True) := Lib.hid ⟨by rw [← hN.2.1.len]; omega, by rw [← hN.2.2.len]; omega, trivial⟩
  have HAL : Hid (∀ W, Only (w.heap.size ≤ ·) w W → Calls Tryz.prog 5 #[] W (Told W (.bool true))) := Lib.hid fun W hW => hal W (hG.later hW)
  obtain ⟨w1, hw1⟩ : ∃ w1, w1 = w.alloc (.cells #[.bool y.leaf, .slice A n c, .slice B m d] 25) := ⟨_, rfl⟩
  have HO : Hid (Only (w.heap.size ≤ ·) w w1) := Lib.hid (by rw [hw1]; exact (Only.refl _ w).alloc (fun _ h => h) _)
  have HB : Hid (Blk w1 w.heap.size 25 [.bool y.leaf, .slice A n c, .slice B m d]) := Lib.hid (by rw [hw1]; exact Blk.new w 25 _)
  have HOF : Hid (∀ W, Only (w.heap.size ≤ ·) w W → Calls Tryz.prog 7 #[.agg #[.bool y.leaf, .slice A n c, .slice B m d]] W (GaveN W y)) := Lib.hid fun W hW => NOf_c W A B n c m d y.leaf y (hN.later hW) ⟨by rw [← hN.2.1.len]; omega, by rw [← hN.2.2.len]; omega, trivial⟩
  have HE := Lib.hid hE
  have HR := Lib.hid hR
  have HN := Lib.hid hN
  have h2i : ¬ (60 : Int) < (n : Int) := by omega
  have h3i : ¬ (60 : Int) < (m : Int) := by omega
  obtain ⟨i0, i1, i2⟩ := HB.out.tri
  clear hN hn hm hE hR hD hG hal
  go_enter Tryz.func3, Tryz.ntmps3
  go_upto_region 1 with (fail)
  rw [← hw1]
  clear hw1
  go_upto_region 10 with (first
    | (go_at_call 7; (with_reducible refine (HOF.out _ HO.out).mono ?_); rintro ee w2 ⟨A2, n2, c2, B2, m2, d2, rfl, hn2, ho⟩; have HN2 := Lib.hid hn2; (replace HB := Lib.hid (HB.out.later ho)); (replace HO := Lib.hid (on_new HO.out ho)); clear ho hn2; clear i0 i1 i2; (obtain ⟨i0, i1, i2⟩ := HB.out.tri))
    | (go_at_call 6; (with_reducible refine (HE.out _ _ _ _ _ _ _ HO.out HN2.out).mono ?_); rintro ee w3 ⟨V1, q1, rfl, hs1, ho⟩; have HS1 := Lib.hid hs1; (replace HB := Lib.hid (HB.out.later ho)); (replace HO := Lib.hid (on_new HO.out ho)); clear ho hs1; clear i0 i1 i2; (obtain ⟨i0, i1, i2⟩ := HB.out.tri))
    | (go_at_call 8; (with_reducible refine (HR.out _ HO.out).mono ?_); rintro ee w3 ⟨V2, q2, rfl, hs2, ho⟩; have HS2 := Lib.hid hs2; (replace HS1 := Lib.hid (HS1.out.later ho)); (replace HB := Lib.hid (HB.out.later ho)); (replace HO := Lib.hid (on_new HO.out ho)); clear ho hs2; clear i0 i1 i2; (obtain ⟨i0, i1, i2⟩ := HB.out.tri))
    | (go_at_call 9; (with_reducible refine (Equal_b _ _ _ P P true HS1.out HS2.out (by simp)).mono ?_); rintro ee w' ⟨rfl, rfl⟩)
    | (go_at_call 10; (with_reducible refine (HD.out _ _ HO.out HS1.out).mono ?_); rintro ee w6 ⟨A3, n3, c3, B3, m3, d3, rfl, hn3, ho⟩; have HN3 := Lib.hid (hn3.later ((Only.refl (w6.heap.size ≤ ·) w6).alloc (fun _ h => h) (.cells #[.bool y.leaf, .slice A3 n3 c3, .slice B3 m3 d3] 34))); have HB3 := Lib.hid (Blk.new w6 34 [.bool y.leaf, .slice A3 n3 c3, .slice B3 m3 d3]); have ho2 := ho.alloc (fun _ h => h) (.cells #[.bool y.leaf, .slice A3 n3 c3, .slice B3 m3 d3] 34); (replace HB := Lib.hid (HB.out.later ho2)); (replace HO := Lib.hid (on_new HO.out ho2)); clear ho ho2 hn3 i0 i1 i2))
  replace HB := Lib.hid HB.out.drew
  replace HB3 := Lib.hid HB3.out.drew
  replace HO := Lib.hid HO.out.drew
  replace HN3 := Lib.hid (HN3.out.later (Only.refl _ _).drew)
  refine wp_region_list (B := [false, false, false, false, false, false, false, false, false, false, false, false, false, false, false, false, false, false, false, false, false, false]) (S := (fun W => W.cell? ⟨w.heap.size, 0, none⟩ = some (.bool y.leaf) ∧ W.cell? ⟨w.heap.size, 1, none⟩ = some (.slice A n c) ∧ W.cell? ⟨w.heap.size, 2, none⟩ = some (.slice B m d) ∧ W.cell? ⟨w6.heap.size, 0, none⟩ = some (.bool y.leaf) ∧ W.cell? ⟨w6.heap.size, 1, none⟩ = some (.slice A3 n3 c3) ∧ W.cell? ⟨w6.heap.size, 2, none⟩ = some (.slice B3 m3 d3))) (by kernel_rfl) (by kernel_rfl) (by kernel_rfl) ⟨HB.out.tri.1, HB.out.tri.2.1, HB.out.tri.2.2, HB3.out.tri.1, HB3.out.tri.2.1, HB3.out.tri.2.2⟩ (fun hsel hHeld => ?_)
  generalize hwz : World.drew _ = wz at HB HB3 HO HN3 hHeld ⊢
  clear hwz
  have HOZ := Lib.hid (Only.refl (wz.heap.size ≤ ·) wz)
  have KC : Hid (∀ W, Only (wz.heap.size ≤ ·) wz W → W.cell? ⟨w.heap.size, 0, none⟩ = some (.bool y.leaf) ∧ W.cell? ⟨w.heap.size, 1, none⟩ = some (.slice A n c) ∧ W.cell? ⟨w.heap.size, 2, none⟩ = some (.slice B m d) ∧ W.cell? ⟨w6.heap.size, 0, none⟩ = some (.bool y.leaf) ∧ W.cell? ⟨w6.heap.size, 1, none⟩ = some (.slice A3 n3 c3) ∧ W.cell? ⟨w6.heap.size, 2, none⟩ = some (.slice B3 m3 d3)) := Lib.hid fun W hW => ⟨(HB.out.later hW).tri.1, (HB.out.later hW).tri.2.1, (HB.out.later hW).tri.2.2, (HB3.out.later hW).tri.1, (HB3.out.later hW).tri.2.1, (HB3.out.later hW).tri.2.2⟩
  refine wpAnyL_ready (rs := [0]) (by kernel_rfl) (by kernel_rfl) (by simp) ?_
  refine AllReadyL.cons (o := ?_) ?_ (fun K hK => ?_) AllReadyL.nil
  case refine_2 => (simp only [List.getElem?_cons_zero]; rfl)
  go_simp
  (go_at_call 5; (with_reducible refine (HAL.out _ (on_new HO.out HOZ.out)).mono ?_); rintro ee w8 ⟨rfl, ho⟩; (replace HOZ := Lib.hid (on_new HOZ.out ho)); clear ho)
  go_wp2_with (fail)
  clear hHeld
  refine hK.out _ _ (KC.out _ HOZ.out) (fun hHeld => ?_)
  clear hK K
  try simp only [List.set_cons_zero]
  refine take_oneL (i := 1) (d := 60) (oi := ?_) (v := ?_) ?_ hsel (by kernel_rfl) (by kernel_rfl) (fun _ _ _ h => h) ?_ ?_ ?_ (by assumption) ?_
  case refine_3 => (simp only [List.getElem?_cons_succ, List.getElem?_cons_zero]; rfl)
  case refine_4 => rfl
  case refine_5 => rfl
  case refine_6 => (intro w' hSw; (try dsimp only at hSw); go_simp; (try with_reducible rfl))
  simp only [Act.put, List.setIfInBounds_toArray, List.set_cons_zero, List.set_cons_succ]
  refine take_oneL (i := 2) (d := 61) (oi := ?_) (v := ?_) ?_ hsel (by kernel_rfl) (by kernel_rfl) (fun _ _ _ h => h) ?_ ?_ ?_ (by assumption) ?_
  case refine_3 => (simp only [List.getElem?_cons_succ, List.getElem?_cons_zero]; rfl)
  case refine_4 => rfl
  case refine_5 => rfl
  case refine_6 => (intro w' hSw; (try dsimp only at hSw); go_simp; (try with_reducible rfl))
  simp only [Act.put, List.setIfInBounds_toArray, List.set_cons_zero, List.set_cons_succ]
  refine take_oneL (i := 3) (d := 62) (oi := ?_) (v := ?_) ?_ hsel (by kernel_rfl) (by kernel_rfl) (fun _ _ _ h => h) ?_ ?_ ?_ (by assumption) ?_
  case refine_3 => (simp only [List.getElem?_cons_succ, List.getElem?_cons_zero]; rfl)
  case refine_4 => rfl
  case refine_5 => rfl
  case refine_6 => (intro w' hSw; (try dsimp only at hSw); go_simp; (try with_reducible rfl))
  simp only [Act.put, List.setIfInBounds_toArray, List.set_cons_zero, List.set_cons_succ]
  refine take_oneL (i := 4) (d := 63) (oi := ?_) (v := ?_) ?_ hsel (by kernel_rfl) (by kernel_rfl) (fun _ _ _ h => h) ?_ ?_ ?_ (by assumption) ?_
  case refine_3 => (simp only [List.getElem?_cons_succ, List.getElem?_cons_zero]; rfl)
  case refine_4 => rfl
  case refine_5 => rfl
  case refine_6 => (intro w' hSw; (try dsimp only at hSw); go_simp; (try with_reducible rfl))
  simp only [Act.put, List.setIfInBounds_toArray, List.set_cons_zero, List.set_cons_succ]
  refine take_oneL (i := 5) (d := 64) (oi := ?_) (v := ?_) ?_ hsel (by kernel_rfl) (by kernel_rfl) (fun _ _ _ h => h) ?_ ?_ ?_ (by assumption) ?_
  case refine_3 => (simp only [List.getElem?_cons_succ, List.getElem?_cons_zero]; rfl)
  case refine_4 => rfl
  case refine_5 => rfl
  case refine_6 => (intro w' hSw; (try dsimp only at hSw); go_simp; (try with_reducible rfl))
  simp only [Act.put, List.setIfInBounds_toArray, List.set_cons_zero, List.set_cons_succ]
  refine take_oneL (i := 6) (d := 65) (oi := ?_) (v := ?_) ?_ hsel (by kernel_rfl) (by kernel_rfl) (fun _ _ _ h => h) ?_ ?_ ?_ (by assumption) ?_
  case refine_3 => (simp only [List.getElem?_cons_succ, List.getElem?_cons_zero]; rfl)
  case refine_4 => rfl
  case refine_5 => rfl
  case refine_6 => (intro w' hSw; (try dsimp only at hSw); go_simp; (try with_reducible rfl))
  simp only [Act.put, List.setIfInBounds_toArray, List.set_cons_zero, List.set_cons_succ]
  refine take_oneL (i := 7) (d := 66) (oi := ?_) (v := ?_) ?_ hsel (by kernel_rfl) (by kernel_rfl) (fun _ _ _ h => h) ?_ ?_ ?_ (by assumption) ?_
  case refine_3 => (simp only [List.getElem?_cons_succ, List.getElem?_cons_zero]; rfl)
  case refine_4 => rfl
  case refine_5 => rfl
  case refine_6 => (intro w' hSw; (try dsimp only at hSw); go_simp; (try with_reducible rfl))
  simp only [Act.put, List.setIfInBounds_toArray, List.set_cons_zero, List.set_cons_succ]
  refine take_oneL (i := 8) (d := 67) (oi := ?_) (v := ?_) ?_ hsel (by kernel_rfl) (by kernel_rfl) (fun _ _ _ h => h) ?_ ?_ ?_ (by assumption) ?_
  case refine_3 => (simp only [List.getElem?_cons_succ, List.getElem?_cons_zero]; rfl)
  case refine_4 => rfl
  case refine_5 => rfl
  case refine_6 => (intro w' hSw; (try dsimp only at hSw); go_simp; (try with_reducible rfl))
  simp only [Act.put, List.setIfInBounds_toArray, List.set_cons_zero, List.set_cons_succ]
  refine take_oneL (i := 9) (d := 68) (oi := ?_) (v := ?_) ?_ hsel (by kernel_rfl) (by kernel_rfl) (fun _ _ _ h => h) ?_ ?_ ?_ (by assumption) ?_
  case refine_3 => (simp only [List.getElem?_cons_succ, List.getElem?_cons_zero]; rfl)
  case refine_4 => rfl
  case refine_5 => rfl
  case refine_6 => (intro w' hSw; (try dsimp only at hSw); go_simp; (try with_reducible rfl))
  simp only [Act.put, List.setIfInBounds_toArray, List.set_cons_zero, List.set_cons_succ]
  refine take_oneL (i := 10) (d := 69) (oi := ?_) (v := ?_) ?_ hsel (by kernel_rfl) (by kernel_rfl) (fun _ _ _ h => h) ?_ ?_ ?_ (by assumption) ?_
  case refine_3 => (simp only [List.getElem?_cons_succ, List.getElem?_cons_zero]; rfl)
  case refine_4 => rfl
  case refine_5 => rfl
  case refine_6 => (intro w' hSw; (try dsimp only at hSw); go_simp; (try with_reducible rfl))
  simp only [Act.put, List.setIfInBounds_toArray, List.set_cons_zero, List.set_cons_succ]
  refine take_oneL (i := 11) (d := 70) (oi := ?_) (v := ?_) ?_ hsel (by kernel_rfl) (by kernel_rfl) (fun _ _ _ h => h) ?_ ?_ ?_ (by assumption) ?_
  case refine_3 => (simp only [List.getElem?_cons_succ, List.getElem?_cons_zero]; rfl)
  case refine_4 => rfl
  case refine_5 => rfl
  case refine_6 => (intro w' hSw; (try dsimp only at hSw); go_simp; (try with_reducible rfl))
  simp only [Act.put, List.setIfInBounds_toArray, List.set_cons_zero, List.set_cons_succ]
  refine take_oneL (i := 12) (d := 71) (oi := ?_) (v := ?_) ?_ hsel (by kernel_rfl) (by kernel_rfl) (fun _ _ _ h => h) ?_ ?_ ?_ (by assumption) ?_
  case refine_3 => (simp only [List.getElem?_cons_succ, List.getElem?_cons_zero]; rfl)
  case refine_4 => rfl
  case refine_5 => rfl
  case refine_6 => (intro w' hSw; (try dsimp only at hSw); go_simp; (try with_reducible rfl))
  simp only [Act.put, List.setIfInBounds_toArray, List.set_cons_zero, List.set_cons_succ]
  refine take_oneL (i := 13) (d := 72) (oi := ?_) (v := ?_) ?_ hsel (by kernel_rfl) (by kernel_rfl) (fun _ _ _ h => h) ?_ ?_ ?_ (by assumption) ?_
  case refine_3 => (simp only [List.getElem?_cons_succ, List.getElem?_cons_zero]; rfl)
  case refine_4 => rfl
  case refine_5 => rfl
  case refine_6 => (intro w' hSw; (try dsimp only at hSw); go_simp; (try with_reducible rfl))
  simp only [Act.put, List.setIfInBounds_toArray, List.set_cons_zero, List.set_cons_succ]
  refine take_oneL (i := 14) (d := 73) (oi := ?_) (v := ?_) ?_ hsel (by kernel_rfl) (by kernel_rfl) (fun _ _ _ h => h) ?_ ?_ ?_ (by assumption) ?_
  case refine_3 => (simp only [List.getElem?_cons_succ, List.getElem?_cons_zero]; rfl)
  case refine_4 => rfl
  case refine_5 => rfl
  case refine_6 => (intro w' hSw; (try dsimp only at hSw); go_simp; (try with_reducible rfl))
  simp only [Act.put, List.setIfInBounds_toArray, List.set_cons_zero, List.set_cons_succ]
  refine take_oneL (i := 15) (d := 74) (oi := ?_) (v := ?_) ?_ hsel (by kernel_rfl) (by kernel_rfl) (fun _ _ _ h => h) ?_ ?_ ?_ (by assumption) ?_
  case refine_3 => (simp only [List.getElem?_cons_succ, List.getElem?_cons_zero]; rfl)
  case refine_4 => rfl
  case refine_5 => rfl
  case refine_6 => (intro w' hSw; (try dsimp only at hSw); go_simp; (try with_reducible rfl))
  simp only [Act.put, List.setIfInBounds_toArray, List.set_cons_zero, List.set_cons_succ]
  refine take_oneL (i := 16) (d := 75) (oi := ?_) (v := ?_) ?_ hsel (by kernel_rfl) (by kernel_rfl) (fun _ _ _ h => h) ?_ ?_ ?_ (by assumption) ?_
  case refine_3 => (simp only [List.getElem?_cons_succ, List.getElem?_cons_zero]; rfl)
  case refine_4 => rfl
  case refine_5 => rfl
  case refine_6 => (intro w' hSw; (try dsimp only at hSw); go_simp; (try with_reducible rfl))
  simp only [Act.put, List.setIfInBounds_toArray, List.set_cons_zero, List.set_cons_succ]
  refine take_oneL (i := 18) (d := 77) (oi := ?_) (v := ?_) ?_ hsel (by kernel_rfl) (by kernel_rfl) (fun _ _ _ h => h) ?_ ?_ ?_ (by assumption) ?_
  case refine_3 => (simp only [List.getElem?_cons_succ, List.getElem?_cons_zero]; rfl)
  case refine_4 => rfl
  case refine_5 => rfl
  case refine_6 => (intro w' hSw; (try dsimp only at hSw); go_simp; (try with_reducible rfl))
  simp only [Act.put, List.setIfInBounds_toArray, List.set_cons_zero, List.set_cons_succ]
  refine wpAnyL_ready (rs := [17]) (by kernel_rfl) (by kernel_rfl) (by simp) ?_
  refine AllReadyL.cons (o := ?_) ?_ (fun K hK => ?_) AllReadyL.nil
  case refine_2 => (simp only [List.getElem?_cons_succ, List.getElem?_cons_zero]; rfl)
  go_simp
  (go_at_call 12; (with_reducible refine (NOld_c _ A3 B3 n3 c3 m3 d3 y.leaf y (HN3.out.later HOZ.out) HSM.out).mono ?_); rintro ee w9 ⟨A5, n5, c5, B5, m5, d5, rfl, hn5, ho⟩; have HN5 := Lib.hid hn5; (replace HOZ := Lib.hid (on_new HOZ.out ho)); clear ho hn5)
  go_wp2_with (fail)
  clear hHeld
  refine hK.out _ _ (KC.out _ HOZ.out) (fun hHeld => ?_)
  clear hK K
  try simp only [List.set_cons_zero, List.set_cons_succ]
  refine wpAnyL_ready (rs := [19]) (by kernel_rfl) (by kernel_rfl) (by simp) ?_
  refine AllReadyL.cons (o := ?_) ?_ (fun K hK => ?_) AllReadyL.nil
  case refine_2 => (simp only [List.getElem?_cons_succ, List.getElem?_cons_zero]; rfl)
  go_simp
  (obtain rfl : n5 = n := by rw [HN5.out.2.1.len, HN.out.2.1.len])
  (obtain rfl : m5 = m := by rw [HN5.out.2.2.len, HN.out.2.2.len])
  (go_at_call 11; (with_reducible refine (DSame_eq _ y.leaf A5 B5 A B _ c5 _ d5 c d y HN5.out ((HN.out.later HO.out).later HOZ.out) HNL.out.1 HNL.out.2).mono ?_); rintro ee w10 ⟨rfl, ho⟩; (replace HOZ := Lib.hid (on_new HOZ.out ho)); clear ho)
  go_wp2_with (fail)
  clear hHeld
  refine hK.out _ _ (KC.out _ HOZ.out) (fun hHeld => ?_)
  clear hK K
  try simp only [List.set_cons_zero, List.set_cons_succ]
  refine take_oneL (i := 20) (d := 79) (oi := ?_) (v := ?_) ?_ hsel (by kernel_rfl) (by kernel_rfl) (fun _ _ _ h => h) ?_ ?_ ?_ (by assumption) ?_
  case refine_3 => (simp only [List.getElem?_cons_succ, List.getElem?_cons_zero]; rfl)
  case refine_4 => rfl
  case refine_5 => rfl
  case refine_6 => (intro w' hSw; (try dsimp only at hSw); go_simp; (try with_reducible rfl))
  simp only [Act.put, List.setIfInBounds_toArray, List.set_cons_zero, List.set_cons_succ]
  refine take_oneL (i := 21) (d := 4) (oi := ?_) (v := ?_) ?_ hsel (by kernel_rfl) (by kernel_rfl) (fun _ _ _ h => h) ?_ ?_ ?_ (by assumption) ?_
  case refine_3 => (simp only [List.getElem?_cons_succ, List.getElem?_cons_zero]; rfl)
  case refine_4 => rfl
  case refine_5 => rfl
  case refine_6 => (intro w' hSw; (try dsimp only at hSw); go_simp; (try with_reducible rfl))
  simp only [Act.put, List.setIfInBounds_toArray, List.set_cons_zero, List.set_cons_succ]
  refine wpAnyL_done (by kernel_rfl) (by kernel_rfl) ?_ _
  clear hsel hHeld
  go_wp2
  go_ret
  exact ⟨rfl, on_new HO.out HOZ.out⟩
end
theorem page_long {k : Nat} {x : Nd} (h : RightN (k : Int) x ∧ anyU x.its = false) (h1 : x.its.length ≤ 1000) (h2 : x.kds.length ≤ 1000) : (pageB (k : Int) x).length = 256 := (page_back h.1 h.2 h1 h2).2.2.2
theorem encs_c (hal : ∀ W, Gens W → Calls Tryz.prog 5 #[] W (Told W (.bool true))) (w : World) (g : Int) (f : Bool) (A B : Option Addr) (n c m d : Nat) (y : Nd) (hN : Nod w y f (.slice A n c) (.slice B m d)) (hG : Gens w) :
    Calls Tryz.prog 3 #[.int .i64 g, .agg #[.bool f, .slice A n c, .slice B m d]] w (Told w (.bool true)) := by
  by_cases hc : 60 < n ∨ 60 < m
  · exact encs_out hal w g A B n c m d hG f hc
  obtain rfl : f = y.leaf := hN.1
  have l1 : y.its.length ≤ 60 := by rw [← hN.2.1.len]; omega
  have l2 : y.kds.length ≤ 60 := by rw [← hN.2.2.len]; omega
  by_cases h1 : RightN g y ∧ anyU y.its = false
  · obtain ⟨k, rfl, _⟩ := h1.1.nat
    have hl := page_long h1 (by omega) (by omega)
    refine encs_yes hal w k A B n c m d y hG hN (by omega) (by omega) (pageB (k : Int) y) (fun W A n c B m d hW hN => (Encode_y W k A B n c m d y.leaf y hN (hG.later hW) (by rw [hN.2.1.len]; omega) (by rw [hN.2.2.len]; omega) h1).mono fun e w' h => GaveBE.long h hl)
      (fun W hW => (rEncode_c W k A B n c m d y.leaf y (hN.later hW) (by omega) (by omega)).mono fun e w' ⟨b, hb, h⟩ => ?_) (fun W v hW hs => Decode_y W v k y (hG.later hW) hs h1 (by omega) (by omega))
    obtain rfl := hb.2 h1
    rw [if_pos rfl, if_pos rfl] at h
    exact GaveBE.long h hl
  · refine encs_no hal w g A B n c m d y hG hN (by omega) (by omega) [] (fun W A n c B m d hW hN => (Encode_n W g A B n c m d y.leaf y hN (hG.later hW) (by rw [hN.2.1.len]; omega) (by rw [hN.2.2.len]; omega) h1).mono fun e w' h => GaveBE.long h rfl)
      (fun W hW => (rEncode_c W g A B n c m d y.leaf y (hN.later hW) (by omega) (by omega)).mono fun e w' ⟨b, hb, h⟩ => ?_)
    cases b
    · exact GaveBE.long h rfl
    · exact absurd (hb.1 rfl) h1
end Go.Proofs.YtnmfhadmkgndmaaGreatDoor
