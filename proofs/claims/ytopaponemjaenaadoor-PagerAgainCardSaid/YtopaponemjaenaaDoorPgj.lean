/-
  PagerAgain: what it leans on.
-/
import Derived.Test.YtopaponemjaenaaDoorPgdb
set_option linter.unusedVariables false
namespace Go.Proofs.YtopaponemjaenaaDoor
open Go.RowKit

def boE : El Bool where
  z := 1
  At w x cs := cs = [.bool x]
  len := fun e => by rw [e]; rfl
  one := fun e u hu => by
    rw [e] at hu
    simp at hu
    rw [hu]
    rfl
  later := fun e _ => e
theorem Arm_d (w : World) (p : Nat) (d : Dk.Dsk) (D : Nat → Prop) (h : DAt w p d D) (n : Int) (hn : n ≤ 9223372036854775807) :
    Calls Tryd.prog 24 #[.pointer (some ⟨p, 0, none⟩), .int .i64 n] w fun e w' => e = .returned (.tuple #[]) ∧ DGave w w' p (d.arm n) D := by
  refine (Dk.Arm_c w (fun k => D k ∨ w.heap.size ≤ k) p d h.grown n hn).mono ?_
  rintro e w' ⟨rfl, h1, h2⟩
  exact ⟨rfl, .mk h1 h2⟩
theorem Crash_d (w : World) (p : Nat) (d : Dk.Dsk) (D : Nat → Prop) (h : DAt w p d D) (hr : d.row.length ≤ 4294967296) (A : Option Addr) (n c : Nat) (kl : List Bool) (hs : Rw boE w (.slice A n c) kl) (hoff : ∀ ad, A = some ad → 0 < n → ¬ D ad.block) (hn : n ≤ 1000) :
    Calls Tryd.prog 25 #[.pointer (some ⟨p, 0, none⟩), .slice A n c] w fun e w' => e = .returned (.tuple #[]) ∧ DGave w w' p (d.crash kl) D := by
  have hl := hs.len
  refine (Dk.Crash_c w (fun k => D k ∨ w.heap.size ≤ k) (fun k hk => .inr hk) p d h.grown hr A c n kl hl.symm (fun h0 => ?_) (by omega)).mono ?_
  · obtain ⟨b, off, x, cs, e, hb, hx, _, hc⟩ := Rw.at_ (E := boE) (by decide) hs (k := 0) (by omega)
    refine ⟨_, e, fun hk => hk.elim (hoff _ e (by omega)) (fun h1 => by have h2 : w.heap.size ≤ b := h1; omega), fun j y hy => ?_⟩
    have hj := (List.getElem?_eq_some_iff.1 hy).1
    obtain ⟨b', off', x', cs', e', _, hx', hcs, hc'⟩ := Rw.at_ (E := boE) (by decide) hs (k := j) (by omega)
    rw [e] at e'
    simp only [Option.some.injEq, Addr.mk.injEq, and_true] at e'
    obtain ⟨rfl, rfl⟩ := e'
    rw [hy] at hx'
    cases hx'
    have hcs' : cs' = [.bool y] := hcs
    have h3 : w.cell? ⟨b, off + j * 1 + 0, none⟩ = some (.bool y) := hc' 0 (.bool y) (by rw [hcs']; rfl)
    rw [Nat.mul_one, Nat.add_zero] at h3
    rw [Addr.add_lit]
    exact h3
  · rintro e w' ⟨rfl, h1, h2⟩
    exact ⟨rfl, .mk h1 h2⟩
theorem srw_nil {D : Nat → Prop} {w : World} : SRw wrE D w (.slice none 0 0) [] := ⟨[], fun W hW => ⟨rfl, none, 0, rfl, rfl, Raw.nil_ _ _, fun _ => rfl, Nat.le_refl _, by decide, fun u hu => by cases hu⟩⟩
set_option maxRecDepth 100000 in
set_option maxHeartbeats 25600000 in
theorem pagain_early (w : World) (hG : Gens w) (g ph t x r p l : Int) (A : Option Addr) (n c : Nat) (IA : Option Addr) (im ic : Nat) (g' ph' t' x2 r' p' l' : Int) (BA : Option Addr) (m e : Nat) (fz : Int) (KA : Option Addr) (kn kc : Nat) (RA : Option Addr) (rn rc : Nat) (ws : List Wt) (RB : Option Addr) (sn sc : Nat) (vs : List Wt) (h : Wts w (.slice RA rn rc) ws) (h' : Wts w (.slice RB sn sc) vs) (hsum : ∀ y ∈ ws, y.2.length ≤ 140737488355328) (hsum' : ∀ y ∈ vs, y.2.length ≤ 140737488355328) (hI : ∀ y ∈ ws, I64v y.1) (hI' : ∀ y ∈ vs, I64v y.1) (x1 : Int) (hx2 : wrap64 (x + 1) = x1) (hc : fewP ws p' m = false ∨ fewP vs p' m = false ∨ fewP [] p n = false ∨ x < 2 ∨ 200 < (kn : Int) ∨ 1000 < fz ∨ pgRight (okM g' ph' t' x1 r' p' l' m) p' ws = false ∨ pgRight (okM g ph t x r p l n) p [] = false) : Calls Tryd.prog 6 #[.agg #[.int .i64 g, .int .i64 ph, .int .i64 t, .int .i64 x, .int .i64 r, .int .i64 p, .int .i64 l, .slice A n c], .agg #[.slice RA rn rc, .slice RB sn sc], .agg #[.slice IA im ic, .int .i64 g', .int .i64 ph', .int .i64 t', .int .i64 x2, .int .i64 r', .int .i64 p', .int .i64 l', .slice BA m e, .int .i64 fz, .slice KA kn kc]] w (Told w (.bool true)) := by
  obtain ⟨f1, hf1⟩ : ∃ z, fewP ws p' m = z := ⟨_, rfl⟩
  obtain ⟨f2, hf2⟩ : ∃ z, fewP vs p' m = z := ⟨_, rfl⟩
  obtain ⟨f3, hf3⟩ : ∃ z, fewP [] p n = z := ⟨_, rfl⟩
  obtain ⟨q1, hq1⟩ : ∃ z, pgRight (okM g' ph' t' x1 r' p' l' m) p' ws = z := ⟨_, rfl⟩
  obtain ⟨q2, hq2⟩ : ∃ z, pgRight (okM g ph t x r p l n) p [] = z := ⟨_, rfl⟩
  rw [hf1, hf2, hf3, hq1, hq2] at hc
  have HF10 : ∀ W, Only (w.heap.size ≤ ·) w W → Calls Tryd.prog 7 #[.slice RA rn rc, .agg #[.int .i64 g', .int .i64 ph', .int .i64 t', .int .i64 x1, .int .i64 r', .int .i64 p', .int .i64 l', .slice BA m e]] W (Told W (.bool f1)) := fun W hW => by have h9 := Pgfew_w W g' ph' t' x1 r' p' l' BA m e RA rn rc ws (Rw.later h hW) hsum; rwa [hf1] at h9
  have HF20 : ∀ W, Only (w.heap.size ≤ ·) w W → Calls Tryd.prog 7 #[.slice RB sn sc, .agg #[.int .i64 g', .int .i64 ph', .int .i64 t', .int .i64 x1, .int .i64 r', .int .i64 p', .int .i64 l', .slice BA m e]] W (Told W (.bool f2)) := fun W hW => by have h9 := Pgfew_w W g' ph' t' x1 r' p' l' BA m e RB sn sc vs (Rw.later h' hW) hsum'; rwa [hf2] at h9
  have HF30 : ∀ W, Only (w.heap.size ≤ ·) w W → Calls Tryd.prog 7 #[.slice none 0 0, .agg #[.int .i64 g, .int .i64 ph, .int .i64 t, .int .i64 x, .int .i64 r, .int .i64 p, .int .i64 l, .slice A n c]] W (Told W (.bool f3)) := fun W hW => by have h9 := Pgfew_w W g ph t x r p l A n c none 0 0 [] (Rw.nil_ W) (fun y hy => nomatch hy); rwa [hf3] at h9
  have HR10 : ∀ W, Only (w.heap.size ≤ ·) w W → Calls Tryd.prog 8 #[.slice RA rn rc, .agg #[.int .i64 g', .int .i64 ph', .int .i64 t', .int .i64 x1, .int .i64 r', .int .i64 p', .int .i64 l', .slice BA m e]] W (Told W (.bool q1)) := fun W hW => by have h9 := rPgRight_c W g' ph' t' x1 r' p' l' BA m e RA rn rc ws (Rw.later h hW) hI; rwa [hq1] at h9
  have HR20 : ∀ W, Only (w.heap.size ≤ ·) w W → Calls Tryd.prog 8 #[.slice none 0 0, .agg #[.int .i64 g, .int .i64 ph, .int .i64 t, .int .i64 x, .int .i64 r, .int .i64 p, .int .i64 l, .slice A n c]] W (Told W (.bool q2)) := fun W hW => by have h9 := rPgRight_c W g ph t x r p l A n c none 0 0 [] (Rw.nil_ W) (fun y hy => nomatch hy); rwa [hq2] at h9
  have HAL0 : ∀ W, Only (w.heap.size ≤ ·) w W → Calls Tryd.prog 9 #[] W (Told W (.bool true)) := fun W hW => Pgalive_c W (hG.later hW)
  clear h h' hsum hsum' hI hI' hG hf1 hf2 hf3 hq1 hq2
  obtain ⟨w1, hw1⟩ : ∃ W0, W0 = w.alloc (.cells #[.int .i64 g, .int .i64 ph, .int .i64 t, .int .i64 x, .int .i64 r, .int .i64 p, .int .i64 l, .slice A n c] 25) := ⟨_, rfl⟩
  obtain ⟨w2, hw2⟩ : ∃ W0, W0 = w1.alloc (.cells #[.slice RA rn rc, .slice RB sn sc] 49) := ⟨_, rfl⟩
  obtain ⟨w3, hw3⟩ : ∃ W0, W0 = w2.alloc (.cells #[.slice IA im ic, .int .i64 g', .int .i64 ph', .int .i64 t', .int .i64 x2, .int .i64 r', .int .i64 p', .int .i64 l', .slice BA m e, .int .i64 fz, .slice KA kn kc] 52) := ⟨_, rfl⟩
  have HO1 : Hid (Only (w.heap.size ≤ ·) w w1) := Lib.hid (by rw [hw1]; exact (Only.refl _ w).alloc (fun _ h => h) _)
  have HO2 : Hid (Only (w1.heap.size ≤ ·) w1 w2) := Lib.hid (by rw [hw2]; exact (Only.refl _ w1).alloc (fun _ h => h) _)
  have HO3 : Hid (Only (w2.heap.size ≤ ·) w2 w3) := Lib.hid (by rw [hw3]; exact (Only.refl _ w2).alloc (fun _ h => h) _)
  have HA1 : Hid (Blk w1 w.heap.size 25 [.int .i64 g, .int .i64 ph, .int .i64 t, .int .i64 x, .int .i64 r, .int .i64 p, .int .i64 l, .slice A n c]) := Lib.hid (by rw [hw1]; exact Blk.new w 25 _)
  have HA2 : Hid (Blk w2 w.heap.size 25 [.int .i64 g, .int .i64 ph, .int .i64 t, .int .i64 x, .int .i64 r, .int .i64 p, .int .i64 l, .slice A n c]) := Lib.hid (HA1.out.only HO2.out (Nat.not_le.2 HA1.out.lt))
  have HA : Hid (Blk w3.drew w.heap.size 25 [.int .i64 g, .int .i64 ph, .int .i64 t, .int .i64 x, .int .i64 r, .int .i64 p, .int .i64 l, .slice A n c]) := Lib.hid (Blk.drew (HA2.out.only HO3.out (Nat.not_le.2 HA2.out.lt)))
  have HT2 : Hid (Blk w2 w1.heap.size 49 [.slice RA rn rc, .slice RB sn sc]) := Lib.hid (by rw [hw2]; exact Blk.new w1 49 _)
  have HT : Hid (Blk w3.drew w1.heap.size 49 [.slice RA rn rc, .slice RB sn sc]) := Lib.hid (Blk.drew (HT2.out.only HO3.out (Nat.not_le.2 HT2.out.lt)))
  have HC : Hid (Blk w3.drew w2.heap.size 52 [.slice IA im ic, .int .i64 g', .int .i64 ph', .int .i64 t', .int .i64 x2, .int .i64 r', .int .i64 p', .int .i64 l', .slice BA m e, .int .i64 fz, .slice KA kn kc]) := Lib.hid (Blk.drew (by rw [hw3]; exact Blk.new w2 52 _))
  have HOD : Hid (Only (w.heap.size ≤ ·) w w3.drew) := Lib.hid (Only.drew (on_new HO1.out (on_new HO2.out HO3.out)))
  have HST : Hid ((fun W : World => W.cell? ⟨w1.heap.size, 0, none⟩ = some (.slice RA rn rc) ∧ W.cell? ⟨w1.heap.size, 1, none⟩ = some (.slice RB sn sc)) w3.drew) := Lib.hid ⟨HT.out.cell 0, HT.out.cell 1⟩
  have hz1 : w1.heap.size = w.heap.size + 1 := by rw [hw1]; simp
  have hz2 : w2.heap.size = w.heap.size + 1 + 1 := by rw [hw2]; simp [hz1]
  rw [hz1] at HST
  rw [hz2] at HC
  have HE1 := Lib.hid hw1
  have HE2 := Lib.hid hw2
  have HE3 := Lib.hid hw3
  clear hw1 hw2 hw3 hz1 hz2
  go_enter Tryd.func6, Tryd.ntmps6
  go_upto_region 1 with (fail)
  rw [← HE1.out]
  rw [← HE2.out]
  rw [← HE3.out]
  clear HE1 HE2 HE3 HA1 HA2 HT2 HT HO1 HO2 HO3
  generalize hb5 : w.heap.size + 1 + 1 = b5 at HC ⊢
  generalize hb4 : w.heap.size + 1 = b4 at HST ⊢
  clear hb4 hb5
  refine wp_region_list (B := [false, false, false, false, false, false]) (S := (fun W : World => W.cell? ⟨b4, 0, none⟩ = some (.slice RA rn rc) ∧ W.cell? ⟨b4, 1, none⟩ = some (.slice RB sn sc))) (by kernel_rfl) (by kernel_rfl) (by kernel_rfl) HST.out (fun hsel hHeld => ?_)
  generalize hwz : World.drew _ = wd at HA HC HST HOD hHeld ⊢
  clear hwz
  refine oneA 0 21 hsel (h := ?_)
  simp only [Act.put, List.setIfInBounds_toArray, List.set_cons_zero, List.set_cons_succ]
  refine oneA 1 22 hsel (h := ?_)
  simp only [Act.put, List.setIfInBounds_toArray, List.set_cons_zero, List.set_cons_succ]
  refine oneA 2 23 hsel (h := ?_)
  simp only [Act.put, List.setIfInBounds_toArray, List.set_cons_zero, List.set_cons_succ]
  refine oneA 3 24 hsel (h := ?_)
  simp only [Act.put, List.setIfInBounds_toArray, List.set_cons_zero, List.set_cons_succ]
  refine oneA 4 7 hsel (h := ?_)
  simp only [Act.put, List.setIfInBounds_toArray, List.set_cons_zero, List.set_cons_succ]
  refine oneA 5 8 hsel (h := ?_)
  simp only [Act.put, List.setIfInBounds_toArray, List.set_cons_zero, List.set_cons_succ]
  refine wpAnyL_done (by kernel_rfl) (by kernel_rfl) ?_ _
  clear hsel hHeld
  obtain ⟨i0, i1, i2, i3, i4, i5, i6, i7⟩ := HA.out.eight
  have c1 : wd.cell? ⟨b5, 1, none⟩ = some (.int .i64 g') := HC.out.cell 1
  have c2 : wd.cell? ⟨b5, 2, none⟩ = some (.int .i64 ph') := HC.out.cell 2
  have c3 : wd.cell? ⟨b5, 3, none⟩ = some (.int .i64 t') := HC.out.cell 3
  have c4 : wd.cell? ⟨b5, 4, none⟩ = some (.int .i64 x2) := HC.out.cell 4
  have c5 : wd.cell? ⟨b5, 5, none⟩ = some (.int .i64 r') := HC.out.cell 5
  have c6 : wd.cell? ⟨b5, 6, none⟩ = some (.int .i64 p') := HC.out.cell 6
  have c7 : wd.cell? ⟨b5, 7, none⟩ = some (.int .i64 l') := HC.out.cell 7
  have c8 : wd.cell? ⟨b5, 8, none⟩ = some (.slice BA m e) := HC.out.cell 8
  go_upto_region 3 with (fail)
  clear c1 c2 c3 c4 c5 c6 c7 c8 i0 i1 i2 i3 i4 i5 i6 i7
  obtain ⟨w4, hw4⟩ : ∃ W0, W0 = wd.alloc (.cells #[.int .i64 g', .int .i64 ph', .int .i64 t', .int .i64 x2, .int .i64 r', .int .i64 p', .int .i64 l', .slice BA m e] 25) := ⟨_, rfl⟩
  obtain ⟨w5, hw5⟩ : ∃ W0, W0 = w4.setCell ⟨wd.heap.size, 3, none⟩ (.int .i64 x1) := ⟨_, rfl⟩
  have HO4 : Hid (Only (wd.heap.size ≤ ·) wd w4) := Lib.hid (by rw [hw4]; exact (Only.refl _ wd).alloc (fun _ h => h) _)
  have HO5 : Hid (Only (· = wd.heap.size) w4 w5) := Lib.hid (by rw [hw5]; exact (Only.refl (· = wd.heap.size) w4).setCell (p := ⟨wd.heap.size, 3, none⟩) rfl _)
  have HA4 : Hid (Blk w4 w.heap.size 25 [.int .i64 g, .int .i64 ph, .int .i64 t, .int .i64 x, .int .i64 r, .int .i64 p, .int .i64 l, .slice A n c]) := Lib.hid (HA.out.only HO4.out (Nat.not_le.2 HA.out.lt))
  have HC4 : Hid (Blk w4 b5 52 [.slice IA im ic, .int .i64 g', .int .i64 ph', .int .i64 t', .int .i64 x2, .int .i64 r', .int .i64 p', .int .i64 l', .slice BA m e, .int .i64 fz, .slice KA kn kc]) := Lib.hid (HC.out.only HO4.out (Nat.not_le.2 HC.out.lt))
  have HB4 : Hid (Blk w4 wd.heap.size 25 [.int .i64 g', .int .i64 ph', .int .i64 t', .int .i64 x2, .int .i64 r', .int .i64 p', .int .i64 l', .slice BA m e]) := Lib.hid (by rw [hw4]; exact Blk.new wd 25 _)
  have HOB : Hid (Only (w.heap.size ≤ ·) w w5) := Lib.hid ((on_new HOD.out HO4.out).trans (HO5.out.mono fun k hk => by rw [hk]; exact HOD.out.size))
  have HA5 : Hid (Blk w5 w.heap.size 25 [.int .i64 g, .int .i64 ph, .int .i64 t, .int .i64 x, .int .i64 r, .int .i64 p, .int .i64 l, .slice A n c]) := Lib.hid (HA4.out.only HO5.out (fun e => by have h := HA.out.lt; omega))
  have HC5 : Hid (Blk w5 b5 52 [.slice IA im ic, .int .i64 g', .int .i64 ph', .int .i64 t', .int .i64 x2, .int .i64 r', .int .i64 p', .int .i64 l', .slice BA m e, .int .i64 fz, .slice KA kn kc]) := Lib.hid (HC4.out.only HO5.out (fun e => by have h := HC.out.lt; omega))
  have HB5 : Hid (Blk w5 wd.heap.size 25 [.int .i64 g', .int .i64 ph', .int .i64 t', .int .i64 x1, .int .i64 r', .int .i64 p', .int .i64 l', .slice BA m e]) := Lib.hid (by rw [hw5]; exact HB4.out.set_ 3 (.int .i64 x1))
  have i3 : w4.cell? ⟨w.heap.size, 3, none⟩ = some (.int .i64 x) := HA4.out.cell 3
  have j3 : w4.cell? ⟨wd.heap.size, 3, none⟩ = some (.int .i64 x2) := HB4.out.cell 3
  have z3 := HB4.out.frozen 3
  rw [← hw4]
  have HE5 := Lib.hid hw5
  clear hw4 hw5
  go_upto_region 4 with (fail)
  rw [← HE5.out]
  clear i3 j3 z3 HE5 HA HC HO4 HO5 HA4 HC4 HB4 HST HOD
  generalize hb9 : wd.heap.size = b9 at HB5 ⊢
  clear hb9
  have HO : Hid (Only (w5.heap.size ≤ ·) w5 w5) := Lib.hid (Only.refl _ w5)
  have HF1 := Lib.hid (fun W (hW : Only (w5.heap.size ≤ ·) w5 W) => HF10 W (on_new HOB.out hW))
  have HF2 := Lib.hid (fun W (hW : Only (w5.heap.size ≤ ·) w5 W) => HF20 W (on_new HOB.out hW))
  have HF3 := Lib.hid (fun W (hW : Only (w5.heap.size ≤ ·) w5 W) => HF30 W (on_new HOB.out hW))
  have HR1 := Lib.hid (fun W (hW : Only (w5.heap.size ≤ ·) w5 W) => HR10 W (on_new HOB.out hW))
  have HR2 := Lib.hid (fun W (hW : Only (w5.heap.size ≤ ·) w5 W) => HR20 W (on_new HOB.out hW))
  have HAL := Lib.hid (fun W (hW : Only (w5.heap.size ≤ ·) w5 W) => HAL0 W (on_new HOB.out hW))
  clear HF10 HF20 HF30 HR10 HR20 HAL0
  (obtain ⟨i0, i1, i2, i3, i4, i5, i6, i7⟩ := (HA5.out.only HO.out (Nat.not_le.2 HA5.out.lt)).eight); (obtain ⟨j0, j1, j2, j3, j4, j5, j6, j7⟩ := (HB5.out.only HO.out (Nat.not_le.2 HB5.out.lt)).eight); have c9 := (HC5.out.only HO.out (Nat.not_le.2 HC5.out.lt)).cell 9; have c10 := (HC5.out.only HO.out (Nat.not_le.2 HC5.out.lt)).cell 10; simp only [List.getElem?_cons_succ, List.getElem?_cons_zero] at c9 c10
  cases f1 with
  | false =>
    clear hc
    go_wp2_with (first | (go_at_call 7; (with_reducible refine (HF1.out _ HO.out).mono ?_); rintro e wa ⟨rfl, ho⟩; (replace HO := Lib.hid (on_new HO.out ho)); clear ho i0 i1 i2 i3 i4 i5 i6 i7 j0 j1 j2 j3 j4 j5 j6 j7 c9 c10; (obtain ⟨i0, i1, i2, i3, i4, i5, i6, i7⟩ := (HA5.out.only HO.out (Nat.not_le.2 HA5.out.lt)).eight); (obtain ⟨j0, j1, j2, j3, j4, j5, j6, j7⟩ := (HB5.out.only HO.out (Nat.not_le.2 HB5.out.lt)).eight); have c9 := (HC5.out.only HO.out (Nat.not_le.2 HC5.out.lt)).cell 9; have c10 := (HC5.out.only HO.out (Nat.not_le.2 HC5.out.lt)).cell 10; simp only [List.getElem?_cons_succ, List.getElem?_cons_zero] at c9 c10) | (go_at_call 7; (with_reducible refine (HF2.out _ HO.out).mono ?_); rintro e wa ⟨rfl, ho⟩; (replace HO := Lib.hid (on_new HO.out ho)); clear ho i0 i1 i2 i3 i4 i5 i6 i7 j0 j1 j2 j3 j4 j5 j6 j7 c9 c10; (obtain ⟨i0, i1, i2, i3, i4, i5, i6, i7⟩ := (HA5.out.only HO.out (Nat.not_le.2 HA5.out.lt)).eight); (obtain ⟨j0, j1, j2, j3, j4, j5, j6, j7⟩ := (HB5.out.only HO.out (Nat.not_le.2 HB5.out.lt)).eight); have c9 := (HC5.out.only HO.out (Nat.not_le.2 HC5.out.lt)).cell 9; have c10 := (HC5.out.only HO.out (Nat.not_le.2 HC5.out.lt)).cell 10; simp only [List.getElem?_cons_succ, List.getElem?_cons_zero] at c9 c10) | (go_at_call 7; (with_reducible refine (HF3.out _ HO.out).mono ?_); rintro e wa ⟨rfl, ho⟩; (replace HO := Lib.hid (on_new HO.out ho)); clear ho i0 i1 i2 i3 i4 i5 i6 i7 j0 j1 j2 j3 j4 j5 j6 j7 c9 c10; (obtain ⟨i0, i1, i2, i3, i4, i5, i6, i7⟩ := (HA5.out.only HO.out (Nat.not_le.2 HA5.out.lt)).eight); (obtain ⟨j0, j1, j2, j3, j4, j5, j6, j7⟩ := (HB5.out.only HO.out (Nat.not_le.2 HB5.out.lt)).eight); have c9 := (HC5.out.only HO.out (Nat.not_le.2 HC5.out.lt)).cell 9; have c10 := (HC5.out.only HO.out (Nat.not_le.2 HC5.out.lt)).cell 10; simp only [List.getElem?_cons_succ, List.getElem?_cons_zero] at c9 c10) | (go_at_call 8; (with_reducible refine (HR1.out _ HO.out).mono ?_); rintro e wa ⟨rfl, ho⟩; (replace HO := Lib.hid (on_new HO.out ho)); clear ho i0 i1 i2 i3 i4 i5 i6 i7 j0 j1 j2 j3 j4 j5 j6 j7 c9 c10; (obtain ⟨i0, i1, i2, i3, i4, i5, i6, i7⟩ := (HA5.out.only HO.out (Nat.not_le.2 HA5.out.lt)).eight); (obtain ⟨j0, j1, j2, j3, j4, j5, j6, j7⟩ := (HB5.out.only HO.out (Nat.not_le.2 HB5.out.lt)).eight); have c9 := (HC5.out.only HO.out (Nat.not_le.2 HC5.out.lt)).cell 9; have c10 := (HC5.out.only HO.out (Nat.not_le.2 HC5.out.lt)).cell 10; simp only [List.getElem?_cons_succ, List.getElem?_cons_zero] at c9 c10) | (go_at_call 8; (with_reducible refine (HR2.out _ HO.out).mono ?_); rintro e wa ⟨rfl, ho⟩; (replace HO := Lib.hid (on_new HO.out ho)); clear ho i0 i1 i2 i3 i4 i5 i6 i7 j0 j1 j2 j3 j4 j5 j6 j7 c9 c10; (obtain ⟨i0, i1, i2, i3, i4, i5, i6, i7⟩ := (HA5.out.only HO.out (Nat.not_le.2 HA5.out.lt)).eight); (obtain ⟨j0, j1, j2, j3, j4, j5, j6, j7⟩ := (HB5.out.only HO.out (Nat.not_le.2 HB5.out.lt)).eight); have c9 := (HC5.out.only HO.out (Nat.not_le.2 HC5.out.lt)).cell 9; have c10 := (HC5.out.only HO.out (Nat.not_le.2 HC5.out.lt)).cell 10; simp only [List.getElem?_cons_succ, List.getElem?_cons_zero] at c9 c10) | (go_at_call 9; (with_reducible refine (HAL.out _ HO.out).mono ?_); rintro e wz ⟨rfl, ho⟩; (replace HO := Lib.hid (on_new HO.out ho)); clear ho))
    go_ret
    exact ⟨rfl, on_new HOB.out HO.out⟩
  | true =>
    cases f2 with
    | false =>
      clear hc
      go_wp2_with (first | (go_at_call 7; (with_reducible refine (HF1.out _ HO.out).mono ?_); rintro e wa ⟨rfl, ho⟩; (replace HO := Lib.hid (on_new HO.out ho)); clear ho i0 i1 i2 i3 i4 i5 i6 i7 j0 j1 j2 j3 j4 j5 j6 j7 c9 c10; (obtain ⟨i0, i1, i2, i3, i4, i5, i6, i7⟩ := (HA5.out.only HO.out (Nat.not_le.2 HA5.out.lt)).eight); (obtain ⟨j0, j1, j2, j3, j4, j5, j6, j7⟩ := (HB5.out.only HO.out (Nat.not_le.2 HB5.out.lt)).eight); have c9 := (HC5.out.only HO.out (Nat.not_le.2 HC5.out.lt)).cell 9; have c10 := (HC5.out.only HO.out (Nat.not_le.2 HC5.out.lt)).cell 10; simp only [List.getElem?_cons_succ, List.getElem?_cons_zero] at c9 c10) | (go_at_call 7; (with_reducible refine (HF2.out _ HO.out).mono ?_); rintro e wa ⟨rfl, ho⟩; (replace HO := Lib.hid (on_new HO.out ho)); clear ho i0 i1 i2 i3 i4 i5 i6 i7 j0 j1 j2 j3 j4 j5 j6 j7 c9 c10; (obtain ⟨i0, i1, i2, i3, i4, i5, i6, i7⟩ := (HA5.out.only HO.out (Nat.not_le.2 HA5.out.lt)).eight); (obtain ⟨j0, j1, j2, j3, j4, j5, j6, j7⟩ := (HB5.out.only HO.out (Nat.not_le.2 HB5.out.lt)).eight); have c9 := (HC5.out.only HO.out (Nat.not_le.2 HC5.out.lt)).cell 9; have c10 := (HC5.out.only HO.out (Nat.not_le.2 HC5.out.lt)).cell 10; simp only [List.getElem?_cons_succ, List.getElem?_cons_zero] at c9 c10) | (go_at_call 7; (with_reducible refine (HF3.out _ HO.out).mono ?_); rintro e wa ⟨rfl, ho⟩; (replace HO := Lib.hid (on_new HO.out ho)); clear ho i0 i1 i2 i3 i4 i5 i6 i7 j0 j1 j2 j3 j4 j5 j6 j7 c9 c10; (obtain ⟨i0, i1, i2, i3, i4, i5, i6, i7⟩ := (HA5.out.only HO.out (Nat.not_le.2 HA5.out.lt)).eight); (obtain ⟨j0, j1, j2, j3, j4, j5, j6, j7⟩ := (HB5.out.only HO.out (Nat.not_le.2 HB5.out.lt)).eight); have c9 := (HC5.out.only HO.out (Nat.not_le.2 HC5.out.lt)).cell 9; have c10 := (HC5.out.only HO.out (Nat.not_le.2 HC5.out.lt)).cell 10; simp only [List.getElem?_cons_succ, List.getElem?_cons_zero] at c9 c10) | (go_at_call 8; (with_reducible refine (HR1.out _ HO.out).mono ?_); rintro e wa ⟨rfl, ho⟩; (replace HO := Lib.hid (on_new HO.out ho)); clear ho i0 i1 i2 i3 i4 i5 i6 i7 j0 j1 j2 j3 j4 j5 j6 j7 c9 c10; (obtain ⟨i0, i1, i2, i3, i4, i5, i6, i7⟩ := (HA5.out.only HO.out (Nat.not_le.2 HA5.out.lt)).eight); (obtain ⟨j0, j1, j2, j3, j4, j5, j6, j7⟩ := (HB5.out.only HO.out (Nat.not_le.2 HB5.out.lt)).eight); have c9 := (HC5.out.only HO.out (Nat.not_le.2 HC5.out.lt)).cell 9; have c10 := (HC5.out.only HO.out (Nat.not_le.2 HC5.out.lt)).cell 10; simp only [List.getElem?_cons_succ, List.getElem?_cons_zero] at c9 c10) | (go_at_call 8; (with_reducible refine (HR2.out _ HO.out).mono ?_); rintro e wa ⟨rfl, ho⟩; (replace HO := Lib.hid (on_new HO.out ho)); clear ho i0 i1 i2 i3 i4 i5 i6 i7 j0 j1 j2 j3 j4 j5 j6 j7 c9 c10; (obtain ⟨i0, i1, i2, i3, i4, i5, i6, i7⟩ := (HA5.out.only HO.out (Nat.not_le.2 HA5.out.lt)).eight); (obtain ⟨j0, j1, j2, j3, j4, j5, j6, j7⟩ := (HB5.out.only HO.out (Nat.not_le.2 HB5.out.lt)).eight); have c9 := (HC5.out.only HO.out (Nat.not_le.2 HC5.out.lt)).cell 9; have c10 := (HC5.out.only HO.out (Nat.not_le.2 HC5.out.lt)).cell 10; simp only [List.getElem?_cons_succ, List.getElem?_cons_zero] at c9 c10) | (go_at_call 9; (with_reducible refine (HAL.out _ HO.out).mono ?_); rintro e wz ⟨rfl, ho⟩; (replace HO := Lib.hid (on_new HO.out ho)); clear ho))
      go_ret
      exact ⟨rfl, on_new HOB.out HO.out⟩
    | true =>
      cases f3 with
      | false =>
        clear hc
        go_wp2_with (first | (go_at_call 7; (with_reducible refine (HF1.out _ HO.out).mono ?_); rintro e wa ⟨rfl, ho⟩; (replace HO := Lib.hid (on_new HO.out ho)); clear ho i0 i1 i2 i3 i4 i5 i6 i7 j0 j1 j2 j3 j4 j5 j6 j7 c9 c10; (obtain ⟨i0, i1, i2, i3, i4, i5, i6, i7⟩ := (HA5.out.only HO.out (Nat.not_le.2 HA5.out.lt)).eight); (obtain ⟨j0, j1, j2, j3, j4, j5, j6, j7⟩ := (HB5.out.only HO.out (Nat.not_le.2 HB5.out.lt)).eight); have c9 := (HC5.out.only HO.out (Nat.not_le.2 HC5.out.lt)).cell 9; have c10 := (HC5.out.only HO.out (Nat.not_le.2 HC5.out.lt)).cell 10; simp only [List.getElem?_cons_succ, List.getElem?_cons_zero] at c9 c10) | (go_at_call 7; (with_reducible refine (HF2.out _ HO.out).mono ?_); rintro e wa ⟨rfl, ho⟩; (replace HO := Lib.hid (on_new HO.out ho)); clear ho i0 i1 i2 i3 i4 i5 i6 i7 j0 j1 j2 j3 j4 j5 j6 j7 c9 c10; (obtain ⟨i0, i1, i2, i3, i4, i5, i6, i7⟩ := (HA5.out.only HO.out (Nat.not_le.2 HA5.out.lt)).eight); (obtain ⟨j0, j1, j2, j3, j4, j5, j6, j7⟩ := (HB5.out.only HO.out (Nat.not_le.2 HB5.out.lt)).eight); have c9 := (HC5.out.only HO.out (Nat.not_le.2 HC5.out.lt)).cell 9; have c10 := (HC5.out.only HO.out (Nat.not_le.2 HC5.out.lt)).cell 10; simp only [List.getElem?_cons_succ, List.getElem?_cons_zero] at c9 c10) | (go_at_call 7; (with_reducible refine (HF3.out _ HO.out).mono ?_); rintro e wa ⟨rfl, ho⟩; (replace HO := Lib.hid (on_new HO.out ho)); clear ho i0 i1 i2 i3 i4 i5 i6 i7 j0 j1 j2 j3 j4 j5 j6 j7 c9 c10; (obtain ⟨i0, i1, i2, i3, i4, i5, i6, i7⟩ := (HA5.out.only HO.out (Nat.not_le.2 HA5.out.lt)).eight); (obtain ⟨j0, j1, j2, j3, j4, j5, j6, j7⟩ := (HB5.out.only HO.out (Nat.not_le.2 HB5.out.lt)).eight); have c9 := (HC5.out.only HO.out (Nat.not_le.2 HC5.out.lt)).cell 9; have c10 := (HC5.out.only HO.out (Nat.not_le.2 HC5.out.lt)).cell 10; simp only [List.getElem?_cons_succ, List.getElem?_cons_zero] at c9 c10) | (go_at_call 8; (with_reducible refine (HR1.out _ HO.out).mono ?_); rintro e wa ⟨rfl, ho⟩; (replace HO := Lib.hid (on_new HO.out ho)); clear ho i0 i1 i2 i3 i4 i5 i6 i7 j0 j1 j2 j3 j4 j5 j6 j7 c9 c10; (obtain ⟨i0, i1, i2, i3, i4, i5, i6, i7⟩ := (HA5.out.only HO.out (Nat.not_le.2 HA5.out.lt)).eight); (obtain ⟨j0, j1, j2, j3, j4, j5, j6, j7⟩ := (HB5.out.only HO.out (Nat.not_le.2 HB5.out.lt)).eight); have c9 := (HC5.out.only HO.out (Nat.not_le.2 HC5.out.lt)).cell 9; have c10 := (HC5.out.only HO.out (Nat.not_le.2 HC5.out.lt)).cell 10; simp only [List.getElem?_cons_succ, List.getElem?_cons_zero] at c9 c10) | (go_at_call 8; (with_reducible refine (HR2.out _ HO.out).mono ?_); rintro e wa ⟨rfl, ho⟩; (replace HO := Lib.hid (on_new HO.out ho)); clear ho i0 i1 i2 i3 i4 i5 i6 i7 j0 j1 j2 j3 j4 j5 j6 j7 c9 c10; (obtain ⟨i0, i1, i2, i3, i4, i5, i6, i7⟩ := (HA5.out.only HO.out (Nat.not_le.2 HA5.out.lt)).eight); (obtain ⟨j0, j1, j2, j3, j4, j5, j6, j7⟩ := (HB5.out.only HO.out (Nat.not_le.2 HB5.out.lt)).eight); have c9 := (HC5.out.only HO.out (Nat.not_le.2 HC5.out.lt)).cell 9; have c10 := (HC5.out.only HO.out (Nat.not_le.2 HC5.out.lt)).cell 10; simp only [List.getElem?_cons_succ, List.getElem?_cons_zero] at c9 c10) | (go_at_call 9; (with_reducible refine (HAL.out _ HO.out).mono ?_); rintro e wz ⟨rfl, ho⟩; (replace HO := Lib.hid (on_new HO.out ho)); clear ho))
        go_ret
        exact ⟨rfl, on_new HOB.out HO.out⟩
      | true =>
        by_cases h1 : x < 2
        · clear hc
          go_wp2_with (first | (go_at_call 7; (with_reducible refine (HF1.out _ HO.out).mono ?_); rintro e wa ⟨rfl, ho⟩; (replace HO := Lib.hid (on_new HO.out ho)); clear ho i0 i1 i2 i3 i4 i5 i6 i7 j0 j1 j2 j3 j4 j5 j6 j7 c9 c10; (obtain ⟨i0, i1, i2, i3, i4, i5, i6, i7⟩ := (HA5.out.only HO.out (Nat.not_le.2 HA5.out.lt)).eight); (obtain ⟨j0, j1, j2, j3, j4, j5, j6, j7⟩ := (HB5.out.only HO.out (Nat.not_le.2 HB5.out.lt)).eight); have c9 := (HC5.out.only HO.out (Nat.not_le.2 HC5.out.lt)).cell 9; have c10 := (HC5.out.only HO.out (Nat.not_le.2 HC5.out.lt)).cell 10; simp only [List.getElem?_cons_succ, List.getElem?_cons_zero] at c9 c10) | (go_at_call 7; (with_reducible refine (HF2.out _ HO.out).mono ?_); rintro e wa ⟨rfl, ho⟩; (replace HO := Lib.hid (on_new HO.out ho)); clear ho i0 i1 i2 i3 i4 i5 i6 i7 j0 j1 j2 j3 j4 j5 j6 j7 c9 c10; (obtain ⟨i0, i1, i2, i3, i4, i5, i6, i7⟩ := (HA5.out.only HO.out (Nat.not_le.2 HA5.out.lt)).eight); (obtain ⟨j0, j1, j2, j3, j4, j5, j6, j7⟩ := (HB5.out.only HO.out (Nat.not_le.2 HB5.out.lt)).eight); have c9 := (HC5.out.only HO.out (Nat.not_le.2 HC5.out.lt)).cell 9; have c10 := (HC5.out.only HO.out (Nat.not_le.2 HC5.out.lt)).cell 10; simp only [List.getElem?_cons_succ, List.getElem?_cons_zero] at c9 c10) | (go_at_call 7; (with_reducible refine (HF3.out _ HO.out).mono ?_); rintro e wa ⟨rfl, ho⟩; (replace HO := Lib.hid (on_new HO.out ho)); clear ho i0 i1 i2 i3 i4 i5 i6 i7 j0 j1 j2 j3 j4 j5 j6 j7 c9 c10; (obtain ⟨i0, i1, i2, i3, i4, i5, i6, i7⟩ := (HA5.out.only HO.out (Nat.not_le.2 HA5.out.lt)).eight); (obtain ⟨j0, j1, j2, j3, j4, j5, j6, j7⟩ := (HB5.out.only HO.out (Nat.not_le.2 HB5.out.lt)).eight); have c9 := (HC5.out.only HO.out (Nat.not_le.2 HC5.out.lt)).cell 9; have c10 := (HC5.out.only HO.out (Nat.not_le.2 HC5.out.lt)).cell 10; simp only [List.getElem?_cons_succ, List.getElem?_cons_zero] at c9 c10) | (go_at_call 8; (with_reducible refine (HR1.out _ HO.out).mono ?_); rintro e wa ⟨rfl, ho⟩; (replace HO := Lib.hid (on_new HO.out ho)); clear ho i0 i1 i2 i3 i4 i5 i6 i7 j0 j1 j2 j3 j4 j5 j6 j7 c9 c10; (obtain ⟨i0, i1, i2, i3, i4, i5, i6, i7⟩ := (HA5.out.only HO.out (Nat.not_le.2 HA5.out.lt)).eight); (obtain ⟨j0, j1, j2, j3, j4, j5, j6, j7⟩ := (HB5.out.only HO.out (Nat.not_le.2 HB5.out.lt)).eight); have c9 := (HC5.out.only HO.out (Nat.not_le.2 HC5.out.lt)).cell 9; have c10 := (HC5.out.only HO.out (Nat.not_le.2 HC5.out.lt)).cell 10; simp only [List.getElem?_cons_succ, List.getElem?_cons_zero] at c9 c10) | (go_at_call 8; (with_reducible refine (HR2.out _ HO.out).mono ?_); rintro e wa ⟨rfl, ho⟩; (replace HO := Lib.hid (on_new HO.out ho)); clear ho i0 i1 i2 i3 i4 i5 i6 i7 j0 j1 j2 j3 j4 j5 j6 j7 c9 c10; (obtain ⟨i0, i1, i2, i3, i4, i5, i6, i7⟩ := (HA5.out.only HO.out (Nat.not_le.2 HA5.out.lt)).eight); (obtain ⟨j0, j1, j2, j3, j4, j5, j6, j7⟩ := (HB5.out.only HO.out (Nat.not_le.2 HB5.out.lt)).eight); have c9 := (HC5.out.only HO.out (Nat.not_le.2 HC5.out.lt)).cell 9; have c10 := (HC5.out.only HO.out (Nat.not_le.2 HC5.out.lt)).cell 10; simp only [List.getElem?_cons_succ, List.getElem?_cons_zero] at c9 c10) | (go_at_call 9; (with_reducible refine (HAL.out _ HO.out).mono ?_); rintro e wz ⟨rfl, ho⟩; (replace HO := Lib.hid (on_new HO.out ho)); clear ho))
          go_ret
          exact ⟨rfl, on_new HOB.out HO.out⟩
        · by_cases h2 : 200 < (kn : Int)
          · clear hc
            go_wp2_with (first | (go_at_call 7; (with_reducible refine (HF1.out _ HO.out).mono ?_); rintro e wa ⟨rfl, ho⟩; (replace HO := Lib.hid (on_new HO.out ho)); clear ho i0 i1 i2 i3 i4 i5 i6 i7 j0 j1 j2 j3 j4 j5 j6 j7 c9 c10; (obtain ⟨i0, i1, i2, i3, i4, i5, i6, i7⟩ := (HA5.out.only HO.out (Nat.not_le.2 HA5.out.lt)).eight); (obtain ⟨j0, j1, j2, j3, j4, j5, j6, j7⟩ := (HB5.out.only HO.out (Nat.not_le.2 HB5.out.lt)).eight); have c9 := (HC5.out.only HO.out (Nat.not_le.2 HC5.out.lt)).cell 9; have c10 := (HC5.out.only HO.out (Nat.not_le.2 HC5.out.lt)).cell 10; simp only [List.getElem?_cons_succ, List.getElem?_cons_zero] at c9 c10) | (go_at_call 7; (with_reducible refine (HF2.out _ HO.out).mono ?_); rintro e wa ⟨rfl, ho⟩; (replace HO := Lib.hid (on_new HO.out ho)); clear ho i0 i1 i2 i3 i4 i5 i6 i7 j0 j1 j2 j3 j4 j5 j6 j7 c9 c10; (obtain ⟨i0, i1, i2, i3, i4, i5, i6, i7⟩ := (HA5.out.only HO.out (Nat.not_le.2 HA5.out.lt)).eight); (obtain ⟨j0, j1, j2, j3, j4, j5, j6, j7⟩ := (HB5.out.only HO.out (Nat.not_le.2 HB5.out.lt)).eight); have c9 := (HC5.out.only HO.out (Nat.not_le.2 HC5.out.lt)).cell 9; have c10 := (HC5.out.only HO.out (Nat.not_le.2 HC5.out.lt)).cell 10; simp only [List.getElem?_cons_succ, List.getElem?_cons_zero] at c9 c10) | (go_at_call 7; (with_reducible refine (HF3.out _ HO.out).mono ?_); rintro e wa ⟨rfl, ho⟩; (replace HO := Lib.hid (on_new HO.out ho)); clear ho i0 i1 i2 i3 i4 i5 i6 i7 j0 j1 j2 j3 j4 j5 j6 j7 c9 c10; (obtain ⟨i0, i1, i2, i3, i4, i5, i6, i7⟩ := (HA5.out.only HO.out (Nat.not_le.2 HA5.out.lt)).eight); (obtain ⟨j0, j1, j2, j3, j4, j5, j6, j7⟩ := (HB5.out.only HO.out (Nat.not_le.2 HB5.out.lt)).eight); have c9 := (HC5.out.only HO.out (Nat.not_le.2 HC5.out.lt)).cell 9; have c10 := (HC5.out.only HO.out (Nat.not_le.2 HC5.out.lt)).cell 10; simp only [List.getElem?_cons_succ, List.getElem?_cons_zero] at c9 c10) | (go_at_call 8; (with_reducible refine (HR1.out _ HO.out).mono ?_); rintro e wa ⟨rfl, ho⟩; (replace HO := Lib.hid (on_new HO.out ho)); clear ho i0 i1 i2 i3 i4 i5 i6 i7 j0 j1 j2 j3 j4 j5 j6 j7 c9 c10; (obtain ⟨i0, i1, i2, i3, i4, i5, i6, i7⟩ := (HA5.out.only HO.out (Nat.not_le.2 HA5.out.lt)).eight); (obtain ⟨j0, j1, j2, j3, j4, j5, j6, j7⟩ := (HB5.out.only HO.out (Nat.not_le.2 HB5.out.lt)).eight); have c9 := (HC5.out.only HO.out (Nat.not_le.2 HC5.out.lt)).cell 9; have c10 := (HC5.out.only HO.out (Nat.not_le.2 HC5.out.lt)).cell 10; simp only [List.getElem?_cons_succ, List.getElem?_cons_zero] at c9 c10) | (go_at_call 8; (with_reducible refine (HR2.out _ HO.out).mono ?_); rintro e wa ⟨rfl, ho⟩; (replace HO := Lib.hid (on_new HO.out ho)); clear ho i0 i1 i2 i3 i4 i5 i6 i7 j0 j1 j2 j3 j4 j5 j6 j7 c9 c10; (obtain ⟨i0, i1, i2, i3, i4, i5, i6, i7⟩ := (HA5.out.only HO.out (Nat.not_le.2 HA5.out.lt)).eight); (obtain ⟨j0, j1, j2, j3, j4, j5, j6, j7⟩ := (HB5.out.only HO.out (Nat.not_le.2 HB5.out.lt)).eight); have c9 := (HC5.out.only HO.out (Nat.not_le.2 HC5.out.lt)).cell 9; have c10 := (HC5.out.only HO.out (Nat.not_le.2 HC5.out.lt)).cell 10; simp only [List.getElem?_cons_succ, List.getElem?_cons_zero] at c9 c10) | (go_at_call 9; (with_reducible refine (HAL.out _ HO.out).mono ?_); rintro e wz ⟨rfl, ho⟩; (replace HO := Lib.hid (on_new HO.out ho)); clear ho))
            go_ret
            exact ⟨rfl, on_new HOB.out HO.out⟩
          · by_cases h3 : 1000 < fz
            · clear hc
              go_wp2_with (first | (go_at_call 7; (with_reducible refine (HF1.out _ HO.out).mono ?_); rintro e wa ⟨rfl, ho⟩; (replace HO := Lib.hid (on_new HO.out ho)); clear ho i0 i1 i2 i3 i4 i5 i6 i7 j0 j1 j2 j3 j4 j5 j6 j7 c9 c10; (obtain ⟨i0, i1, i2, i3, i4, i5, i6, i7⟩ := (HA5.out.only HO.out (Nat.not_le.2 HA5.out.lt)).eight); (obtain ⟨j0, j1, j2, j3, j4, j5, j6, j7⟩ := (HB5.out.only HO.out (Nat.not_le.2 HB5.out.lt)).eight); have c9 := (HC5.out.only HO.out (Nat.not_le.2 HC5.out.lt)).cell 9; have c10 := (HC5.out.only HO.out (Nat.not_le.2 HC5.out.lt)).cell 10; simp only [List.getElem?_cons_succ, List.getElem?_cons_zero] at c9 c10) | (go_at_call 7; (with_reducible refine (HF2.out _ HO.out).mono ?_); rintro e wa ⟨rfl, ho⟩; (replace HO := Lib.hid (on_new HO.out ho)); clear ho i0 i1 i2 i3 i4 i5 i6 i7 j0 j1 j2 j3 j4 j5 j6 j7 c9 c10; (obtain ⟨i0, i1, i2, i3, i4, i5, i6, i7⟩ := (HA5.out.only HO.out (Nat.not_le.2 HA5.out.lt)).eight); (obtain ⟨j0, j1, j2, j3, j4, j5, j6, j7⟩ := (HB5.out.only HO.out (Nat.not_le.2 HB5.out.lt)).eight); have c9 := (HC5.out.only HO.out (Nat.not_le.2 HC5.out.lt)).cell 9; have c10 := (HC5.out.only HO.out (Nat.not_le.2 HC5.out.lt)).cell 10; simp only [List.getElem?_cons_succ, List.getElem?_cons_zero] at c9 c10) | (go_at_call 7; (with_reducible refine (HF3.out _ HO.out).mono ?_); rintro e wa ⟨rfl, ho⟩; (replace HO := Lib.hid (on_new HO.out ho)); clear ho i0 i1 i2 i3 i4 i5 i6 i7 j0 j1 j2 j3 j4 j5 j6 j7 c9 c10; (obtain ⟨i0, i1, i2, i3, i4, i5, i6, i7⟩ := (HA5.out.only HO.out (Nat.not_le.2 HA5.out.lt)).eight); (obtain ⟨j0, j1, j2, j3, j4, j5, j6, j7⟩ := (HB5.out.only HO.out (Nat.not_le.2 HB5.out.lt)).eight); have c9 := (HC5.out.only HO.out (Nat.not_le.2 HC5.out.lt)).cell 9; have c10 := (HC5.out.only HO.out (Nat.not_le.2 HC5.out.lt)).cell 10; simp only [List.getElem?_cons_succ, List.getElem?_cons_zero] at c9 c10) | (go_at_call 8; (with_reducible refine (HR1.out _ HO.out).mono ?_); rintro e wa ⟨rfl, ho⟩; (replace HO := Lib.hid (on_new HO.out ho)); clear ho i0 i1 i2 i3 i4 i5 i6 i7 j0 j1 j2 j3 j4 j5 j6 j7 c9 c10; (obtain ⟨i0, i1, i2, i3, i4, i5, i6, i7⟩ := (HA5.out.only HO.out (Nat.not_le.2 HA5.out.lt)).eight); (obtain ⟨j0, j1, j2, j3, j4, j5, j6, j7⟩ := (HB5.out.only HO.out (Nat.not_le.2 HB5.out.lt)).eight); have c9 := (HC5.out.only HO.out (Nat.not_le.2 HC5.out.lt)).cell 9; have c10 := (HC5.out.only HO.out (Nat.not_le.2 HC5.out.lt)).cell 10; simp only [List.getElem?_cons_succ, List.getElem?_cons_zero] at c9 c10) | (go_at_call 8; (with_reducible refine (HR2.out _ HO.out).mono ?_); rintro e wa ⟨rfl, ho⟩; (replace HO := Lib.hid (on_new HO.out ho)); clear ho i0 i1 i2 i3 i4 i5 i6 i7 j0 j1 j2 j3 j4 j5 j6 j7 c9 c10; (obtain ⟨i0, i1, i2, i3, i4, i5, i6, i7⟩ := (HA5.out.only HO.out (Nat.not_le.2 HA5.out.lt)).eight); (obtain ⟨j0, j1, j2, j3, j4, j5, j6, j7⟩ := (HB5.out.only HO.out (Nat.not_le.2 HB5.out.lt)).eight); have c9 := (HC5.out.only HO.out (Nat.not_le.2 HC5.out.lt)).cell 9; have c10 := (HC5.out.only HO.out (Nat.not_le.2 HC5.out.lt)).cell 10; simp only [List.getElem?_cons_succ, List.getElem?_cons_zero] at c9 c10) | (go_at_call 9; (with_reducible refine (HAL.out _ HO.out).mono ?_); rintro e wz ⟨rfl, ho⟩; (replace HO := Lib.hid (on_new HO.out ho)); clear ho))
              go_ret
              exact ⟨rfl, on_new HOB.out HO.out⟩
            · cases q1 with
              | false =>
                clear hc
                go_wp2_with (first | (go_at_call 7; (with_reducible refine (HF1.out _ HO.out).mono ?_); rintro e wa ⟨rfl, ho⟩; (replace HO := Lib.hid (on_new HO.out ho)); clear ho i0 i1 i2 i3 i4 i5 i6 i7 j0 j1 j2 j3 j4 j5 j6 j7 c9 c10; (obtain ⟨i0, i1, i2, i3, i4, i5, i6, i7⟩ := (HA5.out.only HO.out (Nat.not_le.2 HA5.out.lt)).eight); (obtain ⟨j0, j1, j2, j3, j4, j5, j6, j7⟩ := (HB5.out.only HO.out (Nat.not_le.2 HB5.out.lt)).eight); have c9 := (HC5.out.only HO.out (Nat.not_le.2 HC5.out.lt)).cell 9; have c10 := (HC5.out.only HO.out (Nat.not_le.2 HC5.out.lt)).cell 10; simp only [List.getElem?_cons_succ, List.getElem?_cons_zero] at c9 c10) | (go_at_call 7; (with_reducible refine (HF2.out _ HO.out).mono ?_); rintro e wa ⟨rfl, ho⟩; (replace HO := Lib.hid (on_new HO.out ho)); clear ho i0 i1 i2 i3 i4 i5 i6 i7 j0 j1 j2 j3 j4 j5 j6 j7 c9 c10; (obtain ⟨i0, i1, i2, i3, i4, i5, i6, i7⟩ := (HA5.out.only HO.out (Nat.not_le.2 HA5.out.lt)).eight); (obtain ⟨j0, j1, j2, j3, j4, j5, j6, j7⟩ := (HB5.out.only HO.out (Nat.not_le.2 HB5.out.lt)).eight); have c9 := (HC5.out.only HO.out (Nat.not_le.2 HC5.out.lt)).cell 9; have c10 := (HC5.out.only HO.out (Nat.not_le.2 HC5.out.lt)).cell 10; simp only [List.getElem?_cons_succ, List.getElem?_cons_zero] at c9 c10) | (go_at_call 7; (with_reducible refine (HF3.out _ HO.out).mono ?_); rintro e wa ⟨rfl, ho⟩; (replace HO := Lib.hid (on_new HO.out ho)); clear ho i0 i1 i2 i3 i4 i5 i6 i7 j0 j1 j2 j3 j4 j5 j6 j7 c9 c10; (obtain ⟨i0, i1, i2, i3, i4, i5, i6, i7⟩ := (HA5.out.only HO.out (Nat.not_le.2 HA5.out.lt)).eight); (obtain ⟨j0, j1, j2, j3, j4, j5, j6, j7⟩ := (HB5.out.only HO.out (Nat.not_le.2 HB5.out.lt)).eight); have c9 := (HC5.out.only HO.out (Nat.not_le.2 HC5.out.lt)).cell 9; have c10 := (HC5.out.only HO.out (Nat.not_le.2 HC5.out.lt)).cell 10; simp only [List.getElem?_cons_succ, List.getElem?_cons_zero] at c9 c10) | (go_at_call 8; (with_reducible refine (HR1.out _ HO.out).mono ?_); rintro e wa ⟨rfl, ho⟩; (replace HO := Lib.hid (on_new HO.out ho)); clear ho i0 i1 i2 i3 i4 i5 i6 i7 j0 j1 j2 j3 j4 j5 j6 j7 c9 c10; (obtain ⟨i0, i1, i2, i3, i4, i5, i6, i7⟩ := (HA5.out.only HO.out (Nat.not_le.2 HA5.out.lt)).eight); (obtain ⟨j0, j1, j2, j3, j4, j5, j6, j7⟩ := (HB5.out.only HO.out (Nat.not_le.2 HB5.out.lt)).eight); have c9 := (HC5.out.only HO.out (Nat.not_le.2 HC5.out.lt)).cell 9; have c10 := (HC5.out.only HO.out (Nat.not_le.2 HC5.out.lt)).cell 10; simp only [List.getElem?_cons_succ, List.getElem?_cons_zero] at c9 c10) | (go_at_call 8; (with_reducible refine (HR2.out _ HO.out).mono ?_); rintro e wa ⟨rfl, ho⟩; (replace HO := Lib.hid (on_new HO.out ho)); clear ho i0 i1 i2 i3 i4 i5 i6 i7 j0 j1 j2 j3 j4 j5 j6 j7 c9 c10; (obtain ⟨i0, i1, i2, i3, i4, i5, i6, i7⟩ := (HA5.out.only HO.out (Nat.not_le.2 HA5.out.lt)).eight); (obtain ⟨j0, j1, j2, j3, j4, j5, j6, j7⟩ := (HB5.out.only HO.out (Nat.not_le.2 HB5.out.lt)).eight); have c9 := (HC5.out.only HO.out (Nat.not_le.2 HC5.out.lt)).cell 9; have c10 := (HC5.out.only HO.out (Nat.not_le.2 HC5.out.lt)).cell 10; simp only [List.getElem?_cons_succ, List.getElem?_cons_zero] at c9 c10) | (go_at_call 9; (with_reducible refine (HAL.out _ HO.out).mono ?_); rintro e wz ⟨rfl, ho⟩; (replace HO := Lib.hid (on_new HO.out ho)); clear ho))
                go_ret
                exact ⟨rfl, on_new HOB.out HO.out⟩
              | true =>
                obtain rfl : q2 = false := by
                  rcases hc with h | h | h | h | h | h | h | h
                  · cases h
                  · cases h
                  · cases h
                  · exact absurd h h1
                  · exact absurd h h2
                  · exact absurd h h3
                  · cases h
                  · exact h
                clear hc
                go_wp2_with (first | (go_at_call 7; (with_reducible refine (HF1.out _ HO.out).mono ?_); rintro e wa ⟨rfl, ho⟩; (replace HO := Lib.hid (on_new HO.out ho)); clear ho i0 i1 i2 i3 i4 i5 i6 i7 j0 j1 j2 j3 j4 j5 j6 j7 c9 c10; (obtain ⟨i0, i1, i2, i3, i4, i5, i6, i7⟩ := (HA5.out.only HO.out (Nat.not_le.2 HA5.out.lt)).eight); (obtain ⟨j0, j1, j2, j3, j4, j5, j6, j7⟩ := (HB5.out.only HO.out (Nat.not_le.2 HB5.out.lt)).eight); have c9 := (HC5.out.only HO.out (Nat.not_le.2 HC5.out.lt)).cell 9; have c10 := (HC5.out.only HO.out (Nat.not_le.2 HC5.out.lt)).cell 10; simp only [List.getElem?_cons_succ, List.getElem?_cons_zero] at c9 c10) | (go_at_call 7; (with_reducible refine (HF2.out _ HO.out).mono ?_); rintro e wa ⟨rfl, ho⟩; (replace HO := Lib.hid (on_new HO.out ho)); clear ho i0 i1 i2 i3 i4 i5 i6 i7 j0 j1 j2 j3 j4 j5 j6 j7 c9 c10; (obtain ⟨i0, i1, i2, i3, i4, i5, i6, i7⟩ := (HA5.out.only HO.out (Nat.not_le.2 HA5.out.lt)).eight); (obtain ⟨j0, j1, j2, j3, j4, j5, j6, j7⟩ := (HB5.out.only HO.out (Nat.not_le.2 HB5.out.lt)).eight); have c9 := (HC5.out.only HO.out (Nat.not_le.2 HC5.out.lt)).cell 9; have c10 := (HC5.out.only HO.out (Nat.not_le.2 HC5.out.lt)).cell 10; simp only [List.getElem?_cons_succ, List.getElem?_cons_zero] at c9 c10) | (go_at_call 7; (with_reducible refine (HF3.out _ HO.out).mono ?_); rintro e wa ⟨rfl, ho⟩; (replace HO := Lib.hid (on_new HO.out ho)); clear ho i0 i1 i2 i3 i4 i5 i6 i7 j0 j1 j2 j3 j4 j5 j6 j7 c9 c10; (obtain ⟨i0, i1, i2, i3, i4, i5, i6, i7⟩ := (HA5.out.only HO.out (Nat.not_le.2 HA5.out.lt)).eight); (obtain ⟨j0, j1, j2, j3, j4, j5, j6, j7⟩ := (HB5.out.only HO.out (Nat.not_le.2 HB5.out.lt)).eight); have c9 := (HC5.out.only HO.out (Nat.not_le.2 HC5.out.lt)).cell 9; have c10 := (HC5.out.only HO.out (Nat.not_le.2 HC5.out.lt)).cell 10; simp only [List.getElem?_cons_succ, List.getElem?_cons_zero] at c9 c10) | (go_at_call 8; (with_reducible refine (HR1.out _ HO.out).mono ?_); rintro e wa ⟨rfl, ho⟩; (replace HO := Lib.hid (on_new HO.out ho)); clear ho i0 i1 i2 i3 i4 i5 i6 i7 j0 j1 j2 j3 j4 j5 j6 j7 c9 c10; (obtain ⟨i0, i1, i2, i3, i4, i5, i6, i7⟩ := (HA5.out.only HO.out (Nat.not_le.2 HA5.out.lt)).eight); (obtain ⟨j0, j1, j2, j3, j4, j5, j6, j7⟩ := (HB5.out.only HO.out (Nat.not_le.2 HB5.out.lt)).eight); have c9 := (HC5.out.only HO.out (Nat.not_le.2 HC5.out.lt)).cell 9; have c10 := (HC5.out.only HO.out (Nat.not_le.2 HC5.out.lt)).cell 10; simp only [List.getElem?_cons_succ, List.getElem?_cons_zero] at c9 c10) | (go_at_call 8; (with_reducible refine (HR2.out _ HO.out).mono ?_); rintro e wa ⟨rfl, ho⟩; (replace HO := Lib.hid (on_new HO.out ho)); clear ho i0 i1 i2 i3 i4 i5 i6 i7 j0 j1 j2 j3 j4 j5 j6 j7 c9 c10; (obtain ⟨i0, i1, i2, i3, i4, i5, i6, i7⟩ := (HA5.out.only HO.out (Nat.not_le.2 HA5.out.lt)).eight); (obtain ⟨j0, j1, j2, j3, j4, j5, j6, j7⟩ := (HB5.out.only HO.out (Nat.not_le.2 HB5.out.lt)).eight); have c9 := (HC5.out.only HO.out (Nat.not_le.2 HC5.out.lt)).cell 9; have c10 := (HC5.out.only HO.out (Nat.not_le.2 HC5.out.lt)).cell 10; simp only [List.getElem?_cons_succ, List.getElem?_cons_zero] at c9 c10) | (go_at_call 9; (with_reducible refine (HAL.out _ HO.out).mono ?_); rintro e wz ⟨rfl, ho⟩; (replace HO := Lib.hid (on_new HO.out ho)); clear ho))
                go_ret
                exact ⟨rfl, on_new HOB.out HO.out⟩
end Go.Proofs.YtopaponemjaenaaDoor
