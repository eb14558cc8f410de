/-
  PagerTwo: the walk.
-/
import Derived.Test.YtopaponemjaenaaDoorPgn
import Derived.Laws.CopyOwn
set_option linter.unusedVariables false
namespace Go.Proofs.YtopaponemjaenaaDoor
open Go.RowKit

theorem gave_only {w0 W W' : World} {q p : Nat} {d d' : Dk.Dsk} {D : Nat → Prop} (h : Env w0 W q p d D) (hg : PGave W W' q p d' D) : Only (w0.heap.size ≤ ·) w0 W' := by
  obtain ⟨D', he, _⟩ := h.gave hg
  exact he.only
theorem rmSame_eq (w : World) (g ph t x r p l : Int) (A B : Option Addr) (n c d : Nat) (xs : Bytes) (hx : Src w (.slice A n c) xs) (hy : Src w (.slice B n d) xs) :
    Calls Tryd.prog 22 #[.agg #[.int .i64 g, .int .i64 ph, .int .i64 t, .int .i64 x, .int .i64 r, .int .i64 p, .int .i64 l, .slice A n c], .agg #[.int .i64 g, .int .i64 ph, .int .i64 t, .int .i64 x, .int .i64 r, .int .i64 p, .int .i64 l, .slice B n d]] w (Told w (.bool true)) := by
  have h := rmSame_c w g ph t x r p l g ph t x r p l A B n c n d xs xs hx hy
  rwa [decide_eq_true rfl, decide_eq_true rfl] at h
theorem new_at (W : World) (q p : Nat) (d : Dk.Dsk) (D : Nat → Prop) (h : PAt W q p d D) (hG : Gens W) {g ph t x r pg l : Int} {xs : Bytes} {s : Nat} {n : Nat} (hne : n = xs.length) (hn : nwP d = ⟨[g, ph, t, x, r, pg, l], xs, (s : Int), 92⟩) : Calls Tryd.prog 19 #[.pointer (some ⟨q, 0, none⟩)] W fun e w' => ∃ A c, e = .returned (.tuple #[.agg #[.int .i64 g, .int .i64 ph, .int .i64 t, .int .i64 x, .int .i64 r, .int .i64 pg, .int .i64 l, .slice A n c], .int .i64 (s : Int), .int .i64 0]) ∧ New w' W.heap.size (.slice A n c) xs ∧ Only (W.heap.size ≤ ·) W w' := by
  refine (PgNewest_c W q p d D h hG).mono ?_
  rintro e w' ⟨g', ph', t', x', r', p', l', A, n', c, h1, h2, rfl, h3, h4⟩
  rw [hn] at h1 h2 h3
  simp only [List.cons.injEq, and_true] at h1
  obtain ⟨rfl, rfl, rfl, rfl, rfl, rfl, rfl⟩ := h1
  rw [← hne] at h2
  subst h2
  rw [hn]
  have e1 : (if (0 : Int) ≤ (s : Int) then (0 : Int) else 92) = 0 := if_pos (Int.natCast_nonneg s)
  exact ⟨A, c, by rw [e1], h3, h4⟩
theorem DLoad_d (w : World) (A : Option Addr) (n c : Nat) (xs : Bytes) (hs : Src w (.slice A n c) xs) (limit : Int) : Calls Tryd.prog 21 #[.slice A n c, .int .i64 limit] w fun e w' => ∃ p D, e = .returned (.pointer (some ⟨p, 0, none⟩)) ∧ DAt w' p (Dk.Dsk.load xs limit) D ∧ (∀ k, D k → w.heap.size ≤ k) ∧ Only (w.heap.size ≤ ·) w w' := by
  obtain ⟨A0, c0, e0, ht, hA, hc, hm⟩ := hs
  simp only [Value.slice.injEq] at e0
  obtain ⟨e1, e2, e3⟩ := e0
  subst e1 e2 e3
  refine (Dk.Load_c w (fun k => w.heap.size ≤ k) (fun _ h => h) A c xs limit ⟨cb_length xs, fun hn => ?_⟩ hc (by simp only [maxLen]; omega)).mono ?_
  · obtain ⟨ad, e, hcells⟩ := ht.2 hn
    exact ⟨ad, e, Nat.not_le.2 (by rw [e] at ht; exact ht.block hn), hcells⟩
  · rintro e w' ⟨p, rfl, h1, h2⟩
    exact ⟨p, fun k => w.heap.size ≤ k ∧ k < w'.heap.size, rfl, ⟨h1.mono fun k hk hF => ⟨hF, hk⟩, fun k hk => hk.2⟩, fun k hk => hk.1, h2⟩
set_option maxRecDepth 100000 in
set_option maxHeartbeats 12800000 in
theorem ptwo_early (w : World) (hG : Gens w) (g ph t x r p l : Int) (A : Option Addr) (n c : Nat) (RA : Option Addr) (rn rc : Nat) (ws : List Wt) (RB : Option Addr) (sn sc : Nat) (vs : List Wt) (h : Wts w (.slice RA rn rc) ws) (h' : Wts w (.slice RB sn sc) vs) (hsum : ∀ y ∈ ws, y.2.length ≤ 140737488355328) (hsum' : ∀ y ∈ vs, y.2.length ≤ 140737488355328) (hI : ∀ y ∈ ws, I64v y.1) (hI' : ∀ y ∈ vs, I64v y.1) (hc : fewP ws p n = false ∨ fewP vs p n = false ∨ pgRight (okM g ph t x r p l n) p ws = false ∨ pgRight (okM g ph t (wrap64 (x + 1)) r p l n) p vs = false) : Calls Tryd.prog 5 #[.agg #[.int .i64 g, .int .i64 ph, .int .i64 t, .int .i64 x, .int .i64 r, .int .i64 p, .int .i64 l, .slice A n c], .slice RA rn rc, .slice RB sn sc] w (Told w (.bool true)) := by
  obtain ⟨x', hx'⟩ : ∃ z, z = wrap64 (x + 1) := ⟨_, rfl⟩
  rw [← hx'] at hc
  obtain ⟨f1, hf1⟩ : ∃ z, z = fewP ws p n := ⟨_, rfl⟩
  obtain ⟨f2, hf2⟩ : ∃ z, z = fewP vs p n := ⟨_, rfl⟩
  obtain ⟨q1, hq1⟩ : ∃ z, z = pgRight (okM g ph t x r p l n) p ws := ⟨_, rfl⟩
  obtain ⟨q2, hq2⟩ : ∃ z, z = pgRight (okM g ph t x' r p l n) p vs := ⟨_, rfl⟩
  rw [← hf1, ← hf2, ← hq1, ← hq2] at hc
  obtain ⟨w1, hw1⟩ : ∃ W0, W0 = w.alloc (.cells #[.int .i64 g, .int .i64 ph, .int .i64 t, .int .i64 x, .int .i64 r, .int .i64 p, .int .i64 l, .slice A n c] 25) := ⟨_, rfl⟩
  obtain ⟨w2, hw2⟩ : ∃ W0, W0 = w1.alloc (.cells #[.int .i64 g, .int .i64 ph, .int .i64 t, .int .i64 x, .int .i64 r, .int .i64 p, .int .i64 l, .slice A n c] 25) := ⟨_, rfl⟩
  obtain ⟨w3, hw3⟩ : ∃ W0, W0 = w2.setCell ⟨w1.heap.size, 3, none⟩ (.int .i64 (x')) := ⟨_, rfl⟩
  have HO1 : Hid (Only (w.heap.size ≤ ·) w w1) := Lib.hid (by rw [hw1]; exact (Only.refl _ w).alloc (fun _ h => h) _)
  have HO2 : Hid (Only (w1.heap.size ≤ ·) w1 w2) := Lib.hid (by rw [hw2]; exact (Only.refl _ w1).alloc (fun _ h => h) _)
  have HO23 : Hid (Only (· = w1.heap.size) w2 w3) := Lib.hid (by rw [hw3]; exact (Only.refl (· = w1.heap.size) w2).setCell (p := ⟨w1.heap.size, 3, none⟩) rfl _)
  have HA1 : Hid (Blk w1 w.heap.size 25 [.int .i64 g, .int .i64 ph, .int .i64 t, .int .i64 x, .int .i64 r, .int .i64 p, .int .i64 l, .slice A n c]) := Lib.hid (by rw [hw1]; exact Blk.new w 25 _)
  have HA2 : Hid (Blk w2 w.heap.size 25 [.int .i64 g, .int .i64 ph, .int .i64 t, .int .i64 x, .int .i64 r, .int .i64 p, .int .i64 l, .slice A n c]) := Lib.hid (HA1.out.only HO2.out (Nat.not_le.2 HA1.out.lt))
  have HB2 : Hid (Blk w2 w1.heap.size 25 [.int .i64 g, .int .i64 ph, .int .i64 t, .int .i64 x, .int .i64 r, .int .i64 p, .int .i64 l, .slice A n c]) := Lib.hid (by rw [hw2]; exact Blk.new w1 25 _)
  have HNE1 : Hid (w.heap.size < w1.heap.size) := Lib.hid HA1.out.lt
  have HA : Hid (Blk w3 w.heap.size 25 [.int .i64 g, .int .i64 ph, .int .i64 t, .int .i64 x, .int .i64 r, .int .i64 p, .int .i64 l, .slice A n c]) := Lib.hid (HA2.out.only HO23.out (fun e => by have h := HNE1.out; omega))
  have HB : Hid (Blk w3 w1.heap.size 25 [.int .i64 g, .int .i64 ph, .int .i64 t, .int .i64 x', .int .i64 r, .int .i64 p, .int .i64 l, .slice A n c]) := Lib.hid (by rw [hw3]; exact HB2.out.set_ 3 (.int .i64 (x')))
  have HOB : Hid (Only (w.heap.size ≤ ·) w w3) := Lib.hid ((on_new HO1.out HO2.out).trans (HO23.out.mono fun k hk => by rw [hk]; exact HO1.out.size))
  have HE1 := Lib.hid hw1
  have HE2 := Lib.hid hw2
  have HE3 := Lib.hid hw3
  clear hw1 hw2 hw3
  have HF1 : Hid (∀ W, Only (w3.heap.size ≤ ·) w3 W → Calls Tryd.prog 7 #[.slice RA rn rc, .agg #[.int .i64 g, .int .i64 ph, .int .i64 t, .int .i64 x, .int .i64 r, .int .i64 p, .int .i64 l, .slice A n c]] W (Told W (.bool f1))) := Lib.hid (fun W hW => by rw [hf1]; exact Pgfew_w W g ph t x r p l A n c RA rn rc ws (Rw.later h (on_new HOB.out hW)) hsum)
  have HF2 : Hid (∀ W, Only (w3.heap.size ≤ ·) w3 W → Calls Tryd.prog 7 #[.slice RB sn sc, .agg #[.int .i64 g, .int .i64 ph, .int .i64 t, .int .i64 x', .int .i64 r, .int .i64 p, .int .i64 l, .slice A n c]] W (Told W (.bool f2))) := Lib.hid (fun W hW => by rw [hf2]; exact Pgfew_w W g ph t x' r p l A n c RB sn sc vs (Rw.later h' (on_new HOB.out hW)) hsum')
  have HR1 : Hid (∀ W, Only (w3.heap.size ≤ ·) w3 W → Calls Tryd.prog 8 #[.slice RA rn rc, .agg #[.int .i64 g, .int .i64 ph, .int .i64 t, .int .i64 x, .int .i64 r, .int .i64 p, .int .i64 l, .slice A n c]] W (Told W (.bool q1))) := Lib.hid (fun W hW => by rw [hq1]; exact rPgRight_c W g ph t x r p l A n c RA rn rc ws (Rw.later h (on_new HOB.out hW)) hI)
  have HR2 : Hid (∀ W, Only (w3.heap.size ≤ ·) w3 W → Calls Tryd.prog 8 #[.slice RB sn sc, .agg #[.int .i64 g, .int .i64 ph, .int .i64 t, .int .i64 x', .int .i64 r, .int .i64 p, .int .i64 l, .slice A n c]] W (Told W (.bool q2))) := Lib.hid (fun W hW => by rw [hq2]; exact rPgRight_c W g ph t x' r p l A n c RB sn sc vs (Rw.later h' (on_new HOB.out hW)) hI')
  have HAL : Hid (∀ W, Only (w3.heap.size ≤ ·) w3 W → Calls Tryd.prog 9 #[] W (Told W (.bool true))) := Lib.hid fun W hW => Pgalive_c W (hG.later (on_new HOB.out hW))
  clear h h' hsum hsum' hI hI' hG hf1 hf2 hq1 hq2
  have hx2 : wrap64 (x + 1) = x' := hx'.symm
  clear hx'
  obtain ⟨_, _, _, i3, _, _, _, _⟩ := HA2.out.eight
  obtain ⟨_, _, _, j3, _, _, _, _⟩ := HB2.out.eight
  have z3 := HB2.out.frozen 3
  obtain ⟨h0, h1, h2, h3, h4, h5, h6, h7⟩ := HA1.out.eight
  go_enter Tryd.func5, Tryd.ntmps5
  go_upto_region 1 with (fail)
  rw [← HE1.out]
  go_upto_region 2 with (fail)
  rw [← HE2.out]
  clear h0 h1 h2 h3 h4 h5 h6 h7
  go_upto_region 3 with (fail)
  rw [← HE3.out]
  clear i3 j3 z3 HE1 HE2 HE3 HA1 HA2 HB2 HO2 HO23 HO1
  generalize hbz : w1.heap.size = b7 at HB HNE1 ⊢
  clear hbz
  have HO : Hid (Only (w3.heap.size ≤ ·) w3 w3) := Lib.hid (Only.refl _ w3)
  (obtain ⟨i0, i1, i2, i3, i4, i5, i6, i7⟩ := HA.out.eight)
  (obtain ⟨j0, j1, j2, j3, j4, j5, j6, j7⟩ := HB.out.eight)
  cases f1 with
  | false =>
    clear hc
    go_wp2_with (first | (go_at_call 7; (with_reducible refine (HF1.out _ HO.out).mono ?_); rintro e wa ⟨rfl, ho⟩; (replace HO := Lib.hid (on_new HO.out ho)); clear ho i0 i1 i2 i3 i4 i5 i6 i7 j0 j1 j2 j3 j4 j5 j6 j7; (obtain ⟨i0, i1, i2, i3, i4, i5, i6, i7⟩ := (HA.out.only HO.out (Nat.not_le.2 HA.out.lt)).eight); (obtain ⟨j0, j1, j2, j3, j4, j5, j6, j7⟩ := (HB.out.only HO.out (Nat.not_le.2 HB.out.lt)).eight)) | (go_at_call 7; (with_reducible refine (HF2.out _ HO.out).mono ?_); rintro e wa ⟨rfl, ho⟩; (replace HO := Lib.hid (on_new HO.out ho)); clear ho i0 i1 i2 i3 i4 i5 i6 i7 j0 j1 j2 j3 j4 j5 j6 j7; (obtain ⟨i0, i1, i2, i3, i4, i5, i6, i7⟩ := (HA.out.only HO.out (Nat.not_le.2 HA.out.lt)).eight); (obtain ⟨j0, j1, j2, j3, j4, j5, j6, j7⟩ := (HB.out.only HO.out (Nat.not_le.2 HB.out.lt)).eight)) | (go_at_call 8; (with_reducible refine (HR1.out _ HO.out).mono ?_); rintro e wa ⟨rfl, ho⟩; (replace HO := Lib.hid (on_new HO.out ho)); clear ho i0 i1 i2 i3 i4 i5 i6 i7 j0 j1 j2 j3 j4 j5 j6 j7; (obtain ⟨i0, i1, i2, i3, i4, i5, i6, i7⟩ := (HA.out.only HO.out (Nat.not_le.2 HA.out.lt)).eight); (obtain ⟨j0, j1, j2, j3, j4, j5, j6, j7⟩ := (HB.out.only HO.out (Nat.not_le.2 HB.out.lt)).eight)) | (go_at_call 8; (with_reducible refine (HR2.out _ HO.out).mono ?_); rintro e wa ⟨rfl, ho⟩; (replace HO := Lib.hid (on_new HO.out ho)); clear ho i0 i1 i2 i3 i4 i5 i6 i7 j0 j1 j2 j3 j4 j5 j6 j7; (obtain ⟨i0, i1, i2, i3, i4, i5, i6, i7⟩ := (HA.out.only HO.out (Nat.not_le.2 HA.out.lt)).eight); (obtain ⟨j0, j1, j2, j3, j4, j5, j6, j7⟩ := (HB.out.only HO.out (Nat.not_le.2 HB.out.lt)).eight)) | (go_at_call 9; (with_reducible refine (HAL.out _ HO.out).mono ?_); rintro e wz ⟨rfl, ho⟩; (replace HO := Lib.hid (on_new HO.out ho)); clear ho))
    go_ret
    exact ⟨rfl, on_new HOB.out HO.out⟩
  | true =>
    cases f2 with
    | false =>
      clear hc
      go_wp2_with (first | (go_at_call 7; (with_reducible refine (HF1.out _ HO.out).mono ?_); rintro e wa ⟨rfl, ho⟩; (replace HO := Lib.hid (on_new HO.out ho)); clear ho i0 i1 i2 i3 i4 i5 i6 i7 j0 j1 j2 j3 j4 j5 j6 j7; (obtain ⟨i0, i1, i2, i3, i4, i5, i6, i7⟩ := (HA.out.only HO.out (Nat.not_le.2 HA.out.lt)).eight); (obtain ⟨j0, j1, j2, j3, j4, j5, j6, j7⟩ := (HB.out.only HO.out (Nat.not_le.2 HB.out.lt)).eight)) | (go_at_call 7; (with_reducible refine (HF2.out _ HO.out).mono ?_); rintro e wa ⟨rfl, ho⟩; (replace HO := Lib.hid (on_new HO.out ho)); clear ho i0 i1 i2 i3 i4 i5 i6 i7 j0 j1 j2 j3 j4 j5 j6 j7; (obtain ⟨i0, i1, i2, i3, i4, i5, i6, i7⟩ := (HA.out.only HO.out (Nat.not_le.2 HA.out.lt)).eight); (obtain ⟨j0, j1, j2, j3, j4, j5, j6, j7⟩ := (HB.out.only HO.out (Nat.not_le.2 HB.out.lt)).eight)) | (go_at_call 8; (with_reducible refine (HR1.out _ HO.out).mono ?_); rintro e wa ⟨rfl, ho⟩; (replace HO := Lib.hid (on_new HO.out ho)); clear ho i0 i1 i2 i3 i4 i5 i6 i7 j0 j1 j2 j3 j4 j5 j6 j7; (obtain ⟨i0, i1, i2, i3, i4, i5, i6, i7⟩ := (HA.out.only HO.out (Nat.not_le.2 HA.out.lt)).eight); (obtain ⟨j0, j1, j2, j3, j4, j5, j6, j7⟩ := (HB.out.only HO.out (Nat.not_le.2 HB.out.lt)).eight)) | (go_at_call 8; (with_reducible refine (HR2.out _ HO.out).mono ?_); rintro e wa ⟨rfl, ho⟩; (replace HO := Lib.hid (on_new HO.out ho)); clear ho i0 i1 i2 i3 i4 i5 i6 i7 j0 j1 j2 j3 j4 j5 j6 j7; (obtain ⟨i0, i1, i2, i3, i4, i5, i6, i7⟩ := (HA.out.only HO.out (Nat.not_le.2 HA.out.lt)).eight); (obtain ⟨j0, j1, j2, j3, j4, j5, j6, j7⟩ := (HB.out.only HO.out (Nat.not_le.2 HB.out.lt)).eight)) | (go_at_call 9; (with_reducible refine (HAL.out _ HO.out).mono ?_); rintro e wz ⟨rfl, ho⟩; (replace HO := Lib.hid (on_new HO.out ho)); clear ho))
      go_ret
      exact ⟨rfl, on_new HOB.out HO.out⟩
    | true =>
      cases q1 with
      | false =>
        clear hc
        go_wp2_with (first | (go_at_call 7; (with_reducible refine (HF1.out _ HO.out).mono ?_); rintro e wa ⟨rfl, ho⟩; (replace HO := Lib.hid (on_new HO.out ho)); clear ho i0 i1 i2 i3 i4 i5 i6 i7 j0 j1 j2 j3 j4 j5 j6 j7; (obtain ⟨i0, i1, i2, i3, i4, i5, i6, i7⟩ := (HA.out.only HO.out (Nat.not_le.2 HA.out.lt)).eight); (obtain ⟨j0, j1, j2, j3, j4, j5, j6, j7⟩ := (HB.out.only HO.out (Nat.not_le.2 HB.out.lt)).eight)) | (go_at_call 7; (with_reducible refine (HF2.out _ HO.out).mono ?_); rintro e wa ⟨rfl, ho⟩; (replace HO := Lib.hid (on_new HO.out ho)); clear ho i0 i1 i2 i3 i4 i5 i6 i7 j0 j1 j2 j3 j4 j5 j6 j7; (obtain ⟨i0, i1, i2, i3, i4, i5, i6, i7⟩ := (HA.out.only HO.out (Nat.not_le.2 HA.out.lt)).eight); (obtain ⟨j0, j1, j2, j3, j4, j5, j6, j7⟩ := (HB.out.only HO.out (Nat.not_le.2 HB.out.lt)).eight)) | (go_at_call 8; (with_reducible refine (HR1.out _ HO.out).mono ?_); rintro e wa ⟨rfl, ho⟩; (replace HO := Lib.hid (on_new HO.out ho)); clear ho i0 i1 i2 i3 i4 i5 i6 i7 j0 j1 j2 j3 j4 j5 j6 j7; (obtain ⟨i0, i1, i2, i3, i4, i5, i6, i7⟩ := (HA.out.only HO.out (Nat.not_le.2 HA.out.lt)).eight); (obtain ⟨j0, j1, j2, j3, j4, j5, j6, j7⟩ := (HB.out.only HO.out (Nat.not_le.2 HB.out.lt)).eight)) | (go_at_call 8; (with_reducible refine (HR2.out _ HO.out).mono ?_); rintro e wa ⟨rfl, ho⟩; (replace HO := Lib.hid (on_new HO.out ho)); clear ho i0 i1 i2 i3 i4 i5 i6 i7 j0 j1 j2 j3 j4 j5 j6 j7; (obtain ⟨i0, i1, i2, i3, i4, i5, i6, i7⟩ := (HA.out.only HO.out (Nat.not_le.2 HA.out.lt)).eight); (obtain ⟨j0, j1, j2, j3, j4, j5, j6, j7⟩ := (HB.out.only HO.out (Nat.not_le.2 HB.out.lt)).eight)) | (go_at_call 9; (with_reducible refine (HAL.out _ HO.out).mono ?_); rintro e wz ⟨rfl, ho⟩; (replace HO := Lib.hid (on_new HO.out ho)); clear ho))
        go_ret
        exact ⟨rfl, on_new HOB.out HO.out⟩
      | true =>
        have hc' : q2 = false := ((hc.resolve_left (by decide)).resolve_left (by decide)).resolve_left (by decide)
        subst hc'
        clear hc
        go_wp2_with (first | (go_at_call 7; (with_reducible refine (HF1.out _ HO.out).mono ?_); rintro e wa ⟨rfl, ho⟩; (replace HO := Lib.hid (on_new HO.out ho)); clear ho i0 i1 i2 i3 i4 i5 i6 i7 j0 j1 j2 j3 j4 j5 j6 j7; (obtain ⟨i0, i1, i2, i3, i4, i5, i6, i7⟩ := (HA.out.only HO.out (Nat.not_le.2 HA.out.lt)).eight); (obtain ⟨j0, j1, j2, j3, j4, j5, j6, j7⟩ := (HB.out.only HO.out (Nat.not_le.2 HB.out.lt)).eight)) | (go_at_call 7; (with_reducible refine (HF2.out _ HO.out).mono ?_); rintro e wa ⟨rfl, ho⟩; (replace HO := Lib.hid (on_new HO.out ho)); clear ho i0 i1 i2 i3 i4 i5 i6 i7 j0 j1 j2 j3 j4 j5 j6 j7; (obtain ⟨i0, i1, i2, i3, i4, i5, i6, i7⟩ := (HA.out.only HO.out (Nat.not_le.2 HA.out.lt)).eight); (obtain ⟨j0, j1, j2, j3, j4, j5, j6, j7⟩ := (HB.out.only HO.out (Nat.not_le.2 HB.out.lt)).eight)) | (go_at_call 8; (with_reducible refine (HR1.out _ HO.out).mono ?_); rintro e wa ⟨rfl, ho⟩; (replace HO := Lib.hid (on_new HO.out ho)); clear ho i0 i1 i2 i3 i4 i5 i6 i7 j0 j1 j2 j3 j4 j5 j6 j7; (obtain ⟨i0, i1, i2, i3, i4, i5, i6, i7⟩ := (HA.out.only HO.out (Nat.not_le.2 HA.out.lt)).eight); (obtain ⟨j0, j1, j2, j3, j4, j5, j6, j7⟩ := (HB.out.only HO.out (Nat.not_le.2 HB.out.lt)).eight)) | (go_at_call 8; (with_reducible refine (HR2.out _ HO.out).mono ?_); rintro e wa ⟨rfl, ho⟩; (replace HO := Lib.hid (on_new HO.out ho)); clear ho i0 i1 i2 i3 i4 i5 i6 i7 j0 j1 j2 j3 j4 j5 j6 j7; (obtain ⟨i0, i1, i2, i3, i4, i5, i6, i7⟩ := (HA.out.only HO.out (Nat.not_le.2 HA.out.lt)).eight); (obtain ⟨j0, j1, j2, j3, j4, j5, j6, j7⟩ := (HB.out.only HO.out (Nat.not_le.2 HB.out.lt)).eight)) | (go_at_call 9; (with_reducible refine (HAL.out _ HO.out).mono ?_); rintro e wz ⟨rfl, ho⟩; (replace HO := Lib.hid (on_new HO.out ho)); clear ho))
        go_ret
        exact ⟨rfl, on_new HOB.out HO.out⟩
end Go.Proofs.YtopaponemjaenaaDoor
