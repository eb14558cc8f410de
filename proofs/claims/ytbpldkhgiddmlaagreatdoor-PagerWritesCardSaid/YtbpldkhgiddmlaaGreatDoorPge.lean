/-
  encoded; Newest.
-/
import Derived.Test.YtbpldkhgiddmlaaGreatDoorPgw
import Derived.Test.YtbpldkhgiddmlaaGreatDoorGv
set_option linter.unusedVariables false
namespace Go.Proofs.YtbpldkhgiddmlaaGreatDoor
open Go.RowKit

theorem load_wr {w : World} {q : Nat} {a : Int} {A : Option Addr} {n k : Nat} (h : Blk w q 71 [.int .i64 a, .slice A n k]) : (loadVar 71 ⟨q, 0, none⟩).run Tryz.prog w = .ok (.agg #[.int .i64 a, .slice A n k]) w := by
  have hl := run_loadCells_list (P := Tryz.prog) w ⟨q, 0, none⟩ [.int .i64 a, .slice A n k] (fun j z hz => by rw [Addr.add_lit, h.cell, Nat.zero_add]; exact hz)
  simp only [List.length_cons, List.length_nil] at hl
  simp [loadVar, hl]
theorem New.mono' {w : World} {b b' : Nat} {v : Value} {xs : Bytes} (h : New w b v xs) (hb : b' ≤ b) : New w b' v xs := by
  obtain ⟨A, c, h1, h2, h3, h4, h5, h6⟩ := h
  exact ⟨A, c, h1, h2, h3, h4, h5, fun ad e => ⟨Nat.le_trans hb (h6 ad e).1, (h6 ad e).2⟩⟩
theorem new_own {w : World} {b n : Nat} {v : Value} {xs : Bytes} (h : w.ownsRow b 5 1 v n (cb xs)) : New w b v xs := by
  obtain ⟨A, c, rfl, h1, h2, h3, h4, h5⟩ := raw_of_own h
  have hl : xs.length = n := by have := h.1; rw [cb_length] at this; omega
  subst hl
  obtain ⟨A', c', e, ht, k1, k2, k3⟩ := Src.own h
  simp only [Value.slice.injEq] at e
  obtain ⟨e1, _, e2⟩ := e
  subst e1 e2
  exact ⟨A, c, rfl, ht, k1, k2, k3, fun ad e => by obtain ⟨g, e3, _, e4, e5⟩ := h5 ad e; rw [e3]; exact ⟨e4, e5⟩⟩
/-- A meta that is right, laid as a write. -/
def GaveW (w : World) (x : Int) (b : Bytes) (e : Ending) (w' : World) : Prop := ∃ A c, e = .returned (.agg #[.int .i64 (sl x), .slice A b.length c]) ∧ New w' w.heap.size (.slice A b.length c) b ∧ Only (w.heap.size ≤ ·) w w'
set_option maxRecDepth 100000 in
set_option maxHeartbeats 3200000 in
theorem Pgenc_c (w : World) (g ph t x r p l : Int) (A : Option Addr) (n c : Nat) (hG : Gens w) (xs : Bytes) (hs : Src w (.slice A n c) xs) (hne : n = xs.length) (hI : ∀ u ∈ [g, ph, t, x, r, p, l], I64 u) (hok : okM g ph t x r p l n = true) :
    Calls Tryz.prog 45 #[.agg #[.int .i64 g, .int .i64 ph, .int .i64 t, .int .i64 x, .int .i64 r, .int .i64 p, .int .i64 l, .slice A n c]] w (GaveW w x (encB [g, ph, t, x, r, p, l] xs)) := by
  obtain ⟨w1, hw1⟩ : ∃ W0, W0 = w.alloc (.cells #[.int .i64 g, .int .i64 ph, .int .i64 t, .int .i64 x, .int .i64 r, .int .i64 p, .int .i64 l, .slice A n c] 45) := ⟨_, rfl⟩
  obtain ⟨w2, hw2⟩ : ∃ W0, W0 = w1.alloc (.cells #[.int .i64 0, .slice none 0 0] 71) := ⟨_, rfl⟩
  have HO1 : Hid (Only (w.heap.size ≤ ·) w w1) := Lib.hid (by rw [hw1]; exact (Only.refl _ w).alloc (fun _ h => h) _)
  have HO2 : Hid (Only (w1.heap.size ≤ ·) w1 w2) := Lib.hid (by rw [hw2]; exact (Only.refl _ w1).alloc (fun _ h => h) _)
  have HA : Hid (Blk w2 w.heap.size 45 [.int .i64 g, .int .i64 ph, .int .i64 t, .int .i64 x, .int .i64 r, .int .i64 p, .int .i64 l, .slice A n c]) := Lib.hid (by rw [hw2, hw1]; exact (Blk.new w 45 _).alloc _)
  have HB : Hid (Blk w2 w1.heap.size 71 [.int .i64 0, .slice none 0 0]) := Lib.hid (by rw [hw2]; exact Blk.new w1 71 _)
  have HS1 : Hid (w.heap.size < w1.heap.size) := Lib.hid (by rw [hw1]; simp)
  have HS2 : Hid (w1.heap.size < w2.heap.size) := Lib.hid (by rw [hw2]; simp)
  have HOO := Lib.hid (on_new HO1.out HO2.out)
  have hlen := (enc_back (g := g) (ph := ph) (t := t) (x := x) (r := r) (p := p) (l := l) (xs := xs) (by rw [← hne]; exact hok)).2.2.2
  have HLN := Lib.hid hlen
  have HEN := Lib.hid (MEncode_own w2 g ph t x r p l A n c (hG.later HOO.out) xs (hs.later HOO.out) hne hI hok (mC_out _ _ _))
  have HSL : Hid (∀ W, Calls Tryz.prog 46 #[.int .i64 x] W fun e w' => e = .returned (.int .i64 (sl x)) ∧ W = w') := Lib.hid fun W => MSlot_c W x
  clear hG hs hne hI hok hlen
  obtain ⟨i0, i1, i2, i3, i4, i5, i6, i7⟩ := HA.out.eight
  have hsz : w1.heap.size = w.heap.size + 1 := by rw [hw1]; simp
  obtain ⟨b2, hb2⟩ : ∃ z, z = w.heap.size + 1 := ⟨_, rfl⟩
  rw [hsz, ← hb2] at HB HS1 HS2
  clear hsz
  go_enter Tryz.func45, Tryz.ntmps45
  go_upto_region 1 with (fail)
  rw [← hw1, ← hw2, ← hb2]
  have HOX := HOO
  clear hw1 hw2 HO1 HO2 HOO hb2
  go_upto_region 2 with (go_at_call 65; (with_reducible refine HEN.out.mono ?_); rintro ee w3 ⟨v, rfl, hv, ho⟩; have HV := Lib.hid hv; have HO3 := Lib.hid ho; clear hv ho)
  have HN3 : Hid (New w3 w2.heap.size v (encB [g, ph, t, x, r, p, l] xs)) := Lib.hid (new_own HV.out)
  obtain ⟨VA, vc, rfl, _⟩ := id HN3.out
  have j3 : w3.cell? ⟨w.heap.size, 3, none⟩ = some (.int .i64 x) := (HO3.out.cell (p := ⟨w.heap.size, 3, none⟩) (Nat.not_le.2 HA.out.lt)).trans i3
  have HB3 : Hid (Blk w3 b2 71 [.int .i64 0, .slice none 0 0]) := Lib.hid (HB.out.only HO3.out (Nat.not_le.2 HB.out.lt))
  have c0 := HB3.out.cell 0
  have c1 := HB3.out.cell 1
  have z0 := HB3.out.frozen 0
  have z1 := HB3.out.frozen 1
  clear i0 i1 i2 i3 i4 i5 i6 i7 HEN HV
  go_wp2_with (go_at_call 46; (with_reducible refine (HSL.out _).mono ?_); rintro ee w' ⟨rfl, rfl⟩)
  refine bodyPost_ret (results_cell rfl rfl (load_wr ((HB3.out.set_ 0 (.int .i64 (sl x))).set_ 1 (.slice VA (encB [g, ph, t, x, r, p, l] xs).length vc)))) rfl ?_
  refine ⟨VA, vc, rfl, ?_, (on_new HOX.out HO3.out).trans ((((Only.refl (· = b2) w3).setCell (p := ⟨b2, 0, none⟩) rfl (.int .i64 (sl x))).setCell (p := ⟨b2, 1, none⟩) rfl (.slice VA (encB [g, ph, t, x, r, p, l] xs).length vc)).mono fun k hk => by have := HS1.out; omega)⟩
  refine (HN3.out.keep (((Only.refl (· = b2) w3).setCell (p := ⟨b2, 0, none⟩) rfl (.int .i64 (sl x))).setCell (p := ⟨b2, 1, none⟩) rfl (.slice VA (encB [g, ph, t, x, r, p, l] xs).length vc)) (fun j h1 _ h3 => by have := HS2.out; omega)).mono' (by have := HS1.out; have := HS2.out; omega)

/-- The newest meta of a disk. -/
def nwP (d : Dk.Dsk) : ChS := if d.down = true then ⟨[0, 0, 0, 0, 0, 0, 0], [], -1, 10⟩ else mdC (rdP d 0 1).1 (rdP d 1 1).1
theorem rdP_len {d : Dk.Dsk} {D : Nat → Prop} {id : Int} : (rdP d id 1).1.length ≤ 256 := by
  unfold rdP rdD
  split
  · simp
  · split
    · simp
    · split
      · simp
      · simp only [List.length_take]; omega
set_option maxRecDepth 100000 in
set_option maxHeartbeats 3200000 in
theorem PgNewest_c (w : World) (q p : Nat) (d : Dk.Dsk) (D : Nat → Prop) (h : PAt w q p d D) (hG : Gens w) : Calls Tryz.prog 26 #[.pointer (some ⟨q, 0, none⟩)] w (GaveC w (nwP d)) := by
  obtain ⟨w1, hw1⟩ : ∃ W0, W0 = w.alloc (.cells #[.int .i64 0, .int .i64 0, .int .i64 0, .int .i64 0, .int .i64 0, .int .i64 0, .int .i64 0, .slice none 0 0] 45) := ⟨_, rfl⟩
  have HO : Hid (Only (w.heap.size ≤ ·) w w1) := Lib.hid (by rw [hw1]; exact (Only.refl _ w).alloc (fun _ h => h) _)
  have HA : Hid (Blk w1 w.heap.size 45 [.int .i64 0, .int .i64 0, .int .i64 0, .int .i64 0, .int .i64 0, .int .i64 0, .int .i64 0, .slice none 0 0]) := Lib.hid (by rw [hw1]; exact Blk.new w 45 _)
  have HSW : Hid (w.heap.size < w1.heap.size) := Lib.hid (by rw [hw1]; simp)
  have HP := Lib.hid (h.later HO.out)
  have HG := Lib.hid (hG.later HO.out)
  have hq := HP.out.blk.cell 0
  simp only [List.getElem?_cons_zero] at hq
  have HD := Lib.hid (Dk.Down_c w1 D p d HP.out.dat.holds)
  obtain ⟨dn, hdn⟩ : ∃ z, z = d.down := ⟨_, rfl⟩
  rw [← hdn] at HD
  clear h hG
  cases dn with
  | true =>
    have E : Hid (nwP d = ⟨[0, 0, 0, 0, 0, 0, 0], [], -1, 10⟩) := Lib.hid (if_pos hdn.symm)
    clear hdn
    have HRZ := HA
    have z0 := HRZ.out.frozen 0
    have z1 := HRZ.out.frozen 1
    have z2 := HRZ.out.frozen 2
    have z3 := HRZ.out.frozen 3
    have z4 := HRZ.out.frozen 4
    have z5 := HRZ.out.frozen 5
    have z6 := HRZ.out.frozen 6
    have z7 := HRZ.out.frozen 7
    obtain ⟨i0, i1, i2, i3, i4, i5, i6, i7⟩ := HRZ.out.eight
    go_enter Tryz.func26, Tryz.ntmps26
    go_upto_region 1 with (fail)
    rw [← hw1]
    clear hw1
    go_wp2_with (go_at_call 53; (with_reducible refine HD.out.mono ?_); rintro e w' ⟨rfl, rfl⟩)
    refine bodyPost_ret (results_ctt rfl rfl (load_meta ((((((((HRZ.out.set_ 0 (.int .i64 0)).set_ 1 (.int .i64 0)).set_ 2 (.int .i64 0)).set_ 3 (.int .i64 0)).set_ 4 (.int .i64 0)).set_ 5 (.int .i64 0)).set_ 6 (.int .i64 0)).set_ 7 (.slice none 0 0)))) rfl ?_
    rw [E.out]
    exact ⟨0, 0, 0, 0, 0, 0, 0, none, 0, 0, rfl, rfl, rfl, New.nil_ _ _, HO.out.trans ((((((((((Only.refl (· = w.heap.size) w1).setCell (p := ⟨w.heap.size, 0, none⟩) rfl (.int .i64 0)).setCell (p := ⟨w.heap.size, 1, none⟩) rfl (.int .i64 0)).setCell (p := ⟨w.heap.size, 2, none⟩) rfl (.int .i64 0)).setCell (p := ⟨w.heap.size, 3, none⟩) rfl (.int .i64 0)).setCell (p := ⟨w.heap.size, 4, none⟩) rfl (.int .i64 0)).setCell (p := ⟨w.heap.size, 5, none⟩) rfl (.int .i64 0)).setCell (p := ⟨w.heap.size, 6, none⟩) rfl (.int .i64 0)).setCell (p := ⟨w.heap.size, 7, none⟩) rfl (.slice none 0 0)).mono fun k hk => by omega)⟩
  | false =>
    have E : Hid (nwP d = mdC (rdP d 0 1).1 (rdP d 1 1).1) := Lib.hid (if_neg (by rw [← hdn]; decide))
    clear hdn
    have HP0 := Lib.hid (PgPage_c w1 q p d D HP.out 0)
    have HP1 : Hid (∀ W, Only (w1.heap.size ≤ ·) w1 W → Calls Tryz.prog 25 #[.pointer (some ⟨q, 0, none⟩), .int .i64 1] W (GaveBy W (rdP d 1 1))) := Lib.hid (fun W hW => PgPage_c W q p d D (HP.out.later hW) 1)
    obtain ⟨A0, hA0⟩ : ∃ z, z = rdP d 0 1 := ⟨_, rfl⟩
    obtain ⟨A1, hA1⟩ : ∃ z, z = rdP d 1 1 := ⟨_, rfl⟩
    have HL0 : Hid (A0.1.length ≤ 256) := Lib.hid (by rw [hA0]; exact rdP_len (D := D))
    have HL1 : Hid (A1.1.length ≤ 256) := Lib.hid (by rw [hA1]; exact rdP_len (D := D))
    rw [← hA0] at HP0 E
    rw [← hA1] at HP1 E
    clear hA0 hA1
    obtain ⟨C, hC⟩ : ∃ z, z = mdC A0.1 A1.1 := ⟨_, rfl⟩
    have HCC := Lib.hid hC
    rw [← hC] at E
    clear hC
    go_enter Tryz.func26, Tryz.ntmps26
    go_upto_region 1 with (fail)
    rw [← hw1]
    clear hw1
    go_upto_region 5 with (first
      | (go_at_call 53; (with_reducible refine HD.out.mono ?_); rintro e w' ⟨rfl, rfl⟩)
      | (go_at_call 25; (with_reducible refine HP0.out.mono ?_); rintro e w2 ⟨v0, rfl, hn0, ho2⟩; have HN0 := Lib.hid hn0; have HO2 := Lib.hid ho2; clear hn0 ho2)
      | (go_at_call 25; (with_reducible refine (HP1.out _ HO2.out).mono ?_); rintro e w3 ⟨v1, rfl, hn1, ho3⟩; have HN1 := Lib.hid hn1; have HO3 := Lib.hid ho3; clear hn1 ho3))
    have HOA := Lib.hid (on_new HO2.out HO3.out)
    have HCH := Lib.hid (MChoose_c w3 v0 v1 A0.1 A1.1 (HG.out.later HOA.out) (HN0.out.src.later HO3.out) HN1.out.src (by have := HL0.out; omega) (by have := HL1.out; omega))
    rw [← HCC.out] at HCH
    obtain ⟨zr, hzr⟩ : ∃ z, z = (if 0 ≤ C.at_ then (0 : Int) else C.why) := ⟨_, rfl⟩
    unfold GaveC at HCH
    rw [← hzr] at HCH
    have HZR := Lib.hid hzr
    clear hzr
    go_wp2_with (go_at_call 56; (with_reducible refine HCH.out.mono ?_); rintro e w4 ⟨g, ph, t, x, r, p', l, A, n, c, hN, hn, rfl, hw, ho4⟩; have HE := Lib.hid (And.intro hN hn); have HNW := Lib.hid hw; have HO4 := Lib.hid (on_new HOA.out ho4); have HS4 := Lib.hid (Nat.le_trans (Nat.lt_of_lt_of_le HSW.out HOA.out.size) (Nat.le_refl _)); clear hN hn hw ho4; have HRZ := Lib.hid (HA.out.only HO4.out (Nat.not_le.2 HA.out.lt)); obtain ⟨i0, i1, i2, i3, i4, i5, i6, i7⟩ := HRZ.out.eight; have z0 := HRZ.out.frozen 0; have z1 := HRZ.out.frozen 1; have z2 := HRZ.out.frozen 2; have z3 := HRZ.out.frozen 3; have z4 := HRZ.out.frozen 4; have z5 := HRZ.out.frozen 5; have z6 := HRZ.out.frozen 6; have z7 := HRZ.out.frozen 7)
    refine bodyPost_ret (results_ctt rfl rfl (load_meta ((((((((HRZ.out.set_ 0 (.int .i64 g)).set_ 1 (.int .i64 ph)).set_ 2 (.int .i64 t)).set_ 3 (.int .i64 x)).set_ 4 (.int .i64 r)).set_ 5 (.int .i64 p')).set_ 6 (.int .i64 l)).set_ 7 (.slice A n c)))) rfl ?_
    rw [E.out]
    refine ⟨g, ph, t, x, r, p', l, A, n, c, HE.out.1, HE.out.2, by rw [← HZR.out]; rfl, ?_, (on_new HO.out HO4.out).trans ((((((((((Only.refl (· = w.heap.size) w4).setCell (p := ⟨w.heap.size, 0, none⟩) rfl (.int .i64 g)).setCell (p := ⟨w.heap.size, 1, none⟩) rfl (.int .i64 ph)).setCell (p := ⟨w.heap.size, 2, none⟩) rfl (.int .i64 t)).setCell (p := ⟨w.heap.size, 3, none⟩) rfl (.int .i64 x)).setCell (p := ⟨w.heap.size, 4, none⟩) rfl (.int .i64 r)).setCell (p := ⟨w.heap.size, 5, none⟩) rfl (.int .i64 p')).setCell (p := ⟨w.heap.size, 6, none⟩) rfl (.int .i64 l)).setCell (p := ⟨w.heap.size, 7, none⟩) rfl (.slice A n c)).mono fun k hk => by omega)⟩
    exact (HNW.out.keep (((((((((Only.refl (· = w.heap.size) w4).setCell (p := ⟨w.heap.size, 0, none⟩) rfl (.int .i64 g)).setCell (p := ⟨w.heap.size, 1, none⟩) rfl (.int .i64 ph)).setCell (p := ⟨w.heap.size, 2, none⟩) rfl (.int .i64 t)).setCell (p := ⟨w.heap.size, 3, none⟩) rfl (.int .i64 x)).setCell (p := ⟨w.heap.size, 4, none⟩) rfl (.int .i64 r)).setCell (p := ⟨w.heap.size, 5, none⟩) rfl (.int .i64 p')).setCell (p := ⟨w.heap.size, 6, none⟩) rfl (.int .i64 l)).setCell (p := ⟨w.heap.size, 7, none⟩) rfl (.slice A n c)) (fun j h1 _ h3 => by have := HS4.out; omega)).mono' (by have := HS4.out; omega)
end Go.Proofs.YtbpldkhgiddmlaaGreatDoor
