/-
  The document's Ops, of a format.
-/
import Derived.Test.YtbpldkhgiddmlaaGreatDoorPuq
set_option linter.unusedVariables false
namespace Go.Proofs.YtbpldkhgiddmlaaGreatDoor
open Go.RowKit

set_option maxRecDepth 100000 in
set_option maxHeartbeats 25600000 in
theorem kOps_fm (w0 w : World) (e8 : Nat) (L8 : Int) (BA8 : Option Addr) (bn8 bc8 : Nat) (RA8 : Option Addr) (rn8 rc8 : Nat) (op8 fu8 : Int) (dn8 : Bool) (he8 : w0.heap.size ≤ e8) (hb8 : Blk w e8 34 [.int .i64 L8, .slice BA8 bn8 bc8, .slice RA8 rn8 rc8, .int .i64 op8, .int .i64 fu8, .bool dn8]) (h00 : Only (w0.heap.size ≤ ·) w0 w) (g ph t : Int) (kx : Nat) (r : Int) (N : Nat) (l : Int) (A : Option Addr) (n c : Nat) (RA : Option Addr) (rn rc : Nat) (ws : List Wt) (h : Wts w0 (.slice RA rn rc) ws) (hfit : ∀ y ∈ ws, 0 ≤ y.1 ∧ y.1 ≤ 16384) (hrn : rn ≤ 100) (hkx : kx ≤ 2147483647) (hN : N ≤ 16384) (km : Nat) (hkm : kx = km + 1) (a b : Bytes) (hen : ∀ W, Only (w.heap.size ≤ ·) w W → Calls Tryz.prog 48 #[.agg #[.int .i64 g, .int .i64 ph, .int .i64 t, .int .i64 (kx : Nat), .int .i64 r, .int .i64 (N : Nat), .int .i64 l, .slice A n c]] W (GaveBE W b 0)) (hem : ∀ W, Only (w.heap.size ≤ ·) w W → Calls Tryz.prog 48 #[.agg #[.int .i64 g, .int .i64 ph, .int .i64 t, .int .i64 (km : Nat), .int .i64 r, .int .i64 (N : Nat), .int .i64 l, .slice A n c]] W (GaveBE W a 0)) : Calls Tryz.prog 17 #[.slice RA rn rc, .agg #[.int .i64 g, .int .i64 ph, .int .i64 t, .int .i64 (kx : Nat), .int .i64 r, .int .i64 (N : Nat), .int .i64 l, .slice A n c], .bool true] w (GaveOps e8 w (opsK true N kx ws a b)) := by
  have HKM : Hid ((kx : Int) - 1 = (km : Int)) := Lib.hid (by omega)
  obtain ⟨w1, hw1⟩ : ∃ W0, W0 = w.alloc (.cells #[.int .i64 g, .int .i64 ph, .int .i64 t, .int .i64 (kx : Nat), .int .i64 r, .int .i64 (N : Nat), .int .i64 l, .slice A n c] 25) := ⟨_, rfl⟩
  have HO1 : Hid (Only (w.heap.size ≤ ·) w w1) := Lib.hid (by rw [hw1]; exact (Only.refl _ w).alloc (fun _ h => h) _)
  have HA : Hid (Blk w1 w.heap.size 25 [.int .i64 g, .int .i64 ph, .int .i64 t, .int .i64 (kx : Nat), .int .i64 r, .int .i64 (N : Nat), .int .i64 l, .slice A n c]) := Lib.hid (by rw [hw1]; exact Blk.new w 25 _)
  have HE1 := Lib.hid hw1
  obtain ⟨q0, hq0⟩ : ∃ z : Int, z = (N : Int) * 4 := ⟨_, rfl⟩
  obtain ⟨sr, hsr⟩ : ∃ z, z = km % 2 := ⟨_, rfl⟩
  obtain ⟨s0, hs0⟩ : ∃ z : Int, z = sl (km : Int) * 4 := ⟨_, rfl⟩
  obtain ⟨rr, hrr⟩ : ∃ z, z = kx % 2 := ⟨_, rfl⟩
  have e0 : wrap64 (4 * (N : Int)) = q0 := by rw [hq0]; exact ko_n4 hN
  obtain ⟨e1, e2, e3, e4, e5, e6, x7, x8⟩ := op_nums hkx hrr
  obtain ⟨s1, hs1⟩ : ∃ z : Int, z = sl (kx : Int) * 4 := ⟨_, rfl⟩
  rw [← hs1] at e5 e6 x7 x8
  have HE7 := Lib.hid (And.intro x7 x8)
  clear x7 x8
  obtain ⟨w2, hw2⟩ : ∃ W0, W0 = w1.alloc (.cells #[.int .i64 0, .int .i64 q0, .int .i64 0, .slice none 0 0, .slice none 0 0] 44) := ⟨_, rfl⟩
  have HO2 : Hid (Only (w1.heap.size ≤ ·) w1 w2) := Lib.hid (by rw [hw2]; exact (Only.refl _ w1).alloc (fun _ h => h) _)
  have HQ : Hid (Blk w2 w1.heap.size 44 [.int .i64 0, .int .i64 q0, .int .i64 0, .slice none 0 0, .slice none 0 0]) := Lib.hid (by rw [hw2]; exact Blk.new w1 44 _)
  have HW0 : Hid (w2.ownsRow w1.heap.size 44 5 (.slice (some ⟨w1.heap.size, 0, none⟩) 1 1) 1 [.int .i64 0, .int .i64 q0, .int .i64 0, .slice none 0 0, .slice none 0 0]) := Lib.hid (by rw [hw2]; exact own_one _ rfl)
  have HE2 := Lib.hid hw2
  have HSW := Lib.hid h.srw
  have H8 : Hid (w0.heap.size ≤ e8 ∧ e8 < w.heap.size) := Lib.hid ⟨he8, hb8.lt⟩
  have HB8 : Hid (Blk w2 e8 34 [.int .i64 L8, .slice BA8 bn8 bc8, .slice RA8 rn8 rc8, .int .i64 op8, .int .i64 fu8, .bool dn8]) := Lib.hid (hb8.only (on_new HO1.out HO2.out) (Nat.not_le.2 hb8.lt))
  have H00 := Lib.hid h00
  have HLN := Lib.hid h.len
  have HFT := Lib.hid hfit
  have HRN := Lib.hid hrn
  have HEN := Lib.hid hen
  have HEM := Lib.hid hem
  obtain ⟨m1, m2, m3, m4, m5, m6, m7, m8⟩ := op_nums (kx := km) (ko_m1 hkm hkx).2 hsr
  rw [← hs0] at m5 m6 m7 m8
  have HEM7 := Lib.hid (And.intro m7 m8)
  clear m7 m8 hem hsr
  have e9 : wrap64 ((kx : Int) - 1) = (km : Nat) := (ko_m1 hkm hkx).1
  have HS0 := Lib.hid hs0
  clear hs0
  have HQS := Lib.hid (And.intro hq0 hs1)
  have HQG := Lib.hid HO1.out.size
  have HAQ0 : w.heap.size < w1.heap.size := HA.out.lt
  clear he8 hb8 h00 h hfit hrn hen hw1 hw2 hkm hkx hN hrr hq0 hs1
  obtain ⟨i0, i1, i2, i3, i4, i5, i6, i7⟩ := HA.out.eight
  go_enter Tryz.func17, Tryz.ntmps17
  go_upto_region 1 with (fail)
  rw [← HE1.out]
  clear HE1
  go_upto_region 2 with (fail)
  rw [← HE2.out]
  clear HE2 i0 i1 i2 i3 i4 i5 i6 i7
  generalize hq : w1.heap.size = q at HQ HW0 HQG HO2 HAQ0 ⊢
  have HO12 : Hid (Only (w.heap.size ≤ ·) w w2) := Lib.hid (HO1.out.trans (HO2.out.mono fun k hk => Nat.le_trans HQG.out hk))
  replace HA := Lib.hid (HA.out.only HO2.out (Nat.not_le.2 HAQ0))
  clear hq HO2 HO1
  obtain ⟨i0, i1, i2, i3, i4, i5, i6, i7⟩ := HA.out.eight
  go_upto_region 3 with (go_at_call 48; (with_reducible refine (HEN.out _ HO12.out).mono ?_); rintro e w3 ⟨bv, rfl, hs, ho⟩; (obtain ⟨BA, bc, rfl, ht⟩ := hs); have HBS : Hid (Src w3 (.slice BA b.length bc) b) := Lib.hid ⟨BA, bc, rfl, ht⟩; have HO3 := Lib.hid ho; clear ht ho)
  clear i0 i1 i2 i3 i4 i5 i6 i7
  obtain ⟨bl, hbl⟩ : ∃ z, z = b.length := ⟨_, rfl⟩
  rw [← hbl] at HBS ⊢
  have HBL := Lib.hid hbl
  clear hbl
  replace HA := Lib.hid (HA.out.only HO3.out (Nat.not_le.2 HA.out.lt))
  replace HQ := Lib.hid (HQ.out.only HO3.out (Nat.not_le.2 HQ.out.lt))
  replace HW0 := Lib.hid (own_later HW0.out HO3.out)
  have HQL : Hid (w.heap.size < w3.heap.size) := Lib.hid HA.out.lt
  have HX3 := Lib.hid (on_new HO12.out HO3.out)
  replace HB8 := Lib.hid (HB8.out.only HO3.out (Nat.not_le.2 HB8.out.lt))
  have HB := Lib.hid (ko_off HBS.out HQ.out HB8.out (by simp) (by simp))
  clear HO12 HO3 HBS HEN
  obtain ⟨i0, i1, i2, i3, i4, i5, i6, i7⟩ := HA.out.eight
  have HAQ : Hid (w.heap.size < q) := Lib.hid HAQ0
  go_upto_region 4 with (fail)
  obtain ⟨w4, hw4⟩ : ∃ W0, W0 = w3.alloc (.cells #[.int .i64 g, .int .i64 ph, .int .i64 t, .int .i64 (kx : Nat), .int .i64 r, .int .i64 (N : Nat), .int .i64 l, .slice A n c] 25) := ⟨_, rfl⟩
  obtain ⟨w5, hw5⟩ : ∃ W0, W0 = w4.setCell ⟨w3.heap.size, 3, none⟩ (.int .i64 (km : Nat)) := ⟨_, rfl⟩
  have HO4 : Hid (Only (w3.heap.size ≤ ·) w3 w4) := Lib.hid (by rw [hw4]; exact (Only.refl _ w3).alloc (fun _ h => h) _)
  have HM4 : Hid (Blk w4 w3.heap.size 25 [.int .i64 g, .int .i64 ph, .int .i64 t, .int .i64 (kx : Nat), .int .i64 r, .int .i64 (N : Nat), .int .i64 l, .slice A n c]) := Lib.hid (by rw [hw4]; exact Blk.new w3 25 _)
  have HS5 : Hid (Only (· = w3.heap.size) w4 w5) := Lib.hid (by rw [hw5]; exact (Only.refl (· = w3.heap.size) w4).setCell (p := ⟨w3.heap.size, 3, none⟩) rfl _)
  have HM5 : Hid (Blk w5 w3.heap.size 25 [.int .i64 g, .int .i64 ph, .int .i64 t, .int .i64 (km : Nat), .int .i64 r, .int .i64 (N : Nat), .int .i64 l, .slice A n c]) := Lib.hid (by rw [hw5]; exact HM4.out.set_ 3 (.int .i64 (km : Nat)))
  have HA4 : Hid (Blk w4 w.heap.size 25 [.int .i64 g, .int .i64 ph, .int .i64 t, .int .i64 (kx : Nat), .int .i64 r, .int .i64 (N : Nat), .int .i64 l, .slice A n c]) := Lib.hid (HA.out.only HO4.out (Nat.not_le.2 HA.out.lt))
  have HO5 : Hid (Only (w3.heap.size ≤ ·) w3 w5) := Lib.hid (HO4.out.trans (HS5.out.mono fun k hk => Nat.le_of_eq hk.symm))
  have HE4 := Lib.hid hw4
  have HE5 := Lib.hid hw5
  clear hw4 hw5
  go_upto_region 5 with (fail)
  rw [← HE4.out]
  clear HE4 i0 i1 i2 i3 i4 i5 i6 i7
  obtain ⟨i0, i1, i2, i3, i4, i5, i6, i7⟩ := HA4.out.eight
  have j3 := HM4.out.cell 3
  have z3 := HM4.out.frozen 3
  go_upto_region 6 with (fail)
  rw [← HE5.out]
  clear HE5 i0 i1 i2 i3 i4 i5 i6 i7 j3 z3
  replace HA := Lib.hid (HA.out.only HO5.out (Nat.not_le.2 HA.out.lt))
  replace HQ := Lib.hid (HQ.out.only HO5.out (Nat.not_le.2 HQ.out.lt))
  replace HW0 := Lib.hid (own_later HW0.out HO5.out)
  replace HB8 := Lib.hid (HB8.out.only HO5.out (Nat.not_le.2 HB8.out.lt))
  have HX5 := Lib.hid (on_new HX3.out HO5.out)
  have HB5 := Lib.hid (HB.out.later HO5.out)
  have HGM : Hid (w.heap.size < w3.heap.size) := Lib.hid HQL.out
  generalize hbm : w3.heap.size = bm at HM5 HGM ⊢
  clear hbm HO4 HM4 HS5 HA4 HO5 HX3 HB
  obtain ⟨j0, j1, j2, j3, j4, j5, j6, j7⟩ := HM5.out.eight
  go_upto_region 7 with (go_at_call 48; (with_reducible refine (HEM.out _ HX5.out).mono ?_); rintro e wb ⟨av, rfl, hs, ho⟩; (obtain ⟨AA, ac, rfl, ht⟩ := hs); have HAS : Hid (Src wb (.slice AA a.length ac) a) := Lib.hid ⟨AA, ac, rfl, ht⟩; have HO6 := Lib.hid ho; clear ht ho)
  clear j0 j1 j2 j3 j4 j5 j6 j7
  obtain ⟨al, hal⟩ : ∃ z, z = a.length := ⟨_, rfl⟩
  rw [← hal] at HAS ⊢
  have HAL := Lib.hid hal
  clear hal
  replace HA := Lib.hid (HA.out.only HO6.out (Nat.not_le.2 HA.out.lt))
  replace HM5 := Lib.hid (HM5.out.only HO6.out (Nat.not_le.2 HM5.out.lt))
  replace HQ := Lib.hid (HQ.out.only HO6.out (Nat.not_le.2 HQ.out.lt))
  replace HW0 := Lib.hid (own_later HW0.out HO6.out)
  replace HB8 := Lib.hid (HB8.out.only HO6.out (Nat.not_le.2 HB8.out.lt))
  have HZA := Lib.hid (ko_off HAS.out HQ.out HB8.out (by simp) (by simp))
  have HBb := Lib.hid (HB5.out.later HO6.out)
  have HXB := Lib.hid (on_new HX5.out HO6.out)
  have HQB : Hid (q < wb.heap.size) := Lib.hid HQ.out.lt
  clear HO6 HAS HEM HX5 HB5
  have i3 := HA.out.cell 3
  have j3 := HM5.out.cell 3
  have HOB : Hid (Only (wb.heap.size ≤ ·) wb wb) := Lib.hid (Only.refl _ _)
  have HGQ : Hid (q = q ∨ wb.heap.size ≤ q) := Lib.hid (.inl rfl)
  have HOQ : Hid (Only (fun k => k = q ∨ wb.heap.size ≤ k) wb wb) := Lib.hid (Only.refl _ _)
  have HW7 : Hid (Only (wb.heap.size ≤ ·) wb (wb.alloc (Obj.cells #[.int .i64 2, .int .i64 s0, .int .i64 0, .slice AA al ac, .slice none 0 0, .int .i64 2, .int .i64 s1, .int .i64 0, .slice BA bl bc, .slice none 0 0] 44))) := Lib.hid ((Only.refl _ wb).alloc (fun _ h => h) _)
  have HN7 : Hid (Blk (wb.alloc (Obj.cells #[.int .i64 2, .int .i64 s0, .int .i64 0, .slice AA al ac, .slice none 0 0, .int .i64 2, .int .i64 s1, .int .i64 0, .slice BA bl bc, .slice none 0 0] 44)) wb.heap.size 44 [.int .i64 2, .int .i64 s0, .int .i64 0, .slice AA al ac, .slice none 0 0, .int .i64 2, .int .i64 s1, .int .i64 0, .slice BA bl bc, .slice none 0 0]) := Lib.hid (Blk.new wb 44 _)
  have HA7 := Lib.hid (own_later HW0.out HW7.out)
  have HB7 : Hid (q ≤ (wb.alloc (Obj.cells #[.int .i64 2, .int .i64 s0, .int .i64 0, .slice AA al ac, .slice none 0 0, .int .i64 2, .int .i64 s1, .int .i64 0, .slice BA bl bc, .slice none 0 0] 44)).heap.size) := Lib.hid (ko_le4 HQB.out HOB.out.size HW7.out.size)
  clear e2 m2 e5 m5 e6 m6 e4 m4
  have x7 := HE7.out.1
  have x8 := HE7.out.2
  have m7 := HEM7.out.1
  have m8 := HEM7.out.2
  go_upto_region 10 with (at_builtin; (refine wpList_append_o rfl (.tmp 35) (.tmp 48) rfl q q (1) 1 ([.int .i64 0, .int .i64 q0, .int .i64 0, .slice none 0 0, .slice none 0 0]) rfl HA7.out wb.heap.size 2 [.int .i64 2, .int .i64 s0, .int .i64 0, .slice AA al ac, .slice none 0 0, .int .i64 2, .int .i64 s1, .int .i64 0, .slice BA bl bc, .slice none 0 0] rfl rfl HN7.out (by simp [Value.oneCell']) (by decide) (by decide) HB7.out (fun g7 t7 w7 hr hgn ho => ?_); have HR7 := Lib.hid hr; have HG7 : Hid (g7 = q ∨ wb.heap.size ≤ g7) := Lib.hid (hgn.elim (fun e => by rw [e]; exact HGQ.out) fun h => .inr (Nat.le_trans HOQ.out.size (Nat.le_trans HW7.out.size h))); have HO7 : Hid (Only (fun k => k = q ∨ wb.heap.size ≤ k) wb w7) := Lib.hid ((HOQ.out.trans (HW7.out.mono fun k h => .inr (Nat.le_trans HOQ.out.size h))).trans (ho.mono fun k hk => hk.elim (fun e => by rw [e]; exact HGQ.out) fun h => .inr (Nat.le_trans HOQ.out.size (Nat.le_trans HW7.out.size h)))); clear hr hgn ho))
  clear x7 x8 m7 m8 i3 j3 HW7 HN7 HA7 HB7 HOB HGQ HOQ e1 e3 m1 m3 HA HM5 e0 e9
  have HR6 := HR7
  have HG6 := HG7
  have HO6 := HO7
  have HXO : Hid (∀ W, Only (fun k => k = q ∨ wb.heap.size ≤ k) wb W → Only (w.heap.size ≤ ·) w W) := Lib.hid (fun W hW => HXB.out.trans (hW.mono fun k hk => hk.elim (fun e => by rw [e]; exact HQG.out) fun h => Nat.le_trans HXB.out.size h))
  have HXE : Hid (∀ W, Only (fun k => (k = q ∨ k = e8) ∨ wb.heap.size ≤ k) wb W → Only (w0.heap.size ≤ ·) w0 W) := Lib.hid (fun W hW => ((H00.out.trans (HXB.out.mono fun k h => Nat.le_trans H00.out.size h)).trans (hW.mono fun k hk => by
    have h1 := H00.out.size
    have h2 := HXB.out.size
    have h3 := HQG.out
    have h4 := H8.out
    omega)))
  go_wp2
  go_loopg [7, 13] rn (fun gk s i wr => ∃ (k gj zj tj : Nat) (Cj : List Value), gk = rn - k ∧ k ≤ rn ∧ s = .slice (some ⟨gj, 0, none⟩) zj tj ∧ i = .int .i64 (k : Nat) ∧ Hid (zj = 3 + k) ∧ Hid (wr.ownsRow q 44 5 (.slice (some ⟨gj, 0, none⟩) zj tj) zj Cj) ∧ Hid (gj = q ∨ wb.heap.size ≤ gj) ∧ Hid (∀ W, Only (fun k => (k = q ∨ k = e8) ∨ wb.heap.size ≤ k) wb W → Den (koE.At W) ([((0 : Int), q0, ([] : Bytes)), ((2 : Int), s0, a), ((2 : Int), s1, b)] ++ (ws.take k).map opW) Cj) ∧ Hid (Only (fun k => k = q ∨ wb.heap.size ≤ k) wb wr))
  case atStart => exact ⟨0, g7, 3, t7, [.int .i64 0, .int .i64 q0, .int .i64 0, .slice none 0 0, .slice none 0 0, .int .i64 2, .int .i64 s0, .int .i64 0, .slice AA al ac, .slice none 0 0, .int .i64 2, .int .i64 s1, .int .i64 0, .slice BA bl bc, .slice none 0 0], rfl, Nat.zero_le _, rfl, rfl, Lib.hid rfl, HR6, HG6, Lib.hid (fun W hW => by rw [List.take_zero, List.map_nil, List.append_nil]; exact Den.append (Den.single ko_zero) (ko_two (ko_w (HZA.out W hW)) (ko_w (HBb.out W hW)))), HO6⟩
  case round =>
    obtain ⟨k, gj, zj, tj, Cj, rfl, hk, rfl, rfl, HK, HRJ, HGJ, HDJ, HOJ⟩ := hrel
    by_cases hlt : k < rn
    · obtain ⟨gx, off, y, P, cp, rfl, hy, hst⟩ := wts_at HSW.out hlt
      obtain ⟨y1, hy1⟩ : ∃ z, z = y.1 := ⟨_, rfl⟩
      obtain ⟨yl, hyl⟩ : ∃ z, z = y.2.length := ⟨_, rfl⟩
      obtain ⟨y4, hy4⟩ : ∃ z, z = y.1 * 4 := ⟨_, rfl⟩
      have HYS : Hid (∀ W, Only (w0.heap.size ≤ ·) w0 W → Src W (.slice P yl cp) y.2) := Lib.hid (fun W hW => by rw [hyl]; exact (hst W (hW.mono fun _ h => .inr h)).2.2)
      have KY : Hid (∀ W : World, Only (w.heap.size ≤ ·) w W → (fun W : World => W.cell? ⟨gx, off + k * 2, none⟩ = some (.int .i64 y1) ∧ W.cell? ⟨gx, off + k * 2 + 1, none⟩ = some (.slice P yl cp)) W) := Lib.hid (fun W hW => by have h9 := hst W ((H00.out.trans (hW.mono fun k h => Nat.le_trans H00.out.size h)).mono fun _ h => .inr h); rw [hy1, hyl]; exact ⟨h9.1, h9.2.1⟩)
      have f1 : IntKind.i64.wrap (4 * y1) = y4 := by
        have h9 := HFT.out y (List.mem_of_getElem? hy)
        rw [hy1, hy4, IntWalk.i64_in _ (by omega), Int.mul_comm]
      have HY := Lib.hid (And.intro hy (And.intro hyl hy4))
      clear hy hst hy1 hyl hy4
      have HXD : Hid (Only (w.heap.size ≤ ·) w wr.drew) := Lib.hid (HXO.out _ HOJ.out).drew
      have HOD : Hid (Only (fun k => k = q ∨ wb.heap.size ≤ k) wb wr.drew) := Lib.hid HOJ.out.drew
      have HRD : Hid (wr.drew.ownsRow q 44 5 (.slice (some ⟨gj, 0, none⟩) zj tj) zj Cj) := Lib.hid (show wr.drew.ownsRow q 44 5 (.slice (some ⟨gj, 0, none⟩) zj tj) zj Cj from HRJ.out)
      have HSY := Lib.hid (KY.out _ HXD.out)
      have HKN := Lib.hid (ko_nums HK.out (by decide) hk HRN.out)
      have hk1 := HKN.out.2.2.2.2
      go_upto_region 13 with (fail)
      refine wp_region_list (B := [false, false, false, false, false, false, false, false, false, false, false, false, false, false, false, false]) (S := (fun W : World => W.cell? ⟨gx, off + k * 2, none⟩ = some (.int .i64 y1) ∧ W.cell? ⟨gx, off + k * 2 + 1, none⟩ = some (.slice P yl cp))) (by kernel_rfl) (by kernel_rfl) (by kernel_rfl) HSY.out (fun hsel hHeld => ?_)
      generalize hwz : World.drew _ = wd0 at HXD HOD HRD HSY hHeld ⊢
      clear hwz
      refine oneA 0 67 hsel (h := ?_)
      simp only [Act.put, lsa, lsz, lss]
      refine oneA 1 68 hsel (h := ?_)
      simp only [Act.put, lsa, lsz, lss]
      refine oneA 2 69 hsel (h := ?_)
      simp only [Act.put, lsa, lsz, lss]
      refine oneA 3 70 hsel (h := ?_)
      simp only [Act.put, lsa, lsz, lss]
      refine oneA 4 71 hsel (h := ?_)
      simp only [Act.put, lsa, lsz, lss]
      refine oneA 5 72 hsel (h := ?_)
      simp only [Act.put, lsa, lsz, lss]
      refine oneA 6 73 hsel (h := ?_)
      simp only [Act.put, lsa, lsz, lss]
      refine oneA 7 74 hsel (h := ?_)
      simp only [Act.put, lsa, lsz, lss]
      refine oneA 8 75 hsel (h := ?_)
      simp only [Act.put, lsa, lsz, lss]
      refine oneA 9 76 hsel (h := ?_)
      simp only [Act.put, lsa, lsz, lss]
      refine oneA 10 77 hsel (h := ?_)
      simp only [Act.put, lsa, lsz, lss]
      refine oneA 11 78 hsel (h := ?_)
      simp only [Act.put, lsa, lsz, lss]
      refine oneA 12 79 hsel (h := ?_)
      simp only [Act.put, lsa, lsz, lss]
      refine wpAnyL_ready (rs := [13]) (by kernel_rfl) (by kernel_rfl) (by simp) ?_
      refine AllReadyL.cons (o := ?_) ?_ (fun K hK => ?_) AllReadyL.nil
      case refine_2 => (simp only [List.getElem?_cons_succ, List.getElem?_cons_zero]; rfl)
      go_simp
      have HOA : Hid (Only (wd0.heap.size ≤ ·) wd0 (wd0.alloc (.cells #[.int .i64 2, .int .i64 y4, .int .i64 0, .slice P yl cp, .slice none 0 0] 44))) := Lib.hid ((Only.refl _ wd0).alloc (fun _ h => h) _)
      have HNA : Hid (Blk (wd0.alloc (.cells #[.int .i64 2, .int .i64 y4, .int .i64 0, .slice P yl cp, .slice none 0 0] 44)) wd0.heap.size 44 [.int .i64 2, .int .i64 y4, .int .i64 0, .slice P yl cp, .slice none 0 0]) := Lib.hid (Blk.new wd0 44 _)
      clear hHeld
      refine hK.out _ _ (KY.out _ (on_new HXD.out HOA.out)) (fun hHeld => ?_)
      clear hK K
      try simp only [Act.put, lsa, lsz, lss]
      generalize hwz : (wd0.alloc (.cells #[.int .i64 2, .int .i64 y4, .int .i64 0, .slice P yl cp, .slice none 0 0] 44)) = wd1 at HOA HNA hHeld ⊢
      clear hwz
      generalize hzb : wd0.heap.size = nb at HNA ⊢
      clear hzb
      refine wpAnyL_ready (rs := [14]) (by kernel_rfl) (by kernel_rfl) (by simp) ?_
      refine AllReadyL.cons (o := ?_) ?_ (fun K hK => ?_) AllReadyL.nil
      case refine_2 => (simp only [List.getElem?_cons_succ, List.getElem?_cons_zero]; rfl)
      rw [if_pos (by kernel_rfl)]
      refine wp_append_o (.tmp 67) (.tmp 80) rfl q gj zj tj Cj rfl (own_later HRD.out HOA.out) nb 1 [.int .i64 2, .int .i64 y4, .int .i64 0, .slice P yl cp, .slice none 0 0] rfl rfl HNA.out (by simp [Value.oneCell']) HKN.out.1 HKN.out.2.2.1 (ko_le4 HQB.out HOD.out.size HOA.out.size) (fun gi ti wi hr hgn ho => ?_)
      have HRI := Lib.hid hr
      have HGI : Hid (gi = q ∨ wb.heap.size ≤ gi) := Lib.hid (hgn.elim (fun e => by rw [e]; exact HGJ.out) fun h => .inr (Nat.le_trans HOD.out.size (Nat.le_trans HOA.out.size h)))
      have HOI : Hid (Only (fun k => k = q ∨ wb.heap.size ≤ k) wb wi) := Lib.hid ((HOD.out.trans (HOA.out.mono fun k h => .inr (Nat.le_trans HOD.out.size h))).trans (ho.mono fun k hk => hk.elim (fun e => by rw [e]; exact HGJ.out) fun h => .inr (Nat.le_trans HOD.out.size (Nat.le_trans HOA.out.size h))))
      clear hr hgn ho
      clear hHeld
      refine hK.out _ _ (KY.out _ (HXO.out _ HOI.out)) (fun hHeld => ?_)
      clear hK K
      try simp only [Act.put, lsa, lsz, lss]
      refine oneA 15 7 hsel (h := ?_)
      simp only [Act.put, lsa, lsz, lss]
      refine wpAnyL_done (by kernel_rfl) (by kernel_rfl) ?_ _
      clear hsel hHeld
      go_wp2
      go_roundg (rn - (k + 1))
      case measure => (clear f1 hk1; omega)
      case rel =>
        refine ⟨k + 1, gi, zj + 1, ti, _, rfl, hlt, rfl, by first | rfl | (rw [hk1]), Lib.hid (by rw [HK.out]; rfl), HRI, HGI, Lib.hid (fun W hW => ?_), HOI⟩
        rw [List.take_add_one, HY.out.1, List.map_append, ← List.append_assoc]
        have h9 : koE.At W (opW y) [.int .i64 2, .int .i64 y4, .int .i64 0, .slice P yl cp, .slice none 0 0] := by
          rw [HY.out.2.2]
          exact ko_w (HYS.out W (HXE.out W hW))
        exact Den.append (HDJ.out W hW) (Den.single h9)
    · obtain rfl : k = rn := Nat.le_antisymm hk (Nat.not_lt.1 hlt)
      have HKN := Lib.hid (ko_nums HK.out (by decide) hk HRN.out)
      have HW14 : Hid (Only (wr.heap.size ≤ ·) wr (wr.alloc (Obj.cells #[.int .i64 3, .int .i64 0, .int .i64 0, .slice none 0 0, .slice none 0 0] 44))) := Lib.hid ((Only.refl _ wr).alloc (fun _ h => h) _)
      have HN14 : Hid (Blk (wr.alloc (Obj.cells #[.int .i64 3, .int .i64 0, .int .i64 0, .slice none 0 0, .slice none 0 0] 44)) wr.heap.size 44 [.int .i64 3, .int .i64 0, .int .i64 0, .slice none 0 0, .slice none 0 0]) := Lib.hid (Blk.new wr 44 _)
      have HA14 := Lib.hid (own_later HRJ.out HW14.out)
      have HB14 : Hid (q ≤ (wr.alloc (Obj.cells #[.int .i64 3, .int .i64 0, .int .i64 0, .slice none 0 0, .slice none 0 0] 44)).heap.size) := Lib.hid (ko_le4 HQB.out HOJ.out.size HW14.out.size)
      go_wp2_with (at_builtin; (refine wpList_append_o rfl (.tmp 82) (.tmp 84) rfl q gj (zj) tj (Cj) rfl HA14.out wr.heap.size 1 [.int .i64 3, .int .i64 0, .int .i64 0, .slice none 0 0, .slice none 0 0] rfl rfl HN14.out (by simp [Value.oneCell']) HKN.out.1 HKN.out.2.2.1 HB14.out (fun g14 t14 w14 hr hgn ho => ?_); have HR14 := Lib.hid hr; have HG14 : Hid (g14 = q ∨ wb.heap.size ≤ g14) := Lib.hid (hgn.elim (fun e => by rw [e]; exact HGJ.out) fun h => .inr (Nat.le_trans HOJ.out.size (Nat.le_trans HW14.out.size h))); have HO14 : Hid (Only (fun k => k = q ∨ wb.heap.size ≤ k) wb w14) := Lib.hid ((HOJ.out.trans (HW14.out.mono fun k h => .inr (Nat.le_trans HOJ.out.size h))).trans (ho.mono fun k hk => hk.elim (fun e => by rw [e]; exact HGJ.out) fun h => .inr (Nat.le_trans HOJ.out.size (Nat.le_trans HW14.out.size h)))); clear hr hgn ho))
      go_ret
      have hl : (((ws.take k).map opW).length) = k := by rw [List.length_map, List.length_take, ← HLN.out, Nat.min_self]
      have ht : ws.take k = ws := List.take_of_length_le (Nat.le_of_eq HLN.out.symm)
      have e1 : opsK true (N : Int) (kx : Int) ws a b = ([((0 : Int), q0, ([] : Bytes)), ((2 : Int), s0, a), ((2 : Int), s1, b)] ++ (ws.take k).map opW) ++ [opS] := by
        rw [ht, HQS.out.1, HQS.out.2, HS0.out, ← HKM.out]
        simp [opsK, opsW, opsR, opW]
      have e2 : (opsK true (N : Int) (kx : Int) ws a b).length = zj + 1 := by
        rw [e1, HK.out]
        simp only [List.length_append, List.length_cons, List.length_nil, hl]
        try omega
      have hd : ∀ W, Only (fun k => (k = q ∨ k = e8) ∨ wb.heap.size ≤ k) wb W → Den (koE.At W) (opsK true (N : Int) (kx : Int) ws a b) (Cj ++ [.int .i64 3, .int .i64 0, .int .i64 0, .slice none 0 0, .slice none 0 0]) := by
        intro W hW
        rw [e1]
        exact Den.append (HDJ.out W hW) (Den.single ko_sync)
      refine ⟨some ⟨g14, 0, none⟩, t14, by rw [e2]; rfl, ?_, HXO.out _ HO14.out⟩
      rw [e2]
      exact ko_srw HR14.out hd e2 HO14.out (fun h9 => ko_ne2 h9 HG14.out (Nat.lt_succ_of_lt H8.out.2) HAQ.out HQB.out)
end Go.Proofs.YtbpldkhgiddmlaaGreatDoor
