/-
  PagerTwo: the main walk.
-/
import Derived.Test.YtopaponemjaenaaDoorPgd
set_option linter.unusedVariables false
namespace Go.Proofs.YtopaponemjaenaaDoor
open Go.RowKit

theorem two_nums {kx k2 s2 s1 o : Nat} (hk : k2 = kx + 1) (hkx : k2 ≤ 2147483647) (h : s2 ≤ 1) (ho : o = s2 * 256) (hs : s1 = 1 - s2) : wrap64 ((kx : Int) + 1) = (k2 : Int) ∧ IntKind.i64.wrap ((s2 : Int) * 256) = (o : Int) ∧ wrap64 (1 - (s2 : Int)) = (s1 : Int) := by
  refine ⟨?_, ?_, ?_⟩
  · rw [IntWalk.wrap64_in _ (by omega)]
    omega
  · rw [IntWalk.i64_in _ (by omega)]
    omega
  · rw [IntWalk.wrap64_in _ (by omega)]
    omega
set_option maxRecDepth 100000 in
set_option maxHeartbeats 51200000 in
theorem ptwo_main (w : World) (hG : Gens w) (g ph t : Int) (kx : Nat) (r : Int) (N : Nat) (l : Int) (A : Option Addr) (n c : Nat) (RA : Option Addr) (rn rc : Nat) (ws : List Wt) (RB : Option Addr) (sn sc : Nat) (vs : List Wt) (h : Wts w (.slice RA rn rc) ws) (h' : Wts w (.slice RB sn sc) vs) (hsum : ∀ y ∈ ws, y.2.length ≤ 140737488355328) (hsum' : ∀ y ∈ vs, y.2.length ≤ 140737488355328) (hI : ∀ y ∈ ws, I64v y.1) (hI' : ∀ y ∈ vs, I64v y.1) (xs : Bytes) (hs : Src w (.slice A n c) xs) (hne : n = xs.length) (hM1 : ∀ u ∈ [g, ph, t, (kx : Int), r, (N : Int), l], I64 u) (hM2 : ∀ u ∈ [g, ph, t, ((kx + 1 : Nat) : Int), r, (N : Int), l], I64 u)
    (hf1 : fewP ws N n = true) (hf2 : fewP vs N n = true) (hq1 : pgRight (okM g ph t kx r N l n) N ws = true) (hq2 : pgRight (okM g ph t (kx + 1 : Nat) r N l n) N vs = true) (hkx : kx + 1 ≤ 2147483647) : Calls Tryd.prog 5 #[.agg #[.int .i64 g, .int .i64 ph, .int .i64 t, .int .i64 (kx : Nat), .int .i64 r, .int .i64 (N : Nat), .int .i64 l, .slice A n c], .slice RA rn rc, .slice RB sn sc] w (Told w (.bool true)) := by
  obtain ⟨k2, hk2⟩ : ∃ z, z = kx + 1 := ⟨_, rfl⟩
  rw [← hk2] at hq2 hkx hM2
  obtain ⟨w1, hw1⟩ : ∃ W0, W0 = w.alloc (.cells #[.int .i64 g, .int .i64 ph, .int .i64 t, .int .i64 (kx : Nat), .int .i64 r, .int .i64 (N : Nat), .int .i64 l, .slice A n c] 25) := ⟨_, rfl⟩
  obtain ⟨w2, hw2⟩ : ∃ W0, W0 = w1.alloc (.cells #[.int .i64 g, .int .i64 ph, .int .i64 t, .int .i64 (kx : Nat), .int .i64 r, .int .i64 (N : Nat), .int .i64 l, .slice A n c] 25) := ⟨_, rfl⟩
  obtain ⟨w3, hw3⟩ : ∃ W0, W0 = w2.setCell ⟨w1.heap.size, 3, none⟩ (.int .i64 ((k2 : Nat))) := ⟨_, rfl⟩
  have HO1 : Hid (Only (w.heap.size ≤ ·) w w1) := Lib.hid (by rw [hw1]; exact (Only.refl _ w).alloc (fun _ h => h) _)
  have HO2 : Hid (Only (w1.heap.size ≤ ·) w1 w2) := Lib.hid (by rw [hw2]; exact (Only.refl _ w1).alloc (fun _ h => h) _)
  have HO23 : Hid (Only (· = w1.heap.size) w2 w3) := Lib.hid (by rw [hw3]; exact (Only.refl (· = w1.heap.size) w2).setCell (p := ⟨w1.heap.size, 3, none⟩) rfl _)
  have HA1 : Hid (Blk w1 w.heap.size 25 [.int .i64 g, .int .i64 ph, .int .i64 t, .int .i64 (kx : Nat), .int .i64 r, .int .i64 (N : Nat), .int .i64 l, .slice A n c]) := Lib.hid (by rw [hw1]; exact Blk.new w 25 _)
  have HA2 : Hid (Blk w2 w.heap.size 25 [.int .i64 g, .int .i64 ph, .int .i64 t, .int .i64 (kx : Nat), .int .i64 r, .int .i64 (N : Nat), .int .i64 l, .slice A n c]) := Lib.hid (HA1.out.only HO2.out (Nat.not_le.2 HA1.out.lt))
  have HB2 : Hid (Blk w2 w1.heap.size 25 [.int .i64 g, .int .i64 ph, .int .i64 t, .int .i64 (kx : Nat), .int .i64 r, .int .i64 (N : Nat), .int .i64 l, .slice A n c]) := Lib.hid (by rw [hw2]; exact Blk.new w1 25 _)
  have HNE1 : Hid (w.heap.size < w1.heap.size) := Lib.hid HA1.out.lt
  have HA : Hid (Blk w3 w.heap.size 25 [.int .i64 g, .int .i64 ph, .int .i64 t, .int .i64 (kx : Nat), .int .i64 r, .int .i64 (N : Nat), .int .i64 l, .slice A n c]) := Lib.hid (HA2.out.only HO23.out (fun e => by have h := HNE1.out; omega))
  have HB : Hid (Blk w3 w1.heap.size 25 [.int .i64 g, .int .i64 ph, .int .i64 t, .int .i64 (k2 : Nat), .int .i64 r, .int .i64 (N : Nat), .int .i64 l, .slice A n c]) := Lib.hid (by rw [hw3]; exact HB2.out.set_ 3 (.int .i64 ((k2 : Nat))))
  have HOB : Hid (Only (w.heap.size ≤ ·) w w3) := Lib.hid ((on_new HO1.out HO2.out).trans (HO23.out.mono fun k hk => by rw [hk]; exact HO1.out.size))
  have HE1 := Lib.hid hw1
  have HE2 := Lib.hid hw2
  have HE3 := Lib.hid hw3
  clear hw1 hw2 hw3
  have HF1 : Hid (∀ W, Only (w3.heap.size ≤ ·) w3 W → Calls Tryd.prog 7 #[.slice RA rn rc, .agg #[.int .i64 g, .int .i64 ph, .int .i64 t, .int .i64 (kx : Nat), .int .i64 r, .int .i64 (N : Nat), .int .i64 l, .slice A n c]] W (Told W (.bool true))) := Lib.hid (fun W hW => by have h9 := Pgfew_w W g ph t kx r N l A n c RA rn rc ws (Rw.later h (on_new HOB.out hW)) hsum; rwa [hf1] at h9)
  have HF2 : Hid (∀ W, Only (w3.heap.size ≤ ·) w3 W → Calls Tryd.prog 7 #[.slice RB sn sc, .agg #[.int .i64 g, .int .i64 ph, .int .i64 t, .int .i64 (k2 : Nat), .int .i64 r, .int .i64 (N : Nat), .int .i64 l, .slice A n c]] W (Told W (.bool true))) := Lib.hid (fun W hW => by have h9 := Pgfew_w W g ph t k2 r N l A n c RB sn sc vs (Rw.later h' (on_new HOB.out hW)) hsum'; rwa [hf2] at h9)
  have HR1 : Hid (∀ W, Only (w3.heap.size ≤ ·) w3 W → Calls Tryd.prog 8 #[.slice RA rn rc, .agg #[.int .i64 g, .int .i64 ph, .int .i64 t, .int .i64 (kx : Nat), .int .i64 r, .int .i64 (N : Nat), .int .i64 l, .slice A n c]] W (Told W (.bool true))) := Lib.hid (fun W hW => by have h9 := rPgRight_c W g ph t kx r N l A n c RA rn rc ws (Rw.later h (on_new HOB.out hW)) hI; rwa [hq1] at h9)
  have HR2 : Hid (∀ W, Only (w3.heap.size ≤ ·) w3 W → Calls Tryd.prog 8 #[.slice RB sn sc, .agg #[.int .i64 g, .int .i64 ph, .int .i64 t, .int .i64 (k2 : Nat), .int .i64 r, .int .i64 (N : Nat), .int .i64 l, .slice A n c]] W (Told W (.bool true))) := Lib.hid (fun W hW => by have h9 := rPgRight_c W g ph t k2 r N l A n c RB sn sc vs (Rw.later h' (on_new HOB.out hW)) hI'; rwa [hq2] at h9)
  have HAL : Hid (∀ W, Only (w3.heap.size ≤ ·) w3 W → Calls Tryd.prog 9 #[] W (Told W (.bool true))) := Lib.hid fun W hW => Pgalive_c W (hG.later (on_new HOB.out hW))
  have HF12 := Lib.hid (And.intro (few_facts2 hf1) (few_facts2 hf2))
  have HLN := Lib.hid h.len
  have HLNb := Lib.hid h'.len
  have HI := Lib.hid hI
  have HIb := Lib.hid hI'
  have HW3 := Lib.hid (Rw.later h HOB.out)
  have HW3b := Lib.hid (Rw.later h' HOB.out)
  have HG3 := Lib.hid (hG.later HOB.out)
  have HS3 := Lib.hid (hs.later HOB.out)
  have HNE := Lib.hid hne
  have HMI1 := Lib.hid hM1
  have HMI2 := Lib.hid hM2
  have HK2 := Lib.hid hk2
  have hrn : rn ≤ 12 := by have h4 := HLN.out; have h5 := HF12.out.1.1; omega
  have hsn : sn ≤ 12 := by have h4 := HLNb.out; have h5 := HF12.out.2.1; omega
  have hN40 : N ≤ 40 := by have h5 := HF12.out.1.2.2.1; omega
  obtain ⟨hok1, _⟩ := right_facts hq1
  obtain ⟨hok2, _⟩ := right_facts hq2
  rw [hne] at hok1 hok2
  have hlb1 : (encB [g, ph, t, (kx : Int), r, (N : Int), l] xs).length = 256 := (enc_back hok1).2.2.2
  have hlb2 : (encB [g, ph, t, (k2 : Int), r, (N : Int), l] xs).length = 256 := (enc_back hok2).2.2.2
  obtain ⟨hdn1, hgd1⟩ := first_commit hq1 hlb1 hN40
  have hN3 : 3 ≤ N := by
    obtain ⟨N', K', e1, e2, h3, _⟩ := okM_facts hok1
    omega
  have hl4 : (Dk.Dsk.load [] 400).limit = 400 := by rw [load_zero]; decide
  have ho0 : (Dk.Dsk.load [] 400).ops = 0 := by rw [load_zero]
  have ha0 : (Dk.Dsk.load [] 400).armed = false := by rw [load_zero]
  obtain ⟨d1, e1, hEQ1⟩ : ∃ d1 e1, cmP (Dk.Dsk.load [] 400) (okM g ph t kx r N l n) N kx ws (encB [g, ph, t, (kx : Int), r, (N : Int), l] xs) = (d1, e1) := ⟨_, _, rfl⟩
  rw [hEQ1] at hdn1 hgd1
  obtain rfl : e1 = 0 := hdn1.err
  have hst1 := hdn1.st hl4 (by omega) (Nat.mod_lt _ (by decide)) hgd1
  obtain ⟨s2, hs2⟩ : ∃ z, z = 1 - kx % 2 := ⟨_, rfl⟩
  obtain ⟨s1, hs1⟩ : ∃ z, z = 1 - s2 := ⟨_, rfl⟩
  rw [← hs2] at hst1
  have hc2 := hst1.commit hq2 hlb2 hN40 (by omega)
  obtain ⟨dd, e2, hEQ2⟩ : ∃ dd e2, cmP d1 (okM g ph t k2 r N l n) N k2 vs (encB [g, ph, t, (k2 : Int), r, (N : Int), l] xs) = (dd, e2) := ⟨_, _, rfl⟩
  rw [hEQ2] at hc2
  have hc3 : Done d1 (vs.length + 4) N (dd, e2) ∧ Good (Qe s2 (encB [g, ph, t, (kx : Int), r, (N : Int), l] xs) (encB [g, ph, t, (k2 : Int), r, (N : Int), l] xs)) dd := by
    rcases hc2 with h9 | h9
    · exact h9
    · have h8 := h9.1.armed
      have h7 : d1.armed = (Dk.Dsk.load [] 400).armed := hdn1.armed
      rw [h7, ha0] at h8
      cases h8
  obtain ⟨hdn2, hgd2⟩ := hc3
  obtain rfl : e2 = 0 := hdn2.err
  have h8n : 8 ≤ dd.n := by have h9 : dd.n = max d1.n (N * 4) := hdn2.n; omega
  have hlim : dd.limit = 400 := (show dd.limit = d1.limit from hdn2.limit).trans hst1.lim
  have HNW : Hid (nwP dd = ⟨[g, ph, t, (k2 : Int), r, (N : Int), l], xs, (s2 : Int), 92⟩) := Lib.hid (nw_exact (a := ⟨g, ph, t, kx, r, N, l, xs⟩) (e := ⟨g, ph, t, k2, r, N, l, xs⟩) hdn2.wf hdn2.down h8n (by omega) hok1 hok2 (by show kx % 2 = 1 - s2; omega) (by show k2 % 2 = s2; omega) hgd2 (by show kx < k2; omega))
  obtain ⟨o, ho⟩ : ∃ z, z = s2 * 256 := ⟨_, rfl⟩
  obtain ⟨L, hL⟩ : ∃ z, z = dd.n * 64 := ⟨_, rfl⟩
  have HNL : Hid (nwP (Dk.Dsk.load (over dd.see o z256) 400) = ⟨[g, ph, t, (kx : Int), r, (N : Int), l], xs, (s1 : Int), 92⟩) := Lib.hid (by
    rw [ho, hs1]
    exact nw_lost (a := ⟨g, ph, t, kx, r, N, l, xs⟩) hdn2.wf h8n hlim (by omega) hok1 (by show kx % 2 = 1 - s2; omega) (hgd2.imp Qe.mix))
  have HRM1 : Hid (Roomy (Dk.Dsk.load [] 400) (cost ws + 1000)) := Lib.hid (by
    rw [load_zero, cost_sum]
    have h4 := HF12.out.1
    exact ⟨by show 0 + _ ≤ _; omega, by show 0 + _ ≤ _; omega⟩)
  have HRM2 : Hid (Roomy d1 (cost vs + 1000)) := Lib.hid (by
    have h4 := HF12.out
    have h5 := HLN.out
    refine roomy_done hdn1 ?_ ?_
    · rw [ho0, cost_sum]; omega
    · rw [cost_sum]; omega)
  have HSE : Hid (dd.see.length = L) := Lib.hid (by rw [hL]; exact hdn2.wf.see)
  have hoL : o + 256 ≤ L := by omega
  have HEQ1 := Lib.hid hEQ1
  have HEQ2 := Lib.hid hEQ2
  have hs21 : s2 ≤ 1 := by omega
  obtain ⟨hx2, w1o, w1s⟩ := two_nums hk2 hkx hs21 ho hs1
  clear hs21
  have HLL := Lib.hid hL
  have HLM : Hid (L ≤ 25600) := Lib.hid (by have h9 := hdn2.wf.nl; have h8 : dd.limit = 400 := hlim; have h7 : dd.n ≤ dd.limit := h9; omega)
  clear h h' hsum hsum' hI hI' hG hf1 hf2 hq1 hq2 hs hne hM1 hM2 hok1 hok2 hlb1 hlb2 hdn1 hgd1 hN3 hl4 ho0 ha0 hst1 hc2 hEQ1 hEQ2 hdn2 hgd2 h8n hlim hk2 ho hL hs2 hs1 hkx
  obtain ⟨_, _, _, i3, _, _, _, _⟩ := HA2.out.eight
  obtain ⟨_, _, _, j3, _, _, _, _⟩ := HB2.out.eight
  have z3 := HB2.out.frozen 3
  obtain ⟨h0, h1, h2, h3, h4, h5, h6, h7⟩ := HA1.out.eight
  go_enter Tryd.func5, Tryd.ntmps5
  go_upto_region 1 with (fail)
  rw [← HE1.out]
  go_upto_region 2 with (fail)
  rw [← HE2.out]
  clear h0 h1 h2 h3 h4 h5 h6 h7
  go_upto_region 3 with (fail)
  rw [← HE3.out]
  clear i3 j3 z3 HE1 HE2 HE3 HA1 HA2 HB2 HO2 HO23 HO1
  generalize hbz : w1.heap.size = b7 at HB HNE1 ⊢
  clear hbz
  have HO : Hid (Only (w3.heap.size ≤ ·) w3 w3) := Lib.hid (Only.refl _ w3)
  (obtain ⟨i0, i1, i2, i3, i4, i5, i6, i7⟩ := HA.out.eight)
  (obtain ⟨j0, j1, j2, j3, j4, j5, j6, j7⟩ := HB.out.eight)
  go_upto_region 5 with (first | (go_at_call 7; (with_reducible refine (HF1.out _ HO.out).mono ?_); rintro e wa ⟨rfl, ho⟩; (replace HO := Lib.hid (on_new HO.out ho)); clear ho i0 i1 i2 i3 i4 i5 i6 i7 j0 j1 j2 j3 j4 j5 j6 j7; (obtain ⟨i0, i1, i2, i3, i4, i5, i6, i7⟩ := (HA.out.only HO.out (Nat.not_le.2 HA.out.lt)).eight); (obtain ⟨j0, j1, j2, j3, j4, j5, j6, j7⟩ := (HB.out.only HO.out (Nat.not_le.2 HB.out.lt)).eight)) | (go_at_call 7; (with_reducible refine (HF2.out _ HO.out).mono ?_); rintro e wa ⟨rfl, ho⟩; (replace HO := Lib.hid (on_new HO.out ho)); clear ho i0 i1 i2 i3 i4 i5 i6 i7 j0 j1 j2 j3 j4 j5 j6 j7; (obtain ⟨i0, i1, i2, i3, i4, i5, i6, i7⟩ := (HA.out.only HO.out (Nat.not_le.2 HA.out.lt)).eight); (obtain ⟨j0, j1, j2, j3, j4, j5, j6, j7⟩ := (HB.out.only HO.out (Nat.not_le.2 HB.out.lt)).eight)) | (go_at_call 8; (with_reducible refine (HR1.out _ HO.out).mono ?_); rintro e wa ⟨rfl, ho⟩; (replace HO := Lib.hid (on_new HO.out ho)); clear ho i0 i1 i2 i3 i4 i5 i6 i7 j0 j1 j2 j3 j4 j5 j6 j7; (obtain ⟨i0, i1, i2, i3, i4, i5, i6, i7⟩ := (HA.out.only HO.out (Nat.not_le.2 HA.out.lt)).eight); (obtain ⟨j0, j1, j2, j3, j4, j5, j6, j7⟩ := (HB.out.only HO.out (Nat.not_le.2 HB.out.lt)).eight)) | (go_at_call 8; (with_reducible refine (HR2.out _ HO.out).mono ?_); rintro e wa ⟨rfl, ho⟩; (replace HO := Lib.hid (on_new HO.out ho)); clear ho i0 i1 i2 i3 i4 i5 i6 i7 j0 j1 j2 j3 j4 j5 j6 j7; (obtain ⟨i0, i1, i2, i3, i4, i5, i6, i7⟩ := (HA.out.only HO.out (Nat.not_le.2 HA.out.lt)).eight); (obtain ⟨j0, j1, j2, j3, j4, j5, j6, j7⟩ := (HB.out.only HO.out (Nat.not_le.2 HB.out.lt)).eight)))
  go_upto_region 6 with (go_at_call 10; (with_reducible refine (DNew_d _ 400).mono ?_); rintro e w5 ⟨dp, D, rfl, hd, h0, ho⟩; have HD5 := Lib.hid hd; have HN5 : Hid (∀ k', D k' → w3.heap.size ≤ k') := Lib.hid (fun k' hk' => Nat.le_trans HO.out.size (h0 k' hk')); (replace HO := Lib.hid (on_new HO.out ho)); clear hd h0 ho)
  go_upto_region 9 with (go_at_call 11; (with_reducible refine (PgNew_c _ dp _ D HD5.out).mono ?_); rintro e w6 ⟨q, rfl, hp, ho⟩; have HE : Hid (Env w3 w6 q dp (Dk.Dsk.load [] 400) D) := Lib.hid ⟨hp, HN5.out, on_new HO.out ho⟩; clear hp ho)
  clear i0 i1 i2 i3 i4 i5 i6 i7 j0 j1 j2 j3 j4 j5 j6 j7 HD5 HN5 HO
  have KV : Hid (∀ W : World, Only (w3.heap.size ≤ ·) w3 W → (fun W : World => W.cell? ⟨w.heap.size, 0, none⟩ = some (.int .i64 g) ∧ W.cell? ⟨w.heap.size, 1, none⟩ = some (.int .i64 ph) ∧ W.cell? ⟨w.heap.size, 2, none⟩ = some (.int .i64 t) ∧ W.cell? ⟨w.heap.size, 3, none⟩ = some (.int .i64 (kx : Nat)) ∧ W.cell? ⟨w.heap.size, 4, none⟩ = some (.int .i64 r) ∧ W.cell? ⟨w.heap.size, 5, none⟩ = some (.int .i64 (N : Nat)) ∧ W.cell? ⟨w.heap.size, 6, none⟩ = some (.int .i64 l) ∧ W.cell? ⟨w.heap.size, 7, none⟩ = some (.slice A n c)) W) := Lib.hid (fun W hW => (HA.out.only hW (Nat.not_le.2 HA.out.lt)).eight)
  have KW : Hid (∀ W : World, Only (w3.heap.size ≤ ·) w3 W → (fun W : World => W.cell? ⟨b7, 0, none⟩ = some (.int .i64 g) ∧ W.cell? ⟨b7, 1, none⟩ = some (.int .i64 ph) ∧ W.cell? ⟨b7, 2, none⟩ = some (.int .i64 t) ∧ W.cell? ⟨b7, 3, none⟩ = some (.int .i64 (k2 : Nat)) ∧ W.cell? ⟨b7, 4, none⟩ = some (.int .i64 r) ∧ W.cell? ⟨b7, 5, none⟩ = some (.int .i64 (N : Nat)) ∧ W.cell? ⟨b7, 6, none⟩ = some (.int .i64 l) ∧ W.cell? ⟨b7, 7, none⟩ = some (.slice A n c)) W) := Lib.hid (fun W hW => (HB.out.only hW (Nat.not_le.2 HB.out.lt)).eight)
  have HV0 : Hid (Only (w6.heap.size ≤ ·) w6 w6.drew) := Lib.hid ((Only.refl _ w6).drew)
  have HSV := Lib.hid (KV.out _ (on_new HE.out.only HV0.out))
  refine wp_region_list (B := [false, false, false, false, false, false]) (S := (fun W : World => W.cell? ⟨w.heap.size, 0, none⟩ = some (.int .i64 g) ∧ W.cell? ⟨w.heap.size, 1, none⟩ = some (.int .i64 ph) ∧ W.cell? ⟨w.heap.size, 2, none⟩ = some (.int .i64 t) ∧ W.cell? ⟨w.heap.size, 3, none⟩ = some (.int .i64 (kx : Nat)) ∧ W.cell? ⟨w.heap.size, 4, none⟩ = some (.int .i64 r) ∧ W.cell? ⟨w.heap.size, 5, none⟩ = some (.int .i64 (N : Nat)) ∧ W.cell? ⟨w.heap.size, 6, none⟩ = some (.int .i64 l) ∧ W.cell? ⟨w.heap.size, 7, none⟩ = some (.slice A n c))) (by kernel_rfl) (by kernel_rfl) (by kernel_rfl) HSV.out (fun hsel hHeld => ?_)
  generalize hwz : World.drew _ = wv0 at HV0 HSV hHeld ⊢
  clear hwz
  refine oneA 0 52 hsel (h := ?_)
  simp only [Act.put, List.setIfInBounds_toArray, List.set_cons_zero, List.set_cons_succ]
  refine oneA 1 53 hsel (h := ?_)
  simp only [Act.put, List.setIfInBounds_toArray, List.set_cons_zero, List.set_cons_succ]
  refine oneA 3 55 hsel (h := ?_)
  simp only [Act.put, List.setIfInBounds_toArray, List.set_cons_zero, List.set_cons_succ]
  refine wpAnyL_ready (rs := [2]) (by kernel_rfl) (by kernel_rfl) (by simp) ?_
  refine AllReadyL.cons (o := ?_) ?_ (fun K hK => ?_) AllReadyL.nil
  case refine_2 => (simp only [List.getElem?_cons_succ, List.getElem?_cons_zero]; rfl)
  go_simp
  (go_at_call 13; (with_reducible refine (of_0 w3 _ RA rn rc ws HW3.out (on_new HE.out.only HV0.out) (by omega)).mono ?_); rintro e wv1 ⟨R, tt, C, rfl, hden, hown, ho⟩; have HV1 := Lib.hid (on_new HV0.out ho); have HSR : Hid (SRw wrE _ wv1 (.slice R rn tt) ws) := Lib.hid (srw_of hden hown HLN.out (fun k' hk' => ⟨HE.out.new k' hk', Nat.lt_of_lt_of_le (HE.out.off k' hk') HV0.out.size⟩) (on_new HE.out.only HV1.out)); clear hden hown ho)
  go_wp2_with (fail)
  clear hHeld
  refine hK.out _ _ (KV.out _ (on_new HE.out.only HV1.out)) (fun hHeld => ?_)
  clear hK K
  try simp only [Act.put, List.setIfInBounds_toArray, List.set_cons_zero, List.set_cons_succ]
  refine wpAnyL_ready (rs := [4]) (by kernel_rfl) (by kernel_rfl) (by simp) ?_
  refine AllReadyL.cons (o := ?_) ?_ (fun K hK => ?_) AllReadyL.nil
  case refine_2 => (simp only [List.getElem?_cons_succ, List.getElem?_cons_zero]; rfl)
  have HCM := Lib.hid (show Calls _ _ _ _ _ from by have h9 := PgCommit_c wv1 q dp _ _ (HE.out.later HV1.out).at_ (HG3.out.later (on_new HE.out.only HV1.out)) g ph t kx r N l A n c xs (HS3.out.later (on_new HE.out.only HV1.out)) HNE.out HMI1.out R rn tt ws HSR.out (by omega) (fun y hy => (HI.out y hy).2) HRM1.out; rw [HEQ1.out] at h9; exact h9)
  go_simp
  (go_at_call 12; (with_reducible refine HCM.out.mono ?_); rintro e wv2 ⟨rfl, hg⟩; have HGV := Lib.hid hg; clear hg)
  go_wp2_with (fail)
  clear hHeld
  refine hK.out _ _ (KV.out _ (gave_only (HE.out.later HV1.out) HGV.out)) (fun hHeld => ?_)
  clear hK K
  try simp only [Act.put, List.setIfInBounds_toArray, List.set_cons_zero, List.set_cons_succ]
  refine oneA 5 10 hsel (h := ?_)
  simp only [Act.put, List.setIfInBounds_toArray, List.set_cons_zero, List.set_cons_succ]
  refine wpAnyL_done (by kernel_rfl) (by kernel_rfl) ?_ _
  clear hsel hHeld
  obtain ⟨D8, he8, _, _⟩ := (HE.out.later HV1.out).gave HGV.out
  replace HE := Lib.hid he8
  clear he8 HV1 HGV HSR HCM HV0 HSV
  go_upto_region 10 with (fail)
  generalize wv2 = w7 at HE ⊢
  have HV0 : Hid (Only (w7.heap.size ≤ ·) w7 w7.drew) := Lib.hid ((Only.refl _ w7).drew)
  replace KV := KW
  have HSV := Lib.hid (KV.out _ (on_new HE.out.only HV0.out))
  refine wp_region_list (B := [false, false, false, false, false, false]) (S := (fun W : World => W.cell? ⟨b7, 0, none⟩ = some (.int .i64 g) ∧ W.cell? ⟨b7, 1, none⟩ = some (.int .i64 ph) ∧ W.cell? ⟨b7, 2, none⟩ = some (.int .i64 t) ∧ W.cell? ⟨b7, 3, none⟩ = some (.int .i64 (k2 : Nat)) ∧ W.cell? ⟨b7, 4, none⟩ = some (.int .i64 r) ∧ W.cell? ⟨b7, 5, none⟩ = some (.int .i64 (N : Nat)) ∧ W.cell? ⟨b7, 6, none⟩ = some (.int .i64 l) ∧ W.cell? ⟨b7, 7, none⟩ = some (.slice A n c))) (by kernel_rfl) (by kernel_rfl) (by kernel_rfl) HSV.out (fun hsel hHeld => ?_)
  generalize hwz : World.drew _ = wv0 at HV0 HSV hHeld ⊢
  clear hwz
  refine oneA 0 57 hsel (h := ?_)
  simp only [Act.put, List.setIfInBounds_toArray, List.set_cons_zero, List.set_cons_succ]
  refine oneA 1 58 hsel (h := ?_)
  simp only [Act.put, List.setIfInBounds_toArray, List.set_cons_zero, List.set_cons_succ]
  refine oneA 3 60 hsel (h := ?_)
  simp only [Act.put, List.setIfInBounds_toArray, List.set_cons_zero, List.set_cons_succ]
  refine wpAnyL_ready (rs := [2]) (by kernel_rfl) (by kernel_rfl) (by simp) ?_
  refine AllReadyL.cons (o := ?_) ?_ (fun K hK => ?_) AllReadyL.nil
  case refine_2 => (simp only [List.getElem?_cons_succ, List.getElem?_cons_zero]; rfl)
  go_simp
  (go_at_call 13; (with_reducible refine (of_0 w3 _ RB sn sc vs HW3b.out (on_new HE.out.only HV0.out) (by omega)).mono ?_); rintro e wv1 ⟨R, tt, C, rfl, hden, hown, ho⟩; have HV1 := Lib.hid (on_new HV0.out ho); have HSR : Hid (SRw wrE _ wv1 (.slice R sn tt) vs) := Lib.hid (srw_of hden hown HLNb.out (fun k' hk' => ⟨HE.out.new k' hk', Nat.lt_of_lt_of_le (HE.out.off k' hk') HV0.out.size⟩) (on_new HE.out.only HV1.out)); clear hden hown ho)
  go_wp2_with (fail)
  clear hHeld
  refine hK.out _ _ (KV.out _ (on_new HE.out.only HV1.out)) (fun hHeld => ?_)
  clear hK K
  try simp only [Act.put, List.setIfInBounds_toArray, List.set_cons_zero, List.set_cons_succ]
  refine wpAnyL_ready (rs := [4]) (by kernel_rfl) (by kernel_rfl) (by simp) ?_
  refine AllReadyL.cons (o := ?_) ?_ (fun K hK => ?_) AllReadyL.nil
  case refine_2 => (simp only [List.getElem?_cons_succ, List.getElem?_cons_zero]; rfl)
  have HCM := Lib.hid (show Calls _ _ _ _ _ from by have h9 := PgCommit_c wv1 q dp _ _ (HE.out.later HV1.out).at_ (HG3.out.later (on_new HE.out.only HV1.out)) g ph t k2 r N l A n c xs (HS3.out.later (on_new HE.out.only HV1.out)) HNE.out HMI2.out R sn tt vs HSR.out (by omega) (fun y hy => (HIb.out y hy).2) HRM2.out; rw [HEQ2.out] at h9; exact h9)
  go_simp
  (go_at_call 12; (with_reducible refine HCM.out.mono ?_); rintro e wv2 ⟨rfl, hg⟩; have HGV := Lib.hid hg; clear hg)
  go_wp2_with (fail)
  clear hHeld
  refine hK.out _ _ (KV.out _ (gave_only (HE.out.later HV1.out) HGV.out)) (fun hHeld => ?_)
  clear hK K
  try simp only [Act.put, List.setIfInBounds_toArray, List.set_cons_zero, List.set_cons_succ]
  refine oneA 5 11 hsel (h := ?_)
  simp only [Act.put, List.setIfInBounds_toArray, List.set_cons_zero, List.set_cons_succ]
  refine wpAnyL_done (by kernel_rfl) (by kernel_rfl) ?_ _
  clear hsel hHeld
  obtain ⟨D9, he9, _, _⟩ := (HE.out.later HV1.out).gave HGV.out
  replace HE := Lib.hid he9
  clear he9 HV1 HGV HSR HCM HV0 HSV
  go_upto_region 12 with (go_at_call 19; (with_reducible refine (new_at _ q dp dd _ HE.out.at_ (HG3.out.later HE.out.only) HNE.out HNW.out).mono ?_); rintro e w11 ⟨AX, cX, rfl, hn, ho⟩; have HSX : Hid (Src w11 (.slice AX n cX) xs) := Lib.hid hn.src; (replace HE := Lib.hid (HE.out.later ho)); clear hn ho)
  obtain ⟨wI, hwI⟩ : ∃ z, z = w11.alloc (.cells #[.int .i64 g, .int .i64 ph, .int .i64 t, .int .i64 (k2 : Nat), .int .i64 r, .int .i64 (N : Nat), .int .i64 l, .slice AX n cX] 36) := ⟨_, rfl⟩
  have HOI : Hid (Only (w11.heap.size ≤ ·) w11 wI) := Lib.hid (by rw [hwI]; exact (Only.refl _ w11).alloc (fun _ h => h) _)
  have HX : Hid (Blk wI w11.heap.size 36 [.int .i64 g, .int .i64 ph, .int .i64 t, .int .i64 (k2 : Nat), .int .i64 r, .int .i64 (N : Nat), .int .i64 l, .slice AX n cX]) := Lib.hid (by rw [hwI]; exact Blk.new w11 36 _)
  rw [← hwI]
  clear hwI
  replace HE := Lib.hid (HE.out.later HOI.out)
  replace HSX := Lib.hid (HSX.out.later HOI.out)
  generalize w11.heap.size = bx at HX HOI ⊢
  clear HOI
  have HIM := Lib.hid (Dk.Image_c wI _ dp dd HE.out.at_.dat.holds)
  rw [← HLL.out] at HIM
  go_upto_region 13 with (go_at_call 20; (with_reducible refine HIM.out.mono ?_); rintro e wJ ⟨rfl, hb, ho⟩; have HIB : Hid (Blk wJ.drew wI.heap.size 5 (cb dd.see)) := Lib.hid (Blk.drew hb); have HC0 : Hid (Only (wI.heap.size ≤ ·) wI wJ.drew) := Lib.hid (Only.drew ho); clear hb ho)
  clear HIM
  obtain ⟨Z, hZ⟩ : ∃ Z, Z = cb z256 := ⟨_, rfl⟩
  have hmk : ∀ W : World, (Instr.makeSlice 23 (.int .i64 256) (.int .i64 256)).run Tryd.prog W = .ok (.slice (some ⟨W.heap.size, 0, none⟩) 256 256) (W.alloc (.cells Z.toArray 5)) := fun W => by
    rw [hZ, show cb z256 = List.replicate 256 z8 by simp [cb, z256, z8]]
    exact run_make8 256 (by omega) W
  have hzl : Z.length = 256 := by rw [hZ, cb_length, z256_len]
  have HZC : Hid (o + Z.length ≤ (cb dd.see).length ∧ Z.length = Nat.min 256 (L - o) ∧ ∀ v ∈ Z, v.oneCell' = true) := Lib.hid ⟨by rw [hzl, cb_length, HSE.out]; exact hoL, by rw [hzl]; exact (Nat.min_eq_left (by omega)).symm, by rw [hZ]; exact cb_one _⟩
  have HZZ := Lib.hid hZ
  have c1 : (o : Int) ≤ (L : Int) := by omega
  have c2 : (0 : Int) ≤ (o : Int) := by omega
  have c3 : o ≤ L := by omega
  have c4 : ¬ L = o := by omega
  have HOL2 := Lib.hid hoL
  clear hZ hzl hoL
  refine wp_region_list (B := [false, false, false, false, false, false]) (S := (fun _ : World => True)) (by kernel_rfl) (by kernel_rfl) (by kernel_rfl) trivial (fun hsel hHeld => ?_)
  generalize hwz : World.drew _ = wc0 at HC0 HIB hHeld ⊢
  clear hwz
  refine oneA 0 70 hsel (h := ?_)
  simp only [Act.put, List.setIfInBounds_toArray, List.set_cons_zero, List.set_cons_succ]
  refine oneA 1 71 hsel (h := ?_)
  simp only [Act.put, List.setIfInBounds_toArray, List.set_cons_zero, List.set_cons_succ]
  refine oneA 2 72 hsel (h := ?_)
  simp only [Act.put, List.setIfInBounds_toArray, List.set_cons_zero, List.set_cons_succ]
  refine oneA 3 73 hsel (h := ?_)
  simp only [Act.put, List.setIfInBounds_toArray, List.set_cons_zero, List.set_cons_succ]
  refine wpAnyL_ready (rs := [4]) (by kernel_rfl) (by kernel_rfl) (by simp) ?_
  refine AllReadyL.cons (o := ?_) ?_ (fun K hK => ?_) AllReadyL.nil
  case refine_2 => (simp only [List.getElem?_cons_succ, List.getElem?_cons_zero]; rfl)
  go_simp
  have HZW : Hid (Only (wI.heap.size ≤ ·) wI (wc0.alloc (.cells Z.toArray 5))) := Lib.hid (HC0.out.alloc (fun _ h => h) _)
  have HZB : Hid (Blk (wc0.alloc (.cells Z.toArray 5)) wc0.heap.size 5 Z) := Lib.hid (Blk.new wc0 5 Z)
  replace HIB : Hid (Blk (wc0.alloc (.cells Z.toArray 5)) wI.heap.size 5 (cb dd.see)) := Lib.hid (HIB.out.alloc _)
  clear hHeld
  refine hK.out _ _ trivial (fun hHeld => ?_)
  clear hK K
  try simp only [Act.put, List.setIfInBounds_toArray, List.set_cons_zero, List.set_cons_succ]
  generalize hwz : wc0.alloc (.cells Z.toArray 5) = wc1 at HZW HZB HIB hHeld ⊢
  clear hwz
  refine wpAnyL_ready (rs := [5]) (by kernel_rfl) (by kernel_rfl) (by simp) ?_
  refine AllReadyL.cons (o := ?_) ?_ (fun K hK => ?_) AllReadyL.nil
  case refine_2 => (simp only [List.getElem?_cons_succ, List.getElem?_cons_zero]; rfl)
  refine step_copy_splice rfl (.tmp 73) (.tmp 74) 23 23 rfl 5 Tryd.underlying23 (by kernel_rfl) (some ⟨wI.heap.size, o, none⟩) (some ⟨wc0.heap.size, 0, none⟩) (L - o) (L - o) 256 256 rfl rfl wI.heap.size o (cb dd.see) 5 HIB.out Z HZC.out.2.1 (fun _ => ⟨rfl, _, rfl, fun j v hv => by rw [Addr.add_lit, Nat.zero_add, HZB.out.cell]; exact hv⟩) HZC.out.1 HZC.out.2.2 wI.heap.size wI (HZW.out.toBelow fun _ h => h) (Nat.le_refl _) (fun wc2 hh hb => ?_)
  have HIC := hh
  have HOC : Hid (Only (wI.heap.size ≤ ·) wI wc2) := Lib.hid (Only.below hb)
  clear hh hb
  clear hHeld
  refine hK.out _ _ trivial (fun hHeld => ?_)
  clear hK K
  try simp only [Act.put, List.setIfInBounds_toArray, List.set_cons_zero, List.set_cons_succ]
  refine wpAnyL_done (by kernel_rfl) (by kernel_rfl) ?_ _
  clear hsel hHeld
  go_wp2_with (fail)
  have HSP : Hid (splice (cb dd.see) o Z = cb (over dd.see o z256)) := Lib.hid (by
    rw [HZZ.out]
    unfold cb
    rw [over_map]
    rfl)
  have HSR : Hid (Src wc2 (.slice (some ⟨wI.heap.size, 0, none⟩) L L) (over dd.see o z256)) := Lib.hid (by
    have h1 : Blk wc2 wI.heap.size 5 (cb (over dd.see o z256) ++ []) := by rw [List.append_nil, ← HSP.out]; exact HIC.out
    have hl : (over dd.see o z256).length = L := (over_length _ _ _ (by rw [z256_len, HSE.out]; exact HOL2.out)).trans HSE.out
    have h2 := Txt.blk (A := some ⟨wI.heap.size, 0, none⟩) h1 0 (over dd.see o z256).length (by omega) (fun _ => rfl)
    rw [List.drop_zero, List.take_length] at h2
    have h3 := HLM.out
    exact ⟨some ⟨wI.heap.size, 0, none⟩, L, by rw [hl], h2, (fun e => by cases e), by omega, by omega⟩)
  have HEC : Hid (Only (w3.heap.size ≤ ·) w3 wc2) := Lib.hid (on_new HE.out.only HOC.out)
  clear HSP HIC HZC HZZ hmk c1 c2 c3 c4 HZW HZB HIB HC0 w1o
  go_upto_region 15 with (first
    | (go_at_call 21; (with_reducible refine (DLoad_d wc2 _ L L _ HSR.out 400).mono ?_); rintro e w12 ⟨p2, D2, rfl, hd, h0, ho⟩; have HD6 := Lib.hid hd; have HN6 : Hid (∀ k', D2 k' → w3.heap.size ≤ k') := Lib.hid (fun k' hk' => Nat.le_trans HEC.out.size (h0 k' hk')); have HO6 := Lib.hid ho; clear hd h0 ho)
    | (go_at_call 11; (with_reducible refine (PgNew_c _ p2 _ D2 HD6.out).mono ?_); rintro e w13 ⟨q2, rfl, hp, ho⟩; have HE2 : Hid (Env w3 w13 q2 p2 (Dk.Dsk.load (over dd.see o z256) 400) D2) := Lib.hid ⟨hp, HN6.out, on_new HEC.out (on_new HO6.out ho)⟩; have HO7 : Hid (Only (wI.heap.size ≤ ·) wI w13) := Lib.hid (on_new HOC.out (on_new HO6.out ho)); clear hp ho)
    | (go_at_call 19; (with_reducible refine (new_at _ q2 p2 _ _ HE2.out.at_ (HG3.out.later HE2.out.only) HNE.out HNL.out).mono ?_); rintro e w14 ⟨AY, cY, rfl, hn, ho⟩; have HSY : Hid (Src w14 (.slice AY n cY) xs) := Lib.hid hn.src; have HZ := Lib.hid (on_new HE2.out.only ho); have HZX := Lib.hid (on_new HO7.out ho); clear hn ho))
  obtain ⟨wL, hwL⟩ : ∃ z, z = w14.alloc (.cells #[.int .i64 g, .int .i64 ph, .int .i64 t, .int .i64 (kx : Nat), .int .i64 r, .int .i64 (N : Nat), .int .i64 l, .slice AY n cY] 36) := ⟨_, rfl⟩
  have HOL : Hid (Only (w14.heap.size ≤ ·) w14 wL) := Lib.hid (by rw [hwL]; exact (Only.refl _ w14).alloc (fun _ h => h) _)
  have HY : Hid (Blk wL w14.heap.size 36 [.int .i64 g, .int .i64 ph, .int .i64 t, .int .i64 (kx : Nat), .int .i64 r, .int .i64 (N : Nat), .int .i64 l, .slice AY n cY]) := Lib.hid (by rw [hwL]; exact Blk.new w14 36 _)
  rw [← hwL]
  clear hwL
  replace HSY := Lib.hid (HSY.out.later HOL.out)
  replace HZ := Lib.hid (on_new HZ.out HOL.out)
  replace HZX := Lib.hid (on_new HZX.out HOL.out)
  have HZY : Hid (Only (wL.heap.size ≤ ·) wL wL) := Lib.hid (Only.refl _ _)
  generalize w14.heap.size = by_ at HY HOL ⊢
  clear HOL
  (obtain ⟨i0, i1, i2, i3, i4, i5, i6, i7⟩ := (HA.out.only HZ.out (Nat.not_le.2 HA.out.lt)).eight); (obtain ⟨j0, j1, j2, j3, j4, j5, j6, j7⟩ := (HB.out.only HZ.out (Nat.not_le.2 HB.out.lt)).eight); (obtain ⟨a0, a1, a2, a3, a4, a5, a6, a7⟩ := (HX.out.only HZX.out (Nat.not_le.2 HX.out.lt)).eight); (obtain ⟨b0, b1, b2, b3, b4, b5, b6, b7⟩ := (HY.out.only HZY.out (Nat.not_le.2 HY.out.lt)).eight)
  go_wp2_with (first
    | (go_at_call 9; (with_reducible refine (HAL.out _ HZ.out).mono ?_); rintro e wz ⟨rfl, ho⟩; (replace HZ := Lib.hid (on_new HZ.out ho)); (replace HZX := Lib.hid (on_new HZX.out ho)); (replace HZY := Lib.hid (on_new HZY.out ho)); clear ho i0 i1 i2 i3 i4 i5 i6 i7 j0 j1 j2 j3 j4 j5 j6 j7 a0 a1 a2 a3 a4 a5 a6 a7 b0 b1 b2 b3 b4 b5 b6 b7; (obtain ⟨i0, i1, i2, i3, i4, i5, i6, i7⟩ := (HA.out.only HZ.out (Nat.not_le.2 HA.out.lt)).eight); (obtain ⟨j0, j1, j2, j3, j4, j5, j6, j7⟩ := (HB.out.only HZ.out (Nat.not_le.2 HB.out.lt)).eight); (obtain ⟨a0, a1, a2, a3, a4, a5, a6, a7⟩ := (HX.out.only HZX.out (Nat.not_le.2 HX.out.lt)).eight); (obtain ⟨b0, b1, b2, b3, b4, b5, b6, b7⟩ := (HY.out.only HZY.out (Nat.not_le.2 HY.out.lt)).eight))
    | (go_at_call 22; (with_reducible refine (rmSame_eq _ g ph t (k2 : Int) r (N : Int) l AX A n cX c xs (HSX.out.later HZX.out) (HS3.out.later HZ.out)).mono ?_); rintro e wz ⟨rfl, ho⟩; (replace HZ := Lib.hid (on_new HZ.out ho)); (replace HZX := Lib.hid (on_new HZX.out ho)); (replace HZY := Lib.hid (on_new HZY.out ho)); clear ho i0 i1 i2 i3 i4 i5 i6 i7 j0 j1 j2 j3 j4 j5 j6 j7 a0 a1 a2 a3 a4 a5 a6 a7 b0 b1 b2 b3 b4 b5 b6 b7; (obtain ⟨i0, i1, i2, i3, i4, i5, i6, i7⟩ := (HA.out.only HZ.out (Nat.not_le.2 HA.out.lt)).eight); (obtain ⟨j0, j1, j2, j3, j4, j5, j6, j7⟩ := (HB.out.only HZ.out (Nat.not_le.2 HB.out.lt)).eight); (obtain ⟨a0, a1, a2, a3, a4, a5, a6, a7⟩ := (HX.out.only HZX.out (Nat.not_le.2 HX.out.lt)).eight); (obtain ⟨b0, b1, b2, b3, b4, b5, b6, b7⟩ := (HY.out.only HZY.out (Nat.not_le.2 HY.out.lt)).eight))
    | (go_at_call 22; (with_reducible refine (rmSame_eq _ g ph t (kx : Int) r (N : Int) l AY A n cY c xs (HSY.out.later HZY.out) (HS3.out.later HZ.out)).mono ?_); rintro e wz ⟨rfl, ho⟩; (replace HZ := Lib.hid (on_new HZ.out ho)); (replace HZX := Lib.hid (on_new HZX.out ho)); (replace HZY := Lib.hid (on_new HZY.out ho)); clear ho i0 i1 i2 i3 i4 i5 i6 i7 j0 j1 j2 j3 j4 j5 j6 j7 a0 a1 a2 a3 a4 a5 a6 a7 b0 b1 b2 b3 b4 b5 b6 b7; (obtain ⟨i0, i1, i2, i3, i4, i5, i6, i7⟩ := (HA.out.only HZ.out (Nat.not_le.2 HA.out.lt)).eight); (obtain ⟨j0, j1, j2, j3, j4, j5, j6, j7⟩ := (HB.out.only HZ.out (Nat.not_le.2 HB.out.lt)).eight); (obtain ⟨a0, a1, a2, a3, a4, a5, a6, a7⟩ := (HX.out.only HZX.out (Nat.not_le.2 HX.out.lt)).eight); (obtain ⟨b0, b1, b2, b3, b4, b5, b6, b7⟩ := (HY.out.only HZY.out (Nat.not_le.2 HY.out.lt)).eight)))
  go_ret
  exact ⟨rfl, on_new HOB.out HZ.out⟩
theorem ptwo_c (w : World) (hG : Gens w) (g ph t x r p l : Int) (A : Option Addr) (n c : Nat) (RA : Option Addr) (rn rc : Nat) (ws : List Wt) (RB : Option Addr) (sn sc : Nat) (vs : List Wt) (h : Wts w (.slice RA rn rc) ws) (h' : Wts w (.slice RB sn sc) vs) (hsum : ∀ y ∈ ws, y.2.length ≤ 140737488355328) (hsum' : ∀ y ∈ vs, y.2.length ≤ 140737488355328) (hI : ∀ y ∈ ws, I64v y.1) (hI' : ∀ y ∈ vs, I64v y.1) (xs : Bytes) (hs : Src w (.slice A n c) xs) (hne : n = xs.length) (hM : ∀ u ∈ [g, ph, t, x, r, p, l], I64 u) : Calls Tryd.prog 5 #[.agg #[.int .i64 g, .int .i64 ph, .int .i64 t, .int .i64 x, .int .i64 r, .int .i64 p, .int .i64 l, .slice A n c], .slice RA rn rc, .slice RB sn sc] w (Told w (.bool true)) := by
  by_cases hc : fewP ws p n = false ∨ fewP vs p n = false ∨ pgRight (okM g ph t x r p l n) p ws = false ∨ pgRight (okM g ph t (wrap64 (x + 1)) r p l n) p vs = false
  · exact ptwo_early w hG g ph t x r p l A n c RA rn rc ws RB sn sc vs h h' hsum hsum' hI hI' hc
  · have h1 : fewP ws p n = true := by
      rw [← Bool.not_eq_false]
      exact fun e => hc (.inl e)
    have h2 : fewP vs p n = true := by
      rw [← Bool.not_eq_false]
      exact fun e => hc (.inr (.inl e))
    have h3 : pgRight (okM g ph t x r p l n) p ws = true := by
      rw [← Bool.not_eq_false]
      exact fun e => hc (.inr (.inr (.inl e)))
    have h4 : pgRight (okM g ph t (wrap64 (x + 1)) r p l n) p vs = true := by
      rw [← Bool.not_eq_false]
      exact fun e => hc (.inr (.inr (.inr e)))
    obtain ⟨N, kx, rfl, rfl, h5, h6, h7, h8⟩ := okM_facts (right_facts h3).1
    have h9 : wrap64 ((kx : Int) + 1) = ((kx + 1 : Nat) : Int) := by
      rw [IntWalk.wrap64_in _ (by omega)]
      omega
    rw [h9] at h4
    obtain ⟨_, k', _, e2, _, _, _, h10⟩ := okM_facts (right_facts h4).1
    refine ptwo_main w hG g ph t kx r N l A n c RA rn rc ws RB sn sc vs h h' hsum hsum' hI hI' xs hs hne hM (fun u hu => ?_) h1 h2 h3 h4 (by omega)
    simp only [List.mem_cons, List.not_mem_nil, or_false] at hu
    rcases hu with rfl | rfl | rfl | rfl | rfl | rfl | rfl
    · exact hM _ (by simp)
    · exact hM _ (by simp)
    · exact hM _ (by simp)
    · unfold I64
      omega
    · exact hM _ (by simp)
    · exact hM _ (by simp)
    · exact hM _ (by simp)
end Go.Proofs.YtopaponemjaenaaDoor
