/-
  The document's disk: Do, where it reads.
-/
import Derived.Test.YtopaponemjaenaaGreatDoorPuc
set_option linter.unusedVariables false
namespace Go.Proofs.YtopaponemjaenaaGreatDoor
open Go.RowKit

theorem blk_five {w : World} {q : Nat} {t : TypeId} {a b c d e : Value} (h : Blk w q t [a, b, c, d, e]) : w.cell? ⟨q, 0, none⟩ = some a ∧ w.cell? ⟨q, 1, none⟩ = some b ∧ w.cell? ⟨q, 2, none⟩ = some c ∧ w.cell? ⟨q, 3, none⟩ = some d ∧ w.cell? ⟨q, 4, none⟩ = some e := ⟨h.cell 0, h.cell 1, h.cell 2, h.cell 3, h.cell 4⟩
theorem src_capn {w : World} {A : Option Addr} {n c : Nat} {xs : Bytes} (h : Src w (.slice A n c) xs) : n ≤ c := by
  obtain ⟨A', c', e, _, _, h5, _⟩ := h
  cases e
  exact h5
/-- What the document's disk tells of sectors. -/
def rdK (N : Nat) (im : Bytes) (a m : Int) : Bytes × Int := if hasK N a m = false then ([], 11) else ((im.drop (a.toNat * 64)).take (m.toNat * 64), 0)
def GaveDo (w : World) (v : Value) (s : Bytes × Int) (e : Ending) (w' : World) : Prop := ∃ A n c, e = .returned (.tuple #[v, .slice A n c, .int .i64 s.2]) ∧ n = s.1.length ∧ Src w' (.slice A n c) s.1 ∧ Only (w.heap.size ≤ ·) w w'
theorem do_nums {a m : Int} {lo hi : Nat} (h1 : 0 ≤ a) (h2 : 0 ≤ m) (h3 : a + m ≤ 65536) (hlo : lo = a.toNat * 64) (hhi : hi = (a.toNat + m.toNat) * 64) : IntKind.i64.wrap (64 * a) = (lo : Int) ∧ IntKind.i64.wrap (a + m) = a + m ∧ IntKind.i64.wrap (64 * (a + m)) = (hi : Int) := by
  refine ⟨?_, IntWalk.i64_in _ (by omega), ?_⟩
  · rw [IntWalk.i64_in _ (by omega)]
    omega
  · rw [IntWalk.i64_in _ (by omega)]
    omega
theorem src_lt {w : World} {b o n c : Nat} {xs : Bytes} (h : Src w (.slice (some ⟨b, o, none⟩) n c) xs) (hn : 0 < n) : b < w.heap.size := by
  obtain ⟨A', c', e, ht, _⟩ := h
  cases e
  exact ht.block hn
set_option maxRecDepth 100000 in
set_option maxHeartbeats 12800000 in
theorem kDo_read (w : World) (L : Int) (BA : Option Addr) (bn bc : Nat) (RA : Option Addr) (rn rc : Nat) (ops fu : Int) (B : Bytes) (row : List Dk.Wr) (N : Nat) (hs : Src w (.slice BA bn bc) B) (hn : B.length = bn) (hN : bn = N * 64) (hN2 : N ≤ 65536) (hr : Kws w (.slice RA rn rc) row) (hf : Dk.Fits N row) (hrn : rn ≤ 1000000) (a m : Int) (ha : I64v a) (hm1 : 1 ≤ m) :
    Calls Tryz.prog 11 #[.agg #[.int .i64 L, .slice BA bn bc, .slice RA rn rc, .int .i64 ops, .int .i64 fu, .bool false], .agg #[.int .i64 1, .int .i64 a, .int .i64 m, .slice none 0 0, .slice none 0 0]] w (GaveDo w (.agg #[.int .i64 L, .slice BA bn bc, .slice RA rn rc, .int .i64 ops, .int .i64 fu, .bool false]) (rdK N (Dk.look B row) a m)) := by
  obtain ⟨w1, hw1⟩ : ∃ W0, W0 = ((w.alloc (.cells #[.int .i64 L, .slice BA bn bc, .slice RA rn rc, .int .i64 ops, .int .i64 fu, .bool false] 34)).alloc (.cells #[.int .i64 1, .int .i64 a, .int .i64 m, .slice none 0 0, .slice none 0 0] 44)).alloc (.cells #[.int .i64 0, .slice none 0 0, .slice none 0 0, .int .i64 0, .int .i64 0, .bool false] 34) := ⟨_, rfl⟩
  have HO1 : Hid (Only (w.heap.size ≤ ·) w w1) := Lib.hid (by rw [hw1]; exact (((Only.refl _ w).alloc (fun _ h => h) _).alloc (fun _ h => h) _).alloc (fun _ h => h) _)
  have HQ2 : Hid (Blk w1 w.heap.size 34 [.int .i64 L, .slice BA bn bc, .slice RA rn rc, .int .i64 ops, .int .i64 fu, .bool false]) := Lib.hid (by rw [hw1]; exact ((Blk.new w 34 [.int .i64 L, .slice BA bn bc, .slice RA rn rc, .int .i64 ops, .int .i64 fu, .bool false]).alloc _).alloc _)
  have HQ3 : Hid (Blk w1 (w.heap.size + 1) 44 [.int .i64 1, .int .i64 a, .int .i64 m, .slice none 0 0, .slice none 0 0]) := Lib.hid (by
    have h := (Blk.new (w.alloc (.cells #[.int .i64 L, .slice BA bn bc, .slice RA rn rc, .int .i64 ops, .int .i64 fu, .bool false] 34)) 44 [.int .i64 1, .int .i64 a, .int .i64 m, .slice none 0 0, .slice none 0 0]).alloc (.cells #[.int .i64 0, .slice none 0 0, .slice none 0 0, .int .i64 0, .int .i64 0, .bool false] 34)
    rw [← hw1] at h
    simpa using h)
  have HQ4 : Hid (Blk w1 (w.heap.size + 1 + 1) 34 [.int .i64 0, .slice none 0 0, .slice none 0 0, .int .i64 0, .int .i64 0, .bool false]) := Lib.hid (by
    have h := Blk.new ((w.alloc (.cells #[.int .i64 L, .slice BA bn bc, .slice RA rn rc, .int .i64 ops, .int .i64 fu, .bool false] 34)).alloc (.cells #[.int .i64 1, .int .i64 a, .int .i64 m, .slice none 0 0, .slice none 0 0] 44)) 34 [.int .i64 0, .slice none 0 0, .slice none 0 0, .int .i64 0, .int .i64 0, .bool false]
    rw [← hw1] at h
    simpa using h)
  have HE1 := Lib.hid hw1
  clear hw1
  have HIS : Hid (∀ W, Calls Tryz.prog 39 #[.agg #[.int .i64 L, .slice BA bn bc, .slice RA rn rc, .int .i64 ops, .int .i64 fu, .bool false], .int .i64 a, .int .i64 m] W (Told W (.bool (hasK N a m)))) := Lib.hid (fun W => kis_c W L BA bn bc RA rn rc ops fu false N hN hN2 a m ha)
  have hbl : (Dk.look B row).length = bn := by rw [hN]; exact Dk.look_length row B hf (by rw [hn, hN])
  have HIM0 : ∀ W, Only (w.heap.size ≤ ·) w W → Calls Tryz.prog 40 #[.agg #[.int .i64 L, .slice BA bn bc, .slice RA rn rc, .int .i64 ops, .int .i64 fu, .bool false]] W (GaveIm W bn (Dk.look B row)) := fun W hW => kImage_c W L BA bn bc RA rn rc ops fu false B row N (hs.later hW) hn hN hN2 (Rw.later hr hW) hf hrn
  have HNN := Lib.hid (And.intro hN hN2)
  have HBL := Lib.hid hbl
  have HIM := Lib.hid HIM0
  clear hN hN2 hn hbl HIM0 hs hr hf
  cases hq : hasK N a m with
  | false =>
    have E : Hid (rdK N (Dk.look B row) a m = ([], 11)) := Lib.hid (if_pos hq)
    rw [hq] at HIS
    clear hq
    go_enter Tryz.func11, Tryz.ntmps11
    go_upto_region 1 with (fail)
    rw [← HE1.out]
    clear HE1
    generalize hq4 : w.heap.size + 1 + 1 = q4 at HQ4 ⊢
    generalize hq3 : w.heap.size + 1 = q3 at HQ3 hq4 ⊢
    have HQN : Hid (w.heap.size < q4 ∧ q3 < q4 ∧ w.heap.size ≤ q3) := Lib.hid (by omega)
    clear hq3 hq4
    obtain ⟨i0, i1, i2, i3, i4, i5⟩ := blk_six HQ2.out
    obtain ⟨j0, j1, j2, j3, j4⟩ := blk_five HQ3.out
    go_upto_region 25 with (go_at_call 39; (with_reducible refine (HIS.out _).mono ?_); rintro e w2 ⟨rfl, ho⟩; have HO2 := Lib.hid ho; clear ho)
    obtain ⟨i0, i1, i2, i3, i4, i5⟩ := blk_six (HQ2.out.only HO2.out (Nat.not_le.2 HQ2.out.lt))
    obtain ⟨r0, r1, r2, r3, r4, r5⟩ := blk_six (HQ4.out.only HO2.out (Nat.not_le.2 HQ4.out.lt))
    have f0 := (HQ4.out.only HO2.out (Nat.not_le.2 HQ4.out.lt)).frozen 0
    have f1 := (HQ4.out.only HO2.out (Nat.not_le.2 HQ4.out.lt)).frozen 1
    have f2 := (HQ4.out.only HO2.out (Nat.not_le.2 HQ4.out.lt)).frozen 2
    have f3 := (HQ4.out.only HO2.out (Nat.not_le.2 HQ4.out.lt)).frozen 3
    have f4 := (HQ4.out.only HO2.out (Nat.not_le.2 HQ4.out.lt)).frozen 4
    have f5 := (HQ4.out.only HO2.out (Nat.not_le.2 HQ4.out.lt)).frozen 5
    go_wp2
    have hk := kd_set (a' := .int .i64 L) (b' := .slice BA bn bc) (c' := .slice RA rn rc) (d' := .int .i64 ops) (e' := .int .i64 fu) (f' := .bool false) (HQ4.out.only HO2.out (Nat.not_le.2 HQ4.out.lt))
    refine bodyPost_ret (results_ctt rfl rfl (load_kd hk.1)) rfl ?_
    rw [E.out]
    refine ⟨none, 0, 0, rfl, rfl, Src.nil_ _, ?_⟩
    exact (on_new HO1.out HO2.out).trans (hk.2.mono fun k hk' => by have h := HQN.out; have h2 : k = q4 := hk'; omega)
  | true =>
    obtain ⟨k1, k2, k3⟩ : 0 ≤ a ∧ 0 ≤ m ∧ m ≤ (N : Int) - a := by
      unfold hasK at hq
      simp only [Bool.and_eq_true, decide_eq_true_eq] at hq
      exact hq
    obtain ⟨lo, hlo⟩ : ∃ z, z = a.toNat * 64 := ⟨_, rfl⟩
    obtain ⟨hi, hhi⟩ : ∃ z, z = (a.toNat + m.toNat) * 64 := ⟨_, rfl⟩
    have hnn := HNN.out
    obtain ⟨b1, b2, b3⟩ := do_nums k1 k2 (by omega) hlo hhi
    have c1 : (lo : Int) ≤ (hi : Int) := by omega
    have c2 : (0 : Int) ≤ (lo : Int) := by omega
    have c6 : lo ≤ hi := by omega
    have HLH : Hid (lo < hi ∧ hi ≤ bn) := Lib.hid ⟨by omega, by omega⟩
    have HBP : Hid (0 < bn) := Lib.hid (by omega)
    have E : Hid (rdK N (Dk.look B row) a m = (((Dk.look B row).drop lo).take (hi - lo), 0)) := Lib.hid (by
      unfold rdK
      rw [if_neg (by rw [hq]; decide), hlo, hhi]
      congr 3
      omega)
    rw [hq] at HIS
    clear hq hnn k1 k2 k3 hlo hhi hm1 ha
    go_enter Tryz.func11, Tryz.ntmps11
    go_upto_region 1 with (fail)
    rw [← HE1.out]
    clear HE1
    generalize hq4 : w.heap.size + 1 + 1 = q4 at HQ4 ⊢
    generalize hq3 : w.heap.size + 1 = q3 at HQ3 hq4 ⊢
    have HQN : Hid (w.heap.size < q4 ∧ q3 < q4 ∧ w.heap.size ≤ q3) := Lib.hid (by omega)
    clear hq3 hq4
    obtain ⟨i0, i1, i2, i3, i4, i5⟩ := blk_six HQ2.out
    obtain ⟨j0, j1, j2, j3, j4⟩ := blk_five HQ3.out
    go_upto_region 26 with (go_at_call 39; (with_reducible refine (HIS.out _).mono ?_); rintro e w2 ⟨rfl, ho⟩; have HO2 := Lib.hid ho; clear ho)
    replace HO1 := Lib.hid (on_new HO1.out HO2.out)
    replace HQ2 := Lib.hid (HQ2.out.only HO2.out (Nat.not_le.2 HQ2.out.lt))
    replace HQ3 := Lib.hid (HQ3.out.only HO2.out (Nat.not_le.2 HQ3.out.lt))
    replace HQ4 := Lib.hid (HQ4.out.only HO2.out (Nat.not_le.2 HQ4.out.lt))
    clear i0 i1 i2 i3 i4 i5 j0 j1 j2 j3 j4 HO2
    have HIM2 : Hid (∀ W, Only (w2.heap.size ≤ ·) w2 W → Calls Tryz.prog 40 #[.agg #[.int .i64 L, .slice BA bn bc, .slice RA rn rc, .int .i64 ops, .int .i64 fu, .bool false]] W (GaveIm W bn (Dk.look B row))) := Lib.hid (fun W hW => HIM.out W (on_new HO1.out hW))
    clear HIM
    have HIM := HIM2
    have HD0 : Hid (Only (w2.heap.size ≤ ·) w2 w2.drew) := Lib.hid ((Only.refl _ w2).drew)
    have KP : Hid (∀ W : World, Only (w2.heap.size ≤ ·) w2 W → (fun W : World => W.cell? ⟨w.heap.size, 0, none⟩ = some (.int .i64 L) ∧ W.cell? ⟨w.heap.size, 1, none⟩ = some (.slice BA bn bc) ∧ W.cell? ⟨w.heap.size, 2, none⟩ = some (.slice RA rn rc) ∧ W.cell? ⟨w.heap.size, 3, none⟩ = some (.int .i64 ops) ∧ W.cell? ⟨w.heap.size, 4, none⟩ = some (.int .i64 fu) ∧ W.cell? ⟨w.heap.size, 5, none⟩ = some (.bool false) ∧ W.cell? ⟨q3, 0, none⟩ = some (.int .i64 1) ∧ W.cell? ⟨q3, 1, none⟩ = some (.int .i64 a) ∧ W.cell? ⟨q3, 2, none⟩ = some (.int .i64 m) ∧ W.cell? ⟨q3, 3, none⟩ = some (.slice none 0 0) ∧ W.cell? ⟨q3, 4, none⟩ = some (.slice none 0 0)) W) := Lib.hid (fun W hW => by
      obtain ⟨i0, i1, i2, i3, i4, i5⟩ := blk_six (HQ2.out.only hW (Nat.not_le.2 HQ2.out.lt))
      obtain ⟨j0, j1, j2, j3, j4⟩ := blk_five (HQ3.out.only hW (Nat.not_le.2 HQ3.out.lt))
      exact ⟨i0, i1, i2, i3, i4, i5, j0, j1, j2, j3, j4⟩)
    have KP4 : Hid (∀ W : World, Only (w2.heap.size ≤ ·) w2 W → (fun W : World => W.cell? ⟨w.heap.size, 0, none⟩ = some (.int .i64 L) ∧ W.cell? ⟨w.heap.size, 1, none⟩ = some (.slice BA bn bc) ∧ W.cell? ⟨w.heap.size, 2, none⟩ = some (.slice RA rn rc) ∧ W.cell? ⟨w.heap.size, 3, none⟩ = some (.int .i64 ops) ∧ W.cell? ⟨w.heap.size, 4, none⟩ = some (.int .i64 fu) ∧ W.cell? ⟨w.heap.size, 5, none⟩ = some (.bool false) ∧ W.cell? ⟨q3, 0, none⟩ = some (.int .i64 1) ∧ W.cell? ⟨q3, 1, none⟩ = some (.int .i64 a) ∧ W.cell? ⟨q3, 2, none⟩ = some (.int .i64 m) ∧ W.cell? ⟨q3, 3, none⟩ = some (.slice none 0 0) ∧ W.cell? ⟨q3, 4, none⟩ = some (.slice none 0 0)) (((((((W.setCell ⟨q4, 0, none⟩ (.int .i64 L)).setCell ⟨q4, 1, none⟩ (.slice BA bn bc)).setCell ⟨q4, 2, none⟩ (.slice RA rn rc)).setCell ⟨q4, 3, none⟩ (.int .i64 ops)).setCell ⟨q4, 4, none⟩ (.int .i64 fu)).setCell ⟨q4, 5, none⟩ (.bool false)))) := Lib.hid (fun W hW => by
      have hk := kd_set (a' := .int .i64 L) (b' := .slice BA bn bc) (c' := .slice RA rn rc) (d' := .int .i64 ops) (e' := .int .i64 fu) (f' := .bool false) (HQ4.out.only hW (Nat.not_le.2 HQ4.out.lt))
      obtain ⟨i0, i1, i2, i3, i4, i5⟩ := blk_six ((HQ2.out.only hW (Nat.not_le.2 HQ2.out.lt)).only hk.2 (fun e => by have h := HQN.out; have h2 : w.heap.size = q4 := e; omega))
      obtain ⟨j0, j1, j2, j3, j4⟩ := blk_five ((HQ3.out.only hW (Nat.not_le.2 HQ3.out.lt)).only hk.2 (fun e => by have h := HQN.out; have h2 : q3 = q4 := e; omega))
      exact ⟨i0, i1, i2, i3, i4, i5, j0, j1, j2, j3, j4⟩)
    have HSX := Lib.hid (KP.out _ HD0.out)
    go_upto_region 26 with (fail)
    refine wp_region_list (B := [false, false, false, false, false, false, false, false, false, false, false, false, false, false, false, false]) (S := (fun W : World => W.cell? ⟨w.heap.size, 0, none⟩ = some (.int .i64 L) ∧ W.cell? ⟨w.heap.size, 1, none⟩ = some (.slice BA bn bc) ∧ W.cell? ⟨w.heap.size, 2, none⟩ = some (.slice RA rn rc) ∧ W.cell? ⟨w.heap.size, 3, none⟩ = some (.int .i64 ops) ∧ W.cell? ⟨w.heap.size, 4, none⟩ = some (.int .i64 fu) ∧ W.cell? ⟨w.heap.size, 5, none⟩ = some (.bool false) ∧ W.cell? ⟨q3, 0, none⟩ = some (.int .i64 1) ∧ W.cell? ⟨q3, 1, none⟩ = some (.int .i64 a) ∧ W.cell? ⟨q3, 2, none⟩ = some (.int .i64 m) ∧ W.cell? ⟨q3, 3, none⟩ = some (.slice none 0 0) ∧ W.cell? ⟨q3, 4, none⟩ = some (.slice none 0 0))) (by kernel_rfl) (by kernel_rfl) (by kernel_rfl) HSX.out (fun hsel hHeld => ?_)
    generalize hwz : World.drew _ = wd0 at HD0 HSX hHeld ⊢
    clear hwz
    refine oneA 0 101 hsel (h := ?_)
    simp only [Act.put, List.setIfInBounds_toArray, List.set_cons_zero, List.set_cons_succ]
    refine oneA 1 102 hsel (h := ?_)
    simp only [Act.put, List.setIfInBounds_toArray, List.set_cons_zero, List.set_cons_succ]
    refine oneA 3 104 hsel (h := ?_)
    simp only [Act.put, List.setIfInBounds_toArray, List.set_cons_zero, List.set_cons_succ]
    refine oneA 4 105 hsel (h := ?_)
    simp only [Act.put, List.setIfInBounds_toArray, List.set_cons_zero, List.set_cons_succ]
    refine oneA 5 106 hsel (h := ?_)
    simp only [Act.put, List.setIfInBounds_toArray, List.set_cons_zero, List.set_cons_succ]
    refine oneA 6 107 hsel (h := ?_)
    simp only [Act.put, List.setIfInBounds_toArray, List.set_cons_zero, List.set_cons_succ]
    refine oneA 7 108 hsel (h := ?_)
    simp only [Act.put, List.setIfInBounds_toArray, List.set_cons_zero, List.set_cons_succ]
    refine oneA 8 109 hsel (h := ?_)
    simp only [Act.put, List.setIfInBounds_toArray, List.set_cons_zero, List.set_cons_succ]
    refine oneA 9 110 hsel (h := ?_)
    simp only [Act.put, List.setIfInBounds_toArray, List.set_cons_zero, List.set_cons_succ]
    refine oneA 10 111 hsel (h := ?_)
    simp only [Act.put, List.setIfInBounds_toArray, List.set_cons_zero, List.set_cons_succ]
    refine oneA 11 112 hsel (h := ?_)
    simp only [Act.put, List.setIfInBounds_toArray, List.set_cons_zero, List.set_cons_succ]
    refine wpAnyL_ready (rs := [2]) (by kernel_rfl) (by kernel_rfl) (by simp) ?_
    refine AllReadyL.cons (o := ?_) ?_ (fun K hK => ?_) AllReadyL.nil
    case refine_2 => (simp only [List.getElem?_cons_succ, List.getElem?_cons_zero]; rfl)
    go_simp
    (go_at_call 40; (with_reducible refine (HIM.out _ HD0.out).mono ?_); rintro e wd1 ⟨A, c, rfl, hs, hg, ho⟩; (obtain ⟨g, rfl, hgg⟩ := hg HBP.out); have HGG : Hid (q4 < g) := Lib.hid (by have h := HQ4.out.lt; have h2 := HD0.out.size; omega); clear hgg; have HSI := Lib.hid hs; have HD1 := Lib.hid (on_new HD0.out ho); clear hs hg ho)
    go_wp2_with (fail)
    clear hHeld
    refine hK.out _ _ (KP.out _ HD1.out) (fun hHeld => ?_)
    clear hK K
    try simp only [Act.put, List.setIfInBounds_toArray, List.set_cons_zero, List.set_cons_succ]
    have d4 := Lib.hid (src_capn HSI.out)
    have c3 : (hi : Int) ≤ (c : Int) := by have h := d4.out; have h2 := HLH.out; omega
    have c4 : hi ≤ c := by have h := d4.out; have h2 := HLH.out; omega
    have c5 : ¬ c = lo := by have h := d4.out; have h2 := HLH.out; omega
    refine oneA 12 113 hsel (h := ?_)
    simp only [Act.put, List.setIfInBounds_toArray, List.set_cons_zero, List.set_cons_succ]
    refine wpAnyL_ready (rs := [13]) (by kernel_rfl) (by kernel_rfl) (by simp) ?_
    refine AllReadyL.cons (o := ?_) ?_ (fun K hK => ?_) AllReadyL.nil
    case refine_2 => (simp only [List.getElem?_cons_succ, List.getElem?_cons_zero]; rfl)
    obtain ⟨r0, r1, r2, r3, r4, r5⟩ := blk_six (HQ4.out.only HD1.out (Nat.not_le.2 HQ4.out.lt))
    have f0 := (HQ4.out.only HD1.out (Nat.not_le.2 HQ4.out.lt)).frozen 0
    have f1 := (HQ4.out.only HD1.out (Nat.not_le.2 HQ4.out.lt)).frozen 1
    have f2 := (HQ4.out.only HD1.out (Nat.not_le.2 HQ4.out.lt)).frozen 2
    have f3 := (HQ4.out.only HD1.out (Nat.not_le.2 HQ4.out.lt)).frozen 3
    have f4 := (HQ4.out.only HD1.out (Nat.not_le.2 HQ4.out.lt)).frozen 4
    have f5 := (HQ4.out.only HD1.out (Nat.not_le.2 HQ4.out.lt)).frozen 5
    go_simp
    clear r0 r1 r2 r3 r4 r5 f0 f1 f2 f3 f4 f5
    clear hHeld
    refine hK.out _ _ (KP4.out _ HD1.out) (fun hHeld => ?_)
    clear hK K
    try simp only [Act.put, List.setIfInBounds_toArray, List.set_cons_zero, List.set_cons_succ]
    refine oneA 14 5 hsel (h := ?_)
    simp only [Act.put, List.setIfInBounds_toArray, List.set_cons_zero, List.set_cons_succ]
    refine oneA 15 6 hsel (h := ?_)
    simp only [Act.put, List.setIfInBounds_toArray, List.set_cons_zero, List.set_cons_succ]
    refine wpAnyL_done (by kernel_rfl) (by kernel_rfl) ?_ _
    clear hsel hHeld
    go_wp2_with (fail)
    have hk := kd_set (a' := .int .i64 L) (b' := .slice BA bn bc) (c' := .slice RA rn rc) (d' := .int .i64 ops) (e' := .int .i64 fu) (f' := .bool false) (HQ4.out.only HD1.out (Nat.not_le.2 HQ4.out.lt))
    refine bodyPost_ret (results_ctt rfl rfl (load_kd hk.1)) rfl ?_
    rw [E.out]
    refine ⟨some ⟨g, lo, none⟩, hi - lo, c - lo, rfl, ?_, ?_, ?_⟩
    · rw [List.length_take, List.length_drop, HBL.out]
      have h := HLH.out
      omega
    · have h1 := src_part HSI.out (a := lo) (z := hi) (by have h := HLH.out; omega) (by have h := HLH.out; omega)
      rw [Nat.zero_add] at h1
      exact src_on h1 hk.2 (fun ad e1 h2 h3 => by
        cases e1
        have h4 : g = q4 := h3
        have h5 := HGG.out
        omega)
    · exact (on_new HO1.out HD1.out).trans (hk.2.mono fun k hk' => by have h := HQN.out; have h2 : k = q4 := hk'; omega)
end Go.Proofs.YtopaponemjaenaaGreatDoor
