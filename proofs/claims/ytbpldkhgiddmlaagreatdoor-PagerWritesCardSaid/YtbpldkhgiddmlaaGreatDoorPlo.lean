/-
  The document's Load, whose bytes lie in a new block.
-/
import Derived.Test.YtbpldkhgiddmlaaGreatDoorGq
set_option linter.unusedVariables false
namespace Go.Proofs.YtbpldkhgiddmlaaGreatDoor
open Go.RowKit

def GaveKn (w : World) (L : Nat) (B : Bytes) (e : Ending) (w' : World) : Prop := ∃ A c, e = .returned (.agg #[.int .i64 (L : Nat), .slice A B.length c, .slice none 0 0, .int .i64 0, .int .i64 (-1), .bool false]) ∧ Src w' (.slice A B.length c) B ∧ (∀ ad, A = some ad → w.heap.size ≤ ad.block) ∧ Only (w.heap.size ≤ ·) w w'
set_option maxRecDepth 100000 in
set_option maxHeartbeats 12800000 in
theorem kLoad_n (w : World) (A : Option Addr) (n c : Nat) (xs : Bytes) (limit : Int) (hs : Src w (.slice A n c) xs) (hne : xs.length = n) (hn : n ≤ 1000000) : Calls Tryz.prog 8 #[.slice A n c, .int .i64 limit] w (GaveKn w (Dk.cut limit) (Dk.pad (xs.take (Dk.cut limit * 64)))) := by
  obtain ⟨L, hL⟩ : ∃ z, z = Dk.cut limit := ⟨_, rfl⟩
  have HNW : Hid (∀ W, Calls Tryz.prog 37 #[.int .i64 limit] W (Told W (.agg #[.int .i64 (L : Nat), .slice none 0 0, .slice none 0 0, .int .i64 0, .int .i64 (-1), .bool false]))) := Lib.hid (fun W => by rw [hL]; exact kNew_c W limit)
  rw [← hL]
  have hL6 : L ≤ 65536 := by rw [hL]; unfold Dk.cut; omega
  clear hL
  obtain ⟨m, hm⟩ : ∃ z, z = (64 - n % 64) % 64 := ⟨_, rfl⟩
  have HS := Lib.hid hs
  have HNE := Lib.hid hne
  have HR0 : Hid (Blk (w.alloc (.cells #[.int .i64 0, .slice none 0 0, .slice none 0 0, .int .i64 0, .int .i64 0, .bool false] 34)) w.heap.size 34 [.int .i64 0, .slice none 0 0, .slice none 0 0, .int .i64 0, .int .i64 0, .bool false]) := Lib.hid (Blk.new w _ _)
  have HO0 : Hid (Only (w.heap.size ≤ ·) w (w.alloc (.cells #[.int .i64 0, .slice none 0 0, .slice none 0 0, .int .i64 0, .int .i64 0, .bool false] 34))) := Lib.hid ((Only.refl _ w).alloc (fun _ h => h) _)
  obtain ⟨w0, hw0⟩ : ∃ W0, W0 = w.alloc (.cells #[.int .i64 0, .slice none 0 0, .slice none 0 0, .int .i64 0, .int .i64 0, .bool false] 34) := ⟨_, rfl⟩
  rw [← hw0] at HR0 HO0
  have HE0 := Lib.hid hw0
  have HM := Lib.hid hm
  clear hs hne hw0 hm
  go_enter Tryz.func8, Tryz.ntmps8
  go_upto_region 1 with (fail)
  rw [← HE0.out]
  clear HE0
  go_upto_region 2 with (go_at_call 37; (with_reducible refine (HNW.out _).mono ?_); rintro e w1 ⟨rfl, ho⟩; have HO1 := Lib.hid ho; clear ho)
  obtain ⟨w2, hw2⟩ : ∃ W0, W0 = w1.alloc (.cells #[.int .i64 (L : Nat), .slice none 0 0, .slice none 0 0, .int .i64 0, .int .i64 (-1), .bool false] 34) := ⟨_, rfl⟩
  have HO2 : Hid (Only (w1.heap.size ≤ ·) w1 w2) := Lib.hid (by rw [hw2]; exact (Only.refl _ w1).alloc (fun _ h => h) _)
  have HD2 : Hid (Blk w2 w1.heap.size 34 [.int .i64 (L : Nat), .slice none 0 0, .slice none 0 0, .int .i64 0, .int .i64 (-1), .bool false]) := Lib.hid (by rw [hw2]; exact Blk.new w1 34 _)
  have HR2 := Lib.hid (HR0.out.only (on_new HO1.out HO2.out) (Nat.not_le.2 HR0.out.lt))
  have HOW := Lib.hid (on_new HO0.out (on_new HO1.out HO2.out))
  have HNE2 : Hid (w.heap.size < w1.heap.size) := Lib.hid (Nat.lt_of_lt_of_le HR0.out.lt HO1.out.size)
  rw [← hw2]
  generalize hb5 : w1.heap.size = b5 at HD2 HNE2 ⊢
  clear hw2 hb5 HR0 HO0 HO1 HO2 HNW
  have HXA : Hid (Only (w2.heap.size ≤ ·) w2 (w2.alloc (.cells #[] 5))) := Lib.hid ((Only.refl _ w2).alloc (fun _ h => h) _)
  go_wp2_with (at_builtin; refine app8 rfl (.tmp 9) (.tmp 10) rfl w2.heap.size 0 n _ _ [] xs rfl rfl (own8_none w2) rfl HNE.out (HS.out.later (on_new HOW.out HXA.out)) (by omega) (by simp) ?_; intro A3 c3 w3 hr ho; rw [List.nil_append] at hr; (simp only [Nat.zero_add] at hr ⊢); have HR3 := Lib.hid hr; have HX3 : Hid (Only (w2.heap.size ≤ ·) w2 w3) := Lib.hid (HXA.out.trans ho); clear hr ho)
  go_loopg [6] m (fun gk s wr => ∃ (j : Nat) (R : Option Addr) (t z : Nat), gk = m - j ∧ j ≤ m ∧ s = .slice R z t ∧ Hid (z = n + j) ∧ Hid (wr.ownsRow w2.heap.size 5 1 (.slice R z t) z (cb (xs ++ List.replicate j 0))) ∧ Hid (Only (w2.heap.size ≤ ·) w2 wr))
  case atStart => exact ⟨0, A3, c3, n, rfl, Nat.zero_le _, rfl, Lib.hid rfl, Lib.hid (by rw [List.replicate_zero, List.append_nil]; exact HR3.out), HX3⟩
  case round =>
    obtain ⟨j, R, t, z, rfl, hj, rfl, HZ, HR, HO⟩ := hrel
    by_cases hlt : j < m
    · have h1 : Int.tmod (z : Int) 64 ≠ 0 := by
        have h2 := HZ.out
        have h3 := HM.out
        rw [Int.tmod_eq_emod_of_nonneg (Int.natCast_nonneg z)]
        omega
      have h2 : ¬ ((z : Int) % 64 = 0) := by
        have h2 := HZ.out
        have h3 := HM.out
        omega
      have HXB : Hid (Only (w2.heap.size ≤ ·) w2 (wr.alloc (.cells #[.int .u8 0] 5))) := Lib.hid (HO.out.alloc (fun _ h => h) _)
      have HZB : Hid (Src (wr.alloc (.cells #[.int .u8 0] 5)) (.slice (some ⟨wr.heap.size, 0, none⟩) 1 1) [0]) := Lib.hid (by
        have hb : Blk (wr.alloc (.cells #[.int .u8 0] 5)) wr.heap.size 5 (cb [0] ++ []) := Blk.new wr 5 [.int .u8 0]
        have h4 := Txt.blk (A := some ⟨wr.heap.size, 0, none⟩) hb 0 1 (by simp) (fun _ => rfl)
        exact ⟨some ⟨wr.heap.size, 0, none⟩, 1, rfl, h4, (fun e => by cases e), Nat.le_refl _, by decide⟩)
      have HXL : Hid ((xs ++ List.replicate j 0).length = z) := Lib.hid (by rw [List.length_append, List.length_replicate, HNE.out, HZ.out])
      have hzl : z + 1 ≤ 100000000 := by have h3 := HZ.out; have h4 := HM.out; omega
      go_wp2_with (at_builtin; refine app8 rfl (.tmp 16) (.tmp 17) rfl w2.heap.size z 1 _ _ (xs ++ List.replicate j 0) [0] rfl HXL.out (World.ownsRow.alloc HR.out _) rfl rfl HZB.out hzl HXB.out.size ?_; intro A4 c4 w4 hr ho; have HR4 := Lib.hid hr; have HX4 : Hid (Only (w2.heap.size ≤ ·) w2 w4) := Lib.hid (HXB.out.trans ho); clear hr ho)
      go_roundg (m - (j + 1))
      case measure => omega
      case rel => exact ⟨j + 1, A4, c4, z + 1, rfl, by omega, rfl, Lib.hid (by rw [HZ.out]; omega), Lib.hid (by have h9 := HR4.out; rwa [List.append_assoc, show List.replicate j (0 : UInt8) ++ [0] = List.replicate (j + 1) 0 from (List.replicate_succ' ..).symm] at h9), HX4⟩
    · obtain rfl : j = m := by omega
      have h1 : Int.tmod (z : Int) 64 = 0 := by
        have h2 := HZ.out
        have h3 := HM.out
        rw [Int.tmod_eq_emod_of_nonneg (Int.natCast_nonneg z)]
        omega
      have h2 : (z : Int) % 64 = 0 := by
        have h2 := HZ.out
        have h3 := HM.out
        omega
      have HD3 := Lib.hid (HD2.out.only HO.out (Nat.not_le.2 HD2.out.lt))
      have HR3' := Lib.hid (HR2.out.only HO.out (Nat.not_le.2 HR2.out.lt))
      obtain ⟨i0, i1, i2, i3, i4, i5⟩ := blk_six HD3.out
      have z1 := HD3.out.frozen 1
      obtain ⟨q, hq⟩ : ∃ q, q = 64 * L := ⟨_, rfl⟩
      have b1 : wrap64 (64 * (L : Int)) = (q : Int) := by rw [IntWalk.wrap64_in _ (by omega)]; omega
      have HQ := Lib.hid hq
      have HSB := Lib.hid (own8_src HR.out (by rw [List.length_append, List.length_replicate, HNE.out, HZ.out]))
      have HRT : Hid (z ≤ t) := Lib.hid (by obtain ⟨A', c', e, _, _, h5, _⟩ := HSB.out; cases e; rw [List.length_append, List.length_replicate, HNE.out] at h5; have h6 := HZ.out; omega)
      have HL6 := Lib.hid hL6
      clear hq hn hL6
      obtain ⟨vR, hvR⟩ : ∃ v, v = Value.slice R z t := ⟨_, rfl⟩
      have HPE : Hid (∀ B' : Bytes, (if 64 * L < n + j then (xs ++ List.replicate j 0).take (64 * L) else xs ++ List.replicate j 0) = B' → Dk.pad (xs.take (L * 64)) = B') := Lib.hid (fun B' hB => by
        rw [← hB, ← HNE.out]
        exact ((pad_take xs j L (by rw [HNE.out]; exact HM.out) HL6.out).2).symm)
      by_cases h4 : q < z
      · obtain ⟨g, t2, hv, _⟩ := own_form HR.out (by omega)
        simp only [Value.slice.injEq, true_and] at hv
        obtain ⟨rfl, rfl⟩ := hv
        have h5 : (q : Int) < (z : Int) := by omega
        have h6 : (q : Int) ≤ (t : Int) := by have h7 := HRT.out; omega
        have h8 : q ≤ t := by have h7 := HRT.out; omega
        have h9 : (0 : Int) ≤ (q : Int) := by omega
        have HSQ : Hid (Src wr (.slice (some ⟨g, 0, none⟩) q t) ((xs ++ List.replicate j 0).take q)) := Lib.hid (src_cut HSB.out (by omega) h8)
        go_upto_region 8 with (fail)
        have HBE := Lib.hid (HPE.out ((xs ++ List.replicate j 0).take q) (by rw [if_pos (by have h7 := HZ.out; have h10 := HQ.out; omega), HQ.out]))
        have hlq : ((xs ++ List.replicate j 0).take q).length = q := by
          rw [List.length_take, List.length_append, List.length_replicate, HNE.out]
          have h7 := HZ.out
          omega
        obtain ⟨w6, hw6⟩ : ∃ W0, W0 = wr.setCell ⟨b5, 1, none⟩ (.slice (some ⟨g, 0, none⟩) q t) := ⟨_, rfl⟩
        have HO6 : Hid (Only (· = b5) wr w6) := Lib.hid (by rw [hw6]; exact (Only.refl (· = b5) wr).setCell (p := ⟨b5, 1, none⟩) rfl _)
        have HD6 : Hid (Blk w6 b5 34 [.int .i64 (L : Nat), .slice (some ⟨g, 0, none⟩) q t, .slice none 0 0, .int .i64 0, .int .i64 (-1), .bool false]) := Lib.hid (by rw [hw6]; exact HD3.out.set_ 1 (.slice (some ⟨g, 0, none⟩) q t))
        have HR6 := Lib.hid (HR3'.out.only HO6.out (fun e => by have h7 := HNE2.out; have h10 : w.heap.size = b5 := e; omega))
        have HS6 : Hid (Src w6 (.slice (some ⟨g, 0, none⟩) q t) ((xs ++ List.replicate j 0).take q)) := Lib.hid (src_on HSQ.out HO6.out (fun ad h10 h11 => own8_off HR.out HD2.out.lt h10))
        rw [← hw6]
        clear hw6 i0 i1 i2 i3 i4 i5 z1
        obtain ⟨i0, i1, i2, i3, i4, i5⟩ := blk_six HD6.out
        obtain ⟨r0, r1, r2, r3, r4, r5⟩ := blk_six HR6.out
        have f0 := HR6.out.frozen 0
        have f1 := HR6.out.frozen 1
        have f2 := HR6.out.frozen 2
        have f3 := HR6.out.frozen 3
        have f4 := HR6.out.frozen 4
        have f5 := HR6.out.frozen 5
        go_wp2
        have hk := kd_set (a' := .int .i64 (L : Nat)) (b' := .slice (some ⟨g, 0, none⟩) q t) (c' := .slice none 0 0) (d' := .int .i64 0) (e' := .int .i64 (-1)) (f' := .bool false) HR6.out
        refine bodyPost_ret (results_cell rfl rfl (load_kd hk.1)) rfl ?_
        rw [HBE.out]
        refine ⟨(some ⟨g, 0, none⟩), t, by rw [hlq], ?_, (fun ad h10 => Nat.not_lt.1 fun h11 => own8_off HR.out (b := ad.block) (Nat.lt_of_lt_of_le h11 HOW.out.size) h10 rfl), ?_⟩
        · rw [hlq]
          exact src_on HS6.out hk.2 (fun ad h10 h11 => own8_off HR.out HR2.out.lt h10)
        · refine ((on_new HOW.out HO.out).trans (HO6.out.mono fun k hk' => ?_)).trans (hk.2.mono fun k hk' => ?_)
          · have h7 := HNE2.out
            have h10 : k = b5 := hk'
            omega
          · have h10 : k = w.heap.size := hk'
            omega
      · have h5 : ¬ (q : Int) < (z : Int) := by omega
        go_upto_region 8 with (fail)
        have HBE := Lib.hid (HPE.out (xs ++ List.replicate j 0) (by rw [if_neg (by have h7 := HZ.out; have h10 := HQ.out; omega)]))
        have hlq : (xs ++ List.replicate j 0).length = z := by
          rw [List.length_append, List.length_replicate, HNE.out, HZ.out]
        obtain ⟨w6, hw6⟩ : ∃ W0, W0 = wr.setCell ⟨b5, 1, none⟩ (.slice R z t) := ⟨_, rfl⟩
        have HO6 : Hid (Only (· = b5) wr w6) := Lib.hid (by rw [hw6]; exact (Only.refl (· = b5) wr).setCell (p := ⟨b5, 1, none⟩) rfl _)
        have HD6 : Hid (Blk w6 b5 34 [.int .i64 (L : Nat), .slice R z t, .slice none 0 0, .int .i64 0, .int .i64 (-1), .bool false]) := Lib.hid (by rw [hw6]; exact HD3.out.set_ 1 (.slice R z t))
        have HR6 := Lib.hid (HR3'.out.only HO6.out (fun e => by have h7 := HNE2.out; have h10 : w.heap.size = b5 := e; omega))
        have HS6 : Hid (Src w6 (.slice R z t) (xs ++ List.replicate j 0)) := Lib.hid (src_on HSB.out HO6.out (fun ad h10 h11 => own8_off HR.out HD2.out.lt h10))
        rw [← hw6]
        clear hw6 i0 i1 i2 i3 i4 i5 z1
        obtain ⟨i0, i1, i2, i3, i4, i5⟩ := blk_six HD6.out
        obtain ⟨r0, r1, r2, r3, r4, r5⟩ := blk_six HR6.out
        have f0 := HR6.out.frozen 0
        have f1 := HR6.out.frozen 1
        have f2 := HR6.out.frozen 2
        have f3 := HR6.out.frozen 3
        have f4 := HR6.out.frozen 4
        have f5 := HR6.out.frozen 5
        go_wp2
        have hk := kd_set (a' := .int .i64 (L : Nat)) (b' := .slice R z t) (c' := .slice none 0 0) (d' := .int .i64 0) (e' := .int .i64 (-1)) (f' := .bool false) HR6.out
        refine bodyPost_ret (results_cell rfl rfl (load_kd hk.1)) rfl ?_
        rw [HBE.out]
        refine ⟨R, t, by rw [hlq], ?_, (fun ad h10 => Nat.not_lt.1 fun h11 => own8_off HR.out (b := ad.block) (Nat.lt_of_lt_of_le h11 HOW.out.size) h10 rfl), ?_⟩
        · rw [hlq]
          exact src_on HS6.out hk.2 (fun ad h10 h11 => own8_off HR.out HR2.out.lt h10)
        · refine ((on_new HOW.out HO.out).trans (HO6.out.mono fun k hk' => ?_)).trans (hk.2.mono fun k hk' => ?_)
          · have h7 := HNE2.out
            have h10 : k = b5 := hk'
            omega
          · have h10 : k = w.heap.size := hk'
            omega
/-- A disk that is loaded is the document's, whatever is done to the blocks of D, which were there. -/
theorem kload_d (D : Nat → Prop) (w : World) (hD : ∀ k, D k → k < w.heap.size) (A : Option Addr) (n c : Nat) (xs : Bytes) (limit : Int) (hs : Src w (.slice A n c) xs) (hne : xs.length = n) (hn : n ≤ 1000000) : Calls Tryz.prog 8 #[.slice A n c, .int .i64 limit] w fun e w' => ∃ BA bc, e = .returned (.agg #[.int .i64 (Dk.cut limit : Nat), .slice BA (Dk.Dsk.load xs limit).dur.length bc, .slice none 0 0, .int .i64 0, .int .i64 (-1), .bool false]) ∧ KAt D w' (.agg #[.int .i64 (Dk.cut limit : Nat), .slice BA (Dk.Dsk.load xs limit).dur.length bc, .slice none 0 0, .int .i64 0, .int .i64 (-1), .bool false]) (Dk.Dsk.load xs limit) ∧ Only (w.heap.size ≤ ·) w w' := by
  refine (kLoad_n w A n c xs limit hs hne hn).mono ?_
  rintro e w' ⟨BA, bc, rfl, h1, h2, h3⟩
  refine ⟨BA, bc, rfl, ⟨Dk.Dsk.WF.load xs limit, BA, bc, none, 0, rfl, fun W hW => ?_, SRw.nil_ _ _⟩, h3⟩
  refine src_on h1 hW fun ad e hn hk => ?_
  rcases hk with hk | hk
  · have h4 := hD _ hk
    have h5 := h2 ad e
    omega
  · obtain ⟨A', c', e', ht, _⟩ := h1
    simp only [Value.slice.injEq] at e'
    obtain ⟨rfl, _, rfl⟩ := e'
    rw [e] at ht
    have h4 := ht.block hn
    omega
end Go.Proofs.YtbpldkhgiddmlaaGreatDoor
