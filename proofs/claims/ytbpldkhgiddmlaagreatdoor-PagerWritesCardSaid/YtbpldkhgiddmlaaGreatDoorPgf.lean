/-
  Format.
-/
import Derived.Test.YtbpldkhgiddmlaaGreatDoorPgc
set_option linter.unusedVariables false
namespace Go.Proofs.YtbpldkhgiddmlaaGreatDoor
open Go.RowKit

/-- What a format makes of a disk. -/
def fmP (d : Dk.Dsk) (ok : Bool) (N x : Int) (ws : List Wt) (a b : Bytes) : Dk.Dsk × Int := if pgRight ok N ws = true ∧ 2 ≤ x then wrP d N [[(sl (x - 1), a), (sl x, b)] ++ ws] else (d, 1)
set_option maxRecDepth 100000 in
set_option maxHeartbeats 25600000 in
theorem PgFormat_c (w : World) (q dp : Nat) (d : Dk.Dsk) (D : Nat → Prop) (h : PAt w q dp d D) (hG : Gens w) (g ph t x r p l : Int) (A : Option Addr) (n c : Nat) (xs : Bytes) (hs : Src w (.slice A n c) xs) (hne : n = xs.length) (hI : ∀ u ∈ [g, ph, t, x, r, p, l], I64 u)
    (RA : Option Addr) (rn rc : Nat) (ws : List Wt) (hrow : SRw wrE D w (.slice RA rn rc) ws) (hrn : rn ≤ 1000) (hIw : ∀ y ∈ ws, y.1 ≤ 9223372036854775807) (hroom : Roomy d (cost ws + 1000)) :
    Calls Tryz.prog 12 #[.pointer (some ⟨q, 0, none⟩), .slice RA rn rc, .agg #[.int .i64 g, .int .i64 ph, .int .i64 t, .int .i64 x, .int .i64 r, .int .i64 p, .int .i64 l, .slice A n c]] w fun e w' => e = .returned (.int .i64 (fmP d (okM g ph t x r p l n) p x ws (encB [g, ph, t, x - 1, r, p, l] xs) (encB [g, ph, t, x, r, p, l] xs)).2) ∧ PGave w w' q dp (fmP d (okM g ph t x r p l n) p x ws (encB [g, ph, t, x - 1, r, p, l] xs) (encB [g, ph, t, x, r, p, l] xs)).1 D := by
  obtain ⟨w1, hw1⟩ : ∃ W0, W0 = w.alloc (.cells #[.int .i64 g, .int .i64 ph, .int .i64 t, .int .i64 x, .int .i64 r, .int .i64 p, .int .i64 l, .slice A n c] 45) := ⟨_, rfl⟩
  have HO1 : Hid (Only (w.heap.size ≤ ·) w w1) := Lib.hid (by rw [hw1]; exact (Only.refl _ w).alloc (fun _ h => h) _)
  have HA : Hid (Blk w1 w.heap.size 45 [.int .i64 g, .int .i64 ph, .int .i64 t, .int .i64 x, .int .i64 r, .int .i64 p, .int .i64 l, .slice A n c]) := Lib.hid (by rw [hw1]; exact Blk.new w 45 _)
  have HRI := Lib.hid (PgRight_c w1 g ph t x r p l A n c RA rn rc ws (hG.later HO1.out) (Rw.later hrow.rw_.now HO1.out) hIw)
  have HP := Lib.hid h
  have HG := Lib.hid hG
  have HS := Lib.hid hs
  have HNE := Lib.hid hne
  have HI := Lib.hid hI
  have HROW := Lib.hid hrow
  have HRM := Lib.hid hroom
  obtain ⟨i0, i1, i2, i3, i4, i5, i6, i7⟩ := HA.out.eight
  obtain ⟨ok, hok⟩ : ∃ z, z = okM g ph t x r p l n := ⟨_, rfl⟩
  obtain ⟨ri, hri⟩ : ∃ z, z = pgRight (okM g ph t x r p l n) p ws := ⟨_, rfl⟩
  obtain ⟨b, hb⟩ : ∃ z, z = encB [g, ph, t, x, r, p, l] xs := ⟨_, rfl⟩
  obtain ⟨a, hab⟩ : ∃ z, z = encB [g, ph, t, x - 1, r, p, l] xs := ⟨_, rfl⟩
  rw [← hri] at HRI
  rw [← hb, ← hab]
  clear h hG hs hne hI hrow hIw hroom
  cases ri with
  | false =>
    have E : Hid (fmP d (okM g ph t x r p l n) p x ws a b = (d, 1)) := Lib.hid (if_neg (by rw [← hri]; exact fun h => by cases h.1))
    clear hri hok hb hab
    go_enter Tryz.func12, Tryz.ntmps12
    go_upto_region 1 with (fail)
    rw [← hw1]
    clear hw1
    go_wp2_with (go_at_call 18; (with_reducible refine HRI.out.mono ?_); rintro e w2 ⟨rfl, ho⟩; have HO := Lib.hid (on_new HO1.out ho); clear ho)
    go_ret
    rw [E.out]
    exact ⟨rfl, PGave.of HP.out HO.out⟩
  | true =>
    by_cases hx2 : x < 2
    · have E : Hid (fmP d (okM g ph t x r p l n) p x ws a b = (d, 1)) := Lib.hid (if_neg (by omega))
      clear hri hok hb hab
      go_enter Tryz.func12, Tryz.ntmps12
      go_upto_region 1 with (fail)
      rw [← hw1]
      clear hw1
      go_wp2_with (go_at_call 18; (with_reducible refine HRI.out.mono ?_); rintro e w2 ⟨rfl, ho⟩; have HO := Lib.hid (on_new HO1.out ho); have HB2 := Lib.hid (HA.out.only ho (Nat.not_le.2 HA.out.lt)); have j3 := HB2.out.cell 3; simp only [List.getElem?_cons_succ, List.getElem?_cons_zero] at j3; clear ho)
      go_ret
      rw [E.out]
      exact ⟨rfl, PGave.of HP.out HO.out⟩
    · have E : Hid (fmP d (okM g ph t x r p l n) p x ws a b = wrP d p [[(sl (x - 1), a), (sl x, b)] ++ ws]) := Lib.hid (if_pos ⟨hri.symm, by omega⟩)
      have HRI2 := Lib.hid hri
      have HBB := Lib.hid hb
      have HAB := Lib.hid hab
      have HX2 := Lib.hid hx2
      clear hri hok hb hab
      obtain ⟨b5, hb5⟩ : ∃ z, z = w.heap.size := ⟨_, rfl⟩
      go_enter Tryz.func12, Tryz.ntmps12
      go_upto_region 1 with (fail)
      rw [← hw1, ← hb5]
      rw [← hb5] at HA i0 i1 i2 i3 i4 i5 i6 i7
      have HB5L := Lib.hid hb5
      clear hw1 hb5
      go_upto_region 3 with (go_at_call 18; (with_reducible refine HRI.out.mono ?_); rintro e w2 ⟨rfl, ho⟩; have HO2 := Lib.hid ho; have HB2 := Lib.hid (HA.out.only ho (Nat.not_le.2 HA.out.lt)); have j3 := HB2.out.cell 3; simp only [List.getElem?_cons_succ, List.getElem?_cons_zero] at j3; clear ho)
      clear i0 i1 i2 i3 i4 i5 i6 i7 j3 HRI
      obtain ⟨i0, i1, i2, i3, i4, i5, i6, i7⟩ := HB2.out.eight
      have HOW := Lib.hid (on_new HO1.out HO2.out)
      obtain ⟨w3, hw3⟩ : ∃ W0, W0 = w2.alloc (.cells #[.int .i64 g, .int .i64 ph, .int .i64 t, .int .i64 x, .int .i64 r, .int .i64 p, .int .i64 l, .slice A n c] 45) := ⟨_, rfl⟩
      obtain ⟨b7, hb7⟩ : ∃ z, z = w2.heap.size := ⟨_, rfl⟩
      have HO3 : Hid (Only (w2.heap.size ≤ ·) w2 w3) := Lib.hid (by rw [hw3]; exact (Only.refl _ w2).alloc (fun _ h => h) _)
      have HB7 : Hid (Blk w3 b7 45 [.int .i64 g, .int .i64 ph, .int .i64 t, .int .i64 x, .int .i64 r, .int .i64 p, .int .i64 l, .slice A n c]) := Lib.hid (by rw [hw3, hb7]; exact Blk.new w2 45 _)
      have HB5b := Lib.hid (HB2.out.only HO3.out (Nat.not_le.2 HB2.out.lt))
      have HLL : Hid (b7 = w2.heap.size) := Lib.hid hb7
      go_upto_region 4 with (fail)
      rw [← hw3, ← hb7]
      clear hw3 hb7 i0 i1 i2 i3 i4 i5 i6 i7
      have j3 := HB7.out.cell 3
      simp only [List.getElem?_cons_succ, List.getElem?_cons_zero] at j3
      have f3 := HB7.out.frozen 3
      have hx63 : -9223372036854775808 ≤ x ∧ x ≤ 9223372036854775807 := HI.out x (by simp)
      have hwx : IntKind.i64.wrap (x - 1) = x - 1 := IntWalk.i64_in _ (by omega)
      obtain ⟨wc, hwc⟩ : ∃ W0, W0 = w3.setCell ⟨b7, 3, none⟩ (.int .i64 (x - 1)) := ⟨_, rfl⟩
      have HC7 : Hid (Blk wc b7 45 [.int .i64 g, .int .i64 ph, .int .i64 t, .int .i64 (x - 1), .int .i64 r, .int .i64 p, .int .i64 l, .slice A n c]) := Lib.hid (by rw [hwc]; exact HB7.out.set_ 3 _)
      have HC5 : Hid (Blk wc b5 45 [.int .i64 g, .int .i64 ph, .int .i64 t, .int .i64 x, .int .i64 r, .int .i64 p, .int .i64 l, .slice A n c]) := Lib.hid (by rw [hwc]; exact HB5b.out.far (p := ⟨b7, 3, none⟩) (by have h1 := HB2.out.lt; have h2 := HLL.out; show b5 ≠ b7; omega) _)
      have HOWC : Hid (Only (w.heap.size ≤ ·) w wc) := Lib.hid (by rw [hwc]; exact (on_new HOW.out HO3.out).setCell (p := ⟨b7, 3, none⟩) (by have h1 := HLL.out; have h2 := HOW.out.size; show w.heap.size ≤ b7; omega) _)
      go_upto_region 5 with (fail)
      rw [← hwc]
      clear hwc j3 f3 hwx
      have HSZ : Hid (w.heap.size ≤ w2.heap.size) := Lib.hid HOW.out.size
      have HDW : Hid (∀ k, D k → k < w.heap.size) := Lib.hid HP.out.dat.lt
      have HPC : Hid (∀ W, Only (wc.heap.size ≤ ·) wc W → PAt W q dp d D) := Lib.hid (fun W hW => HP.out.later (on_new HOWC.out hW))
      have HRWS : Hid (SRw wrE D wc (.slice RA rn rc) ws) := Lib.hid (HROW.out.later HOWC.out)
      have HOKP : Hid (okM g ph t x r p l n = true ∧ okM g ph t (x - 1) r p l n = true ∧ 3 ≤ p ∧ p ≤ 16384) := Lib.hid (by
        have h1 := HRI2.out.symm
        unfold pgRight at h1
        rw [Bool.and_eq_true] at h1
        have h2 := of_decide_eq_true h1.1
        have h3 := HX2.out
        refine ⟨h1.1, decide_eq_true ?_, ?_, ?_⟩
        · unfold okP at h2 ⊢
          exact ⟨h2.1, h2.2.1, by omega, by omega, h2.2.2.2.2⟩
        · unfold okP at h2
          omega
        · unfold okP at h2
          omega)
      have HLA : Hid (a.length = 256 ∧ b.length = 256) := Lib.hid (by
        rw [HAB.out, HBB.out]
        exact ⟨(enc_back (by rw [← HNE.out]; exact HOKP.out.2.1)).2.2.2, (enc_back (by rw [← HNE.out]; exact HOKP.out.1)).2.2.2⟩)
      have HOK1 : Hid (∀ y ∈ [(sl (x - 1), a), (sl x, b)] ++ ws, OkW y) := Lib.hid (by
        have h1 := HRI2.out.symm
        unfold pgRight at h1
        rw [Bool.and_eq_true] at h1
        have h2 := of_decide_eq_true HOKP.out.1
        unfold okP at h2
        have h3 := HX2.out
        obtain ⟨k, rfl⟩ : ∃ k : Nat, x = (k : Int) + 1 := ⟨(x - 1).toNat, by omega⟩
        have e1 : sl ((k : Int) + 1 - 1) = ((k % 2 : Nat) : Int) := by rw [show (k : Int) + 1 - 1 = (k : Int) by omega]; exact sl_pg (by omega)
        have e2 : sl ((k : Int) + 1) = (((k + 1) % 2 : Nat) : Int) := by rw [show (k : Int) + 1 = ((k + 1 : Nat) : Int) by omega]; exact sl_pg (by omega)
        intro y hy
        unfold OkW
        rcases List.mem_append.1 hy with hy | hy
        · simp only [List.mem_cons, List.not_mem_nil, or_false] at hy
          rcases hy with rfl | rfl
          · rw [e1]
            omega
          · rw [e2]
            omega
        · obtain ⟨a', m, ha, _, _, _, ham⟩ := fitW_facts (right_fit ws _ h1.2 y hy)
          have h4 := HOKP.out
          omega)
      have HRM2 : Hid (Roomy d (costs [[(sl (x - 1), a), (sl x, b)] ++ ws])) := Lib.hid (HRM.out.le (by have h1 := HLA.out; simp [costs, cost]; omega))
      have HENA : Hid (∀ W, Only (wc.heap.size ≤ ·) wc W → Calls Tryz.prog 45 #[.agg #[.int .i64 g, .int .i64 ph, .int .i64 t, .int .i64 (x - 1), .int .i64 r, .int .i64 p, .int .i64 l, .slice A n c]] W (GaveW W (x - 1) a)) := Lib.hid (fun W hW => by
        rw [HAB.out]
        exact Pgenc_c W g ph t (x - 1) r p l A n c (HG.out.later (on_new HOWC.out hW)) xs (HS.out.later (on_new HOWC.out hW)) HNE.out (fun u hu => by
          simp only [List.mem_cons, List.not_mem_nil, or_false] at hu
          have h1 := fun z hz => HI.out z hz
          have h2 := HX2.out
          rcases hu with rfl | rfl | rfl | rfl | rfl | rfl | rfl
          · exact h1 _ (by simp)
          · exact h1 _ (by simp)
          · exact h1 _ (by simp)
          · unfold I64; omega
          · exact h1 _ (by simp)
          · exact h1 _ (by simp)
          · exact h1 _ (by simp)) HOKP.out.2.1)
      have HENB : Hid (∀ W, Only (wc.heap.size ≤ ·) wc W → Calls Tryz.prog 45 #[.agg #[.int .i64 g, .int .i64 ph, .int .i64 t, .int .i64 x, .int .i64 r, .int .i64 p, .int .i64 l, .slice A n c]] W (GaveW W x b)) := Lib.hid (fun W hW => by
        rw [HBB.out]
        exact Pgenc_c W g ph t x r p l A n c (HG.out.later (on_new HOWC.out hW)) xs (HS.out.later (on_new HOWC.out hW)) HNE.out HI.out HOKP.out.1)
      have HW0 : Hid (Only (wc.heap.size ≤ ·) wc wc.drew) := Lib.hid ((Only.refl _ wc).drew)
      have KP : Hid (∀ W : World, Only (wc.heap.size ≤ ·) wc W → (fun W : World => W.cell? ⟨b5, 0, none⟩ = some (.int .i64 g) ∧ W.cell? ⟨b5, 1, none⟩ = some (.int .i64 ph) ∧ W.cell? ⟨b5, 2, none⟩ = some (.int .i64 t) ∧ W.cell? ⟨b5, 3, none⟩ = some (.int .i64 x) ∧ W.cell? ⟨b5, 4, none⟩ = some (.int .i64 r) ∧ W.cell? ⟨b5, 5, none⟩ = some (.int .i64 p) ∧ W.cell? ⟨b5, 6, none⟩ = some (.int .i64 l) ∧ W.cell? ⟨b5, 7, none⟩ = some (.slice A n c) ∧ W.cell? ⟨b7, 0, none⟩ = some (.int .i64 g) ∧ W.cell? ⟨b7, 1, none⟩ = some (.int .i64 ph) ∧ W.cell? ⟨b7, 2, none⟩ = some (.int .i64 t) ∧ W.cell? ⟨b7, 3, none⟩ = some (.int .i64 (x - 1)) ∧ W.cell? ⟨b7, 4, none⟩ = some (.int .i64 r) ∧ W.cell? ⟨b7, 5, none⟩ = some (.int .i64 p) ∧ W.cell? ⟨b7, 6, none⟩ = some (.int .i64 l) ∧ W.cell? ⟨b7, 7, none⟩ = some (.slice A n c)) W) := Lib.hid (fun W hW => by
        have h5 := HC5.out.only hW (Nat.not_le.2 HC5.out.lt)
        have h7 := HC7.out.only hW (Nat.not_le.2 HC7.out.lt)
        exact ⟨h5.cell 0, h5.cell 1, h5.cell 2, h5.cell 3, h5.cell 4, h5.cell 5, h5.cell 6, h5.cell 7, h7.cell 0, h7.cell 1, h7.cell 2, h7.cell 3, h7.cell 4, h7.cell 5, h7.cell 6, h7.cell 7⟩)
      have KP2 : Hid (∀ W W' : World, Only (wc.heap.size ≤ ·) wc W → Only (fun k => D k ∨ W.heap.size ≤ k) W W' → (fun W : World => W.cell? ⟨b5, 0, none⟩ = some (.int .i64 g) ∧ W.cell? ⟨b5, 1, none⟩ = some (.int .i64 ph) ∧ W.cell? ⟨b5, 2, none⟩ = some (.int .i64 t) ∧ W.cell? ⟨b5, 3, none⟩ = some (.int .i64 x) ∧ W.cell? ⟨b5, 4, none⟩ = some (.int .i64 r) ∧ W.cell? ⟨b5, 5, none⟩ = some (.int .i64 p) ∧ W.cell? ⟨b5, 6, none⟩ = some (.int .i64 l) ∧ W.cell? ⟨b5, 7, none⟩ = some (.slice A n c) ∧ W.cell? ⟨b7, 0, none⟩ = some (.int .i64 g) ∧ W.cell? ⟨b7, 1, none⟩ = some (.int .i64 ph) ∧ W.cell? ⟨b7, 2, none⟩ = some (.int .i64 t) ∧ W.cell? ⟨b7, 3, none⟩ = some (.int .i64 (x - 1)) ∧ W.cell? ⟨b7, 4, none⟩ = some (.int .i64 r) ∧ W.cell? ⟨b7, 5, none⟩ = some (.int .i64 p) ∧ W.cell? ⟨b7, 6, none⟩ = some (.int .i64 l) ∧ W.cell? ⟨b7, 7, none⟩ = some (.slice A n c)) W') := Lib.hid (fun W W' hW hW' => by
        have g5 := HC5.out.only hW (Nat.not_le.2 HC5.out.lt)
        have g7 := HC7.out.only hW (Nat.not_le.2 HC7.out.lt)
        have h5 := g5.only hW' (fun hk => hk.elim (fun hk => by have h1 := HDW.out _ hk; have h2 := HB5L.out; omega) (fun hk => by have h1 := g5.lt; omega))
        have h7 := g7.only hW' (fun hk => hk.elim (fun hk => by have h1 := HDW.out _ hk; have h2 := HLL.out; have h3 := HSZ.out; omega) (fun hk => by have h1 := g7.lt; omega))
        exact ⟨h5.cell 0, h5.cell 1, h5.cell 2, h5.cell 3, h5.cell 4, h5.cell 5, h5.cell 6, h5.cell 7, h7.cell 0, h7.cell 1, h7.cell 2, h7.cell 3, h7.cell 4, h7.cell 5, h7.cell 6, h7.cell 7⟩)
      have HSX := Lib.hid (KP.out _ HW0.out)
      replace HRWS := Lib.hid (SRw.later HRWS.out HW0.out)
      refine wp_region_list (B := [false, false, false, false, false, false, false, false, false, false, false, false, false, false]) (S := (fun W : World => W.cell? ⟨b5, 0, none⟩ = some (.int .i64 g) ∧ W.cell? ⟨b5, 1, none⟩ = some (.int .i64 ph) ∧ W.cell? ⟨b5, 2, none⟩ = some (.int .i64 t) ∧ W.cell? ⟨b5, 3, none⟩ = some (.int .i64 x) ∧ W.cell? ⟨b5, 4, none⟩ = some (.int .i64 r) ∧ W.cell? ⟨b5, 5, none⟩ = some (.int .i64 p) ∧ W.cell? ⟨b5, 6, none⟩ = some (.int .i64 l) ∧ W.cell? ⟨b5, 7, none⟩ = some (.slice A n c) ∧ W.cell? ⟨b7, 0, none⟩ = some (.int .i64 g) ∧ W.cell? ⟨b7, 1, none⟩ = some (.int .i64 ph) ∧ W.cell? ⟨b7, 2, none⟩ = some (.int .i64 t) ∧ W.cell? ⟨b7, 3, none⟩ = some (.int .i64 (x - 1)) ∧ W.cell? ⟨b7, 4, none⟩ = some (.int .i64 r) ∧ W.cell? ⟨b7, 5, none⟩ = some (.int .i64 p) ∧ W.cell? ⟨b7, 6, none⟩ = some (.int .i64 l) ∧ W.cell? ⟨b7, 7, none⟩ = some (.slice A n c))) (by kernel_rfl) (by kernel_rfl) (by kernel_rfl) HSX.out (fun hsel hHeld => ?_)
      generalize hwz : World.drew _ = wy0 at HW0 HSX HRWS hHeld ⊢
      clear hwz
      refine oneA 0 22 hsel (h := ?_)
      simp only [Act.put, lsa, lsz, lss]
      refine oneA 1 23 hsel (h := ?_)
      simp only [Act.put, lsa, lsz, lss]
      refine oneA 2 24 hsel (h := ?_)
      simp only [Act.put, lsa, lsz, lss]
      refine oneA 3 25 hsel (h := ?_)
      simp only [Act.put, lsa, lsz, lss]
      refine oneA 5 27 hsel (h := ?_)
      simp only [Act.put, lsa, lsz, lss]
      refine oneA 8 30 hsel (h := ?_)
      simp only [Act.put, lsa, lsz, lss]
      refine wpAnyL_ready (rs := [4]) (by kernel_rfl) (by kernel_rfl) (by simp) ?_
      refine AllReadyL.cons (o := ?_) ?_ (fun K hK => ?_) AllReadyL.nil
      case refine_2 => (simp only [List.getElem?_cons_succ, List.getElem?_cons_zero]; rfl)
      go_simp
      (go_at_call 45; (with_reducible refine (HENA.out _ HW0.out).mono ?_); rintro e wy1 ⟨B26, c26, rfl, hnb, ho⟩; have HW1 := Lib.hid (on_new HW0.out ho); replace HRWS := Lib.hid (SRw.later HRWS.out ho); have HN26 : Hid (Stab D wy1 (fun W => Src W (.slice B26 a.length c26) a)) := Lib.hid (hnb.stab (fun k hk => by have h1 := HDW.out _ hk; have h2 := HOWC.out.size; have h3 := HW0.out.size; omega)); clear hnb ho)
      go_wp2_with (fail)
      clear hHeld
      refine hK.out _ _ (KP.out _ HW1.out) (fun hHeld => ?_)
      clear hK K
      try simp only [Act.put, lsa, lsz, lss]
      refine wpAnyL_ready (rs := [6]) (by kernel_rfl) (by kernel_rfl) (by simp) ?_
      refine AllReadyL.cons (o := ?_) ?_ (fun K hK => ?_) AllReadyL.nil
      case refine_2 => (simp only [List.getElem?_cons_succ, List.getElem?_cons_zero]; rfl)
      go_simp
      (go_at_call 45; (with_reducible refine (HENB.out _ HW1.out).mono ?_); rintro e wy2 ⟨B28, c28, rfl, hnb, ho⟩; have HW2 := Lib.hid (on_new HW1.out ho); replace HRWS := Lib.hid (SRw.later HRWS.out ho); replace HN26 := Lib.hid (Stab.later HN26.out ho); have HN28 : Hid (Stab D wy2 (fun W => Src W (.slice B28 b.length c28) b)) := Lib.hid (hnb.stab (fun k hk => by have h1 := HDW.out _ hk; have h2 := HOWC.out.size; have h3 := HW1.out.size; omega)); clear hnb ho)
      go_wp2_with (fail)
      clear hHeld
      refine hK.out _ _ (KP.out _ HW2.out) (fun hHeld => ?_)
      clear hK K
      try simp only [Act.put, lsa, lsz, lss]
      refine wpAnyL_ready (rs := [7]) (by kernel_rfl) (by kernel_rfl) (by simp) ?_
      refine AllReadyL.cons (o := ?_) ?_ (fun K hK => ?_) AllReadyL.nil
      case refine_2 => (simp only [List.getElem?_cons_succ, List.getElem?_cons_zero]; rfl)
      go_simp
      have HW3 : Hid (Only (wc.heap.size ≤ ·) wc (wy2.alloc (.cells #[.int .i64 (sl (x - 1)), .slice B26 a.length c26, .int .i64 (sl x), .slice B28 b.length c28] 71))) := Lib.hid (HW2.out.alloc (fun _ h => h) _)
      have HNB : Hid (Blk (wy2.alloc (.cells #[.int .i64 (sl (x - 1)), .slice B26 a.length c26, .int .i64 (sl x), .slice B28 b.length c28] 71)) wy2.heap.size 71 [.int .i64 (sl (x - 1)), .slice B26 a.length c26, .int .i64 (sl x), .slice B28 b.length c28]) := Lib.hid (Blk.new wy2 _ _)
      have HND : Hid (¬ D wy2.heap.size) := Lib.hid (fun hk => by have h1 := HDW.out _ hk; have h2 := HOWC.out.size; have h3 := HW2.out.size; omega)
      replace HRWS := Lib.hid (SRw.later HRWS.out ((Only.refl _ wy2).alloc (fun _ h => h) (.cells #[.int .i64 (sl (x - 1)), .slice B26 a.length c26, .int .i64 (sl x), .slice B28 b.length c28] 71)))
      replace HN26 := Lib.hid (Stab.later HN26.out ((Only.refl _ wy2).alloc (fun _ h => h) (.cells #[.int .i64 (sl (x - 1)), .slice B26 a.length c26, .int .i64 (sl x), .slice B28 b.length c28] 71)))
      replace HN28 := Lib.hid (Stab.later HN28.out ((Only.refl _ wy2).alloc (fun _ h => h) (.cells #[.int .i64 (sl (x - 1)), .slice B26 a.length c26, .int .i64 (sl x), .slice B28 b.length c28] 71)))
      have HS29 : Hid (SRw wrE D (wy2.alloc (.cells #[.int .i64 (sl (x - 1)), .slice B26 a.length c26, .int .i64 (sl x), .slice B28 b.length c28] 71)) (.slice (some ⟨wy2.heap.size, 0, none⟩) 2 2) [(sl (x - 1), a), (sl x, b)]) := Lib.hid (srw_two HNB.out HND.out HN26.out HN28.out)
      clear HNB HND
      clear hHeld
      refine hK.out _ _ (KP.out _ HW3.out) (fun hHeld => ?_)
      clear hK K
      try simp only [Act.put, lsa, lsz, lss]
      generalize hwz : (wy2.alloc (.cells #[.int .i64 (sl (x - 1)), .slice B26 a.length c26, .int .i64 (sl x), .slice B28 b.length c28] 71)) = wy3 at HW3 HRWS HN26 HN28 HS29 hHeld ⊢
      clear hwz
      generalize hgz : wy2.heap.size = r1 at HS29 ⊢
      clear hgz
      refine wpAnyL_ready (rs := [9]) (by kernel_rfl) (by kernel_rfl) (by simp) ?_
      refine AllReadyL.cons (o := ?_) ?_ (fun K hK => ?_) AllReadyL.nil
      case refine_2 => (simp only [List.getElem?_cons_succ, List.getElem?_cons_zero]; rfl)
      go_simp
      have HW4 : Hid (Only (wc.heap.size ≤ ·) wc (wy3.alloc (.cells #[.slice (some ⟨r1, 0, none⟩) 2 2, .slice RA rn rc] 47))) := Lib.hid (HW3.out.alloc (fun _ h => h) _)
      have HNB : Hid (Blk (wy3.alloc (.cells #[.slice (some ⟨r1, 0, none⟩) 2 2, .slice RA rn rc] 47)) wy3.heap.size 47 [.slice (some ⟨r1, 0, none⟩) 2 2, .slice RA rn rc]) := Lib.hid (Blk.new wy3 _ _)
      have HND : Hid (¬ D wy3.heap.size) := Lib.hid (fun hk => by have h1 := HDW.out _ hk; have h2 := HOWC.out.size; have h3 := HW3.out.size; omega)
      replace HRWS := Lib.hid (SRw.later HRWS.out ((Only.refl _ wy3).alloc (fun _ h => h) (.cells #[.slice (some ⟨r1, 0, none⟩) 2 2, .slice RA rn rc] 47)))
      replace HN26 := Lib.hid (Stab.later HN26.out ((Only.refl _ wy3).alloc (fun _ h => h) (.cells #[.slice (some ⟨r1, 0, none⟩) 2 2, .slice RA rn rc] 47)))
      replace HN28 := Lib.hid (Stab.later HN28.out ((Only.refl _ wy3).alloc (fun _ h => h) (.cells #[.slice (some ⟨r1, 0, none⟩) 2 2, .slice RA rn rc] 47)))
      replace HS29 := Lib.hid (SRw.later HS29.out ((Only.refl _ wy3).alloc (fun _ h => h) (.cells #[.slice (some ⟨r1, 0, none⟩) 2 2, .slice RA rn rc] 47)))
      have HR31 := HNB
      clear HNB HND
      clear hHeld
      refine hK.out _ _ (KP.out _ HW4.out) (fun hHeld => ?_)
      clear hK K
      try simp only [Act.put, lsa, lsz, lss]
      generalize hwz : (wy3.alloc (.cells #[.slice (some ⟨r1, 0, none⟩) 2 2, .slice RA rn rc] 47)) = wy4 at HW4 HRWS HN26 HN28 HS29 HR31 hHeld ⊢
      clear hwz
      generalize hgz : wy3.heap.size = r2 at HR31 ⊢
      clear hgz
      refine wpAnyL_ready (rs := [10]) (by kernel_rfl) (by kernel_rfl) (by simp) ?_
      refine AllReadyL.cons (o := ?_) ?_ (fun K hK => ?_) AllReadyL.nil
      case refine_2 => (simp only [List.getElem?_cons_succ, List.getElem?_cons_zero]; rfl)
      have HCC := Lib.hid (concat_two wy4 D (fun k hk => by have h1 := HDW.out _ hk; have h2 := HOWC.out.size; have h3 := HW4.out.size; omega) r2 (some ⟨r1, 0, none⟩) RA 2 rn 2 rc [(sl (x - 1), a), (sl x, b)] ws HR31.out HS29.out HRWS.out (by omega) (by omega))
      go_simp
      (go_at_call 44; (with_reducible refine HCC.out.mono ?_); rintro e wy5 ⟨V, vc, rfl, hsv, ho⟩; have HW5 := Lib.hid (on_new HW4.out ho); replace HRWS := Lib.hid (SRw.later HRWS.out ho); replace HN26 := Lib.hid (Stab.later HN26.out ho); replace HN28 := Lib.hid (Stab.later HN28.out ho); replace HS29 := Lib.hid (SRw.later HS29.out ho); replace HR31 := Lib.hid (HR31.out.only ho (Nat.not_le.2 HR31.out.lt)); have HS32 := Lib.hid hsv; clear hsv ho)
      go_wp2_with (fail)
      clear hHeld
      refine hK.out _ _ (KP.out _ HW5.out) (fun hHeld => ?_)
      clear hK K
      try simp only [Act.put, lsa, lsz, lss]
      clear HCC
      refine wpAnyL_ready (rs := [11]) (by kernel_rfl) (by kernel_rfl) (by simp) ?_
      refine AllReadyL.cons (o := ?_) ?_ (fun K hK => ?_) AllReadyL.nil
      case refine_2 => (simp only [List.getElem?_cons_succ, List.getElem?_cons_zero]; rfl)
      go_simp
      have HW6 : Hid (Only (wc.heap.size ≤ ·) wc (wy5.alloc (.cells #[.slice V (2 + rn) vc] 47))) := Lib.hid (HW5.out.alloc (fun _ h => h) _)
      have HNB : Hid (Blk (wy5.alloc (.cells #[.slice V (2 + rn) vc] 47)) wy5.heap.size 47 [.slice V (2 + rn) vc]) := Lib.hid (Blk.new wy5 _ _)
      have HND : Hid (¬ D wy5.heap.size) := Lib.hid (fun hk => by have h1 := HDW.out _ hk; have h2 := HOWC.out.size; have h3 := HW5.out.size; omega)
      replace HRWS := Lib.hid (SRw.later HRWS.out ((Only.refl _ wy5).alloc (fun _ h => h) (.cells #[.slice V (2 + rn) vc] 47)))
      replace HN26 := Lib.hid (Stab.later HN26.out ((Only.refl _ wy5).alloc (fun _ h => h) (.cells #[.slice V (2 + rn) vc] 47)))
      replace HN28 := Lib.hid (Stab.later HN28.out ((Only.refl _ wy5).alloc (fun _ h => h) (.cells #[.slice V (2 + rn) vc] 47)))
      replace HS29 := Lib.hid (SRw.later HS29.out ((Only.refl _ wy5).alloc (fun _ h => h) (.cells #[.slice V (2 + rn) vc] 47)))
      replace HR31 := Lib.hid (HR31.out.only ((Only.refl _ wy5).alloc (fun _ h => h) (.cells #[.slice V (2 + rn) vc] 47)) (Nat.not_le.2 HR31.out.lt))
      replace HS32 := Lib.hid (SRw.later HS32.out ((Only.refl _ wy5).alloc (fun _ h => h) (.cells #[.slice V (2 + rn) vc] 47)))
      have HR33 := HNB
      clear HNB
      clear hHeld
      refine hK.out _ _ (KP.out _ HW6.out) (fun hHeld => ?_)
      clear hK K
      try simp only [Act.put, lsa, lsz, lss]
      generalize hwz : (wy5.alloc (.cells #[.slice V (2 + rn) vc] 47)) = wy6 at HW6 HRWS HN26 HN28 HS29 HR31 HS32 HR33 hHeld ⊢
      clear hwz
      generalize hgz : wy5.heap.size = r4 at HR33 HND ⊢
      clear hgz
      have HN4 := HND
      clear HND
      refine wpAnyL_ready (rs := [12]) (by kernel_rfl) (by kernel_rfl) (by simp) ?_
      refine AllReadyL.cons (o := ?_) ?_ (fun K hK => ?_) AllReadyL.nil
      case refine_2 => (simp only [List.getElem?_cons_succ, List.getElem?_cons_zero]; rfl)
      have HCW := Lib.hid (format_write wy6 q dp d D (HPC.out _ HW6.out) p (by have h1 := HOKP.out; omega) r4 HN4.out V (2 + rn) vc ([(sl (x - 1), a), (sl x, b)] ++ ws) HR33.out HS32.out HOK1.out HRM2.out)
      obtain ⟨we, hwe⟩ : ∃ z, z = (wrP d p [[(sl (x - 1), a), (sl x, b)] ++ ws]).2 := ⟨_, rfl⟩
      rw [← hwe] at HCW
      have HWE := Lib.hid hwe
      clear hwe
      go_simp
      (go_at_call 43; (with_reducible refine HCW.out.mono ?_); rintro e wy7 ⟨rfl, hg⟩; have HGV := Lib.hid hg; clear hg)
      go_wp2_with (fail)
      clear hHeld
      refine hK.out _ _ (KP2.out _ _ HW6.out HGV.out.1) (fun hHeld => ?_)
      clear hK K
      try simp only [Act.put, lsa, lsz, lss]
      refine oneA 13 6 hsel (h := ?_)
      simp only [Act.put, lsa, lsz, lss]
      refine wpAnyL_done (by kernel_rfl) (by kernel_rfl) ?_ _
      clear hsel hHeld
      go_wp2_with (fail)
      go_ret
      rw [E.out]
      exact ⟨by rw [← HWE.out]; rfl, PGave.trans ((on_new HOWC.out HW6.out).mono fun _ hk => .inr hk) (fun _ hk => .inl hk) HGV.out⟩
end Go.Proofs.YtbpldkhgiddmlaaGreatDoor
