/-
  Commit.
-/
import Derived.Test.YtbpldkhgiddmlaaGreatDoorPgk
set_option linter.unusedVariables false
namespace Go.Proofs.YtbpldkhgiddmlaaGreatDoor
open Go.RowKit

def z256 : Bytes := List.replicate 256 0
/-- What a commit makes of a disk. -/
def cmP (d : Dk.Dsk) (ok : Bool) (N x : Int) (ws : List Wt) (b : Bytes) : Dk.Dsk × Int := if pgRight ok N ws = true then wrP d N [(sl x, z256) :: ws, [(sl x, b)]] else (d, 1)
theorem right_fit {N : Nat} : ∀ (l : List Wt) (bits : List Bool), rightL N bits l = true → ∀ y ∈ l, fitW N y = true
  | [], _, _, y, hy => by cases hy
  | x :: r, bits, h, y, hy => by
    rw [rightL] at h
    by_cases hf : fitW N x = true
    · rw [if_pos hf] at h
      split at h
      · cases h
      · rcases List.mem_cons.1 hy with rfl | hy
        · exact hf
        · exact right_fit r _ h y hy
    · rw [if_neg hf] at h
      cases h
theorem sl_pg {k : Nat} (h : k ≤ 2147483647) : sl (k : Int) = ((k % 2 : Nat) : Int) := by
  show IntKind.i64.wrap ((BitVec.ofInt 64 (k : Int) &&& BitVec.ofInt 64 1).toNat : Int) = _
  have h1 : (BitVec.ofInt 64 (k : Int)).toNat = k := by
    rw [BitVec.toNat_ofInt]
    omega
  rw [BitVec.toNat_and, h1, show (BitVec.ofInt 64 1).toNat = 1 from by decide, Nat.and_one_is_mod, IntKind.wrap_i64]
  omega
set_option maxRecDepth 100000 in
set_option maxHeartbeats 51200000 in
theorem PgCommit_c (w : World) (q dp : Nat) (d : Dk.Dsk) (D : Nat → Prop) (h : PAt w q dp d D) (hG : Gens w) (g ph t x r p l : Int) (A : Option Addr) (n c : Nat) (xs : Bytes) (hs : Src w (.slice A n c) xs) (hne : n = xs.length) (hI : ∀ u ∈ [g, ph, t, x, r, p, l], I64 u)
    (RA : Option Addr) (rn rc : Nat) (ws : List Wt) (hrow : SRw wrE D w (.slice RA rn rc) ws) (hrn : rn ≤ 1000) (hIw : ∀ y ∈ ws, y.1 ≤ 9223372036854775807) (hroom : Roomy d (cost ws + 1000)) :
    Calls Tryz.prog 14 #[.pointer (some ⟨q, 0, none⟩), .slice RA rn rc, .agg #[.int .i64 g, .int .i64 ph, .int .i64 t, .int .i64 x, .int .i64 r, .int .i64 p, .int .i64 l, .slice A n c]] w fun e w' => e = .returned (.int .i64 (cmP d (okM g ph t x r p l n) p x ws (encB [g, ph, t, x, r, p, l] xs)).2) ∧ PGave w w' q dp (cmP d (okM g ph t x r p l n) p x ws (encB [g, ph, t, x, r, p, l] xs)).1 D := by
  obtain ⟨w1, hw1⟩ : ∃ W0, W0 = w.alloc (.cells #[.int .i64 g, .int .i64 ph, .int .i64 t, .int .i64 x, .int .i64 r, .int .i64 p, .int .i64 l, .slice A n c] 45) := ⟨_, rfl⟩
  have HO1 : Hid (Only (w.heap.size ≤ ·) w w1) := Lib.hid (by rw [hw1]; exact (Only.refl _ w).alloc (fun _ h => h) _)
  have HA : Hid (Blk w1 w.heap.size 45 [.int .i64 g, .int .i64 ph, .int .i64 t, .int .i64 x, .int .i64 r, .int .i64 p, .int .i64 l, .slice A n c]) := Lib.hid (by rw [hw1]; exact Blk.new w 45 _)
  have HRI := Lib.hid (PgRight_c w1 g ph t x r p l A n c RA rn rc ws (hG.later HO1.out) (Rw.later hrow.rw_.now HO1.out) hIw)
  have HP := Lib.hid h
  have HG := Lib.hid hG
  have HS := Lib.hid hs
  have HNE := Lib.hid hne
  have HI := Lib.hid hI
  have HROW := Lib.hid hrow
  have HRM := Lib.hid hroom
  obtain ⟨i0, i1, i2, i3, i4, i5, i6, i7⟩ := HA.out.eight
  obtain ⟨ok, hok⟩ : ∃ z, z = okM g ph t x r p l n := ⟨_, rfl⟩
  obtain ⟨ri, hri⟩ : ∃ z, z = pgRight (okM g ph t x r p l n) p ws := ⟨_, rfl⟩
  obtain ⟨b, hb⟩ : ∃ z, z = encB [g, ph, t, x, r, p, l] xs := ⟨_, rfl⟩
  rw [← hri] at HRI
  rw [← hb]
  clear h hG hs hne hI hrow hIw hroom
  cases ri with
  | false =>
    have E : Hid (cmP d (okM g ph t x r p l n) p x ws b = (d, 1)) := Lib.hid (if_neg (by rw [← hri]; decide))
    clear hri hok hb
    go_enter Tryz.func14, Tryz.ntmps14
    go_upto_region 1 with (fail)
    rw [← hw1]
    clear hw1
    go_wp2_with (go_at_call 18; (with_reducible refine HRI.out.mono ?_); rintro e w2 ⟨rfl, ho⟩; have HO := Lib.hid (on_new HO1.out ho); clear ho)
    go_ret
    rw [E.out]
    exact ⟨rfl, PGave.of HP.out HO.out⟩
  | true =>
    have E : Hid (cmP d (okM g ph t x r p l n) p x ws b = wrP d p [(sl x, z256) :: ws, [(sl x, b)]]) := Lib.hid (if_pos hri.symm)
    obtain ⟨Z, hZ⟩ : ∃ Z, Z = List.replicate 256 z8 := ⟨_, rfl⟩
    have hmk : ∀ W : World, (Instr.makeSlice 22 (.int .i64 256) (.int .i64 256)).run Tryz.prog W = .ok (.slice (some ⟨W.heap.size, 0, none⟩) 256 256) (W.alloc (.cells Z.toArray 5)) := fun W => by
      rw [hZ]
      exact run_make8 256 (by omega) W
    have HSL : Hid (∀ W, Calls Tryz.prog 46 #[.int .i64 x] W fun e w' => e = .returned (.int .i64 (sl x)) ∧ Only (W.heap.size ≤ ·) W w') := Lib.hid fun W => (MSlot_c W x).mono (by rintro e w' ⟨rfl, rfl⟩; exact ⟨rfl, Only.refl _ _⟩)
    have HZZ := Lib.hid hZ
    have HRI2 := Lib.hid hri
    have HBB := Lib.hid hb
    have HOK := Lib.hid hok
    clear hri hok hb hZ
    obtain ⟨b5, hb5⟩ : ∃ z, z = w.heap.size := ⟨_, rfl⟩
    go_enter Tryz.func14, Tryz.ntmps14
    go_upto_region 1 with (fail)
    rw [← hw1, ← hb5]
    rw [← hb5] at HA i0 i1 i2 i3 i4 i5 i6 i7
    have HB5L := Lib.hid hb5
    clear hw1 hb5
    go_upto_region 3 with (go_at_call 18; (with_reducible refine HRI.out.mono ?_); rintro e w2 ⟨rfl, ho⟩; have HO2 := Lib.hid ho; clear ho)
    clear i0 i1 i2 i3 i4 i5 i6 i7
    have HB5 := Lib.hid (HA.out.only HO2.out (Nat.not_le.2 HA.out.lt))
    have HOW := Lib.hid (on_new HO1.out HO2.out)
    clear HRI
    go_cut [7] from 12 to 16 (fun y7 wz => ∃ (b7 zb : Nat), y7 = .pointer (some ⟨b7, 0, none⟩) ∧ Hid (Blk wz b7 71 [.int .i64 (sl x), .slice (some ⟨zb, 0, none⟩) 256 256]) ∧ Hid (Blk wz zb 5 Z) ∧ Hid (Only (w2.heap.size ≤ ·) w2 wz) ∧ Hid (w2.heap.size ≤ b7 ∧ w2.heap.size ≤ zb))
    case first =>
      have HW0 : Hid (Only (w2.heap.size ≤ ·) w2 w2.drew) := Lib.hid ((Only.refl _ w2).drew)
      have KP : Hid (∀ W : World, Only (w2.heap.size ≤ ·) w2 W → (fun W : World => W.cell? ⟨b5, 3, none⟩ = some (.int .i64 x)) W) := Lib.hid (fun W hW => (HB5.out.only hW (Nat.not_le.2 HB5.out.lt)).cell 3)
      have HSX := Lib.hid (KP.out _ HW0.out)
      refine wp_region_list (B := [false, false, false, false, false, false, false]) (S := (fun W : World => W.cell? ⟨b5, 3, none⟩ = some (.int .i64 x))) (by kernel_rfl) (by kernel_rfl) (by kernel_rfl) HSX.out (fun hsel hHeld => ?_)
      generalize hwz : World.drew _ = wy0 at HW0 HSX hHeld ⊢
      clear hwz
      refine oneA 0 12 hsel (h := ?_)
      simp only [Act.put, lsa, lsz, lss]
      refine oneA 1 13 hsel (h := ?_)
      simp only [Act.put, lsa, lsz, lss]
      refine wpAnyL_ready (rs := [2, 3, 5]) (by kernel_rfl) (by kernel_rfl) (by simp) ?_
      refine AllReadyL.cons (o := ?_) ?_ (fun K hK => ?_) (AllReadyL.cons (o := ?_) ?_ (fun K hK => ?_) (AllReadyL.cons (o := ?_) ?_ (fun K hK => ?_) AllReadyL.nil))
      case refine_2 => (simp only [List.getElem?_cons_succ, List.getElem?_cons_zero]; rfl)
      case refine_5 => (simp only [List.getElem?_cons_succ, List.getElem?_cons_zero]; rfl)
      case refine_8 => (simp only [List.getElem?_cons_succ, List.getElem?_cons_zero]; rfl)
      case refine_3 =>
        go_simp
        (go_at_call 46; (with_reducible refine (HSL.out _).mono ?_); rintro e wy1 ⟨rfl, ho⟩; have HW1 := Lib.hid (on_new HW0.out ho); clear ho)
        go_wp2_with (fail)
        clear hHeld
        refine hK.out _ _ (KP.out _ HW1.out) (fun hHeld => ?_)
        clear hK K
        try simp only [Act.put, lsa, lsz, lss]
        refine wpAnyL_ready (rs := [3, 5]) (by kernel_rfl) (by kernel_rfl) (by simp) ?_
        refine AllReadyL.cons (o := ?_) ?_ (fun K hK => ?_) (AllReadyL.cons (o := ?_) ?_ (fun K hK => ?_) AllReadyL.nil)
        case refine_2 => (simp only [List.getElem?_cons_succ, List.getElem?_cons_zero]; rfl)
        case refine_5 => (simp only [List.getElem?_cons_succ, List.getElem?_cons_zero]; rfl)
        case refine_3 =>
          go_simp
          have HW2 : Hid (Only (w2.heap.size ≤ ·) w2 (wy1.alloc (.cells Z.toArray 5))) := Lib.hid (HW1.out.alloc (fun _ h => h) _)
          have HZ : Hid (Blk (wy1.alloc (.cells Z.toArray 5)) wy1.heap.size 5 Z) := Lib.hid (by have h1 := Blk.new wy1 5 Z; exact h1)
          have HLZ : Hid (w2.heap.size ≤ wy1.heap.size) := Lib.hid HW1.out.size
          clear hHeld
          refine hK.out _ _ (KP.out _ HW2.out) (fun hHeld => ?_)
          clear hK K
          try simp only [Act.put, lsa, lsz, lss]
          generalize hwz : (wy1.alloc (.cells Z.toArray 5)) = wy2 at HW2 HZ hHeld ⊢
          clear hwz
          generalize hgz : wy1.heap.size = zb at HZ HLZ ⊢
          clear hgz
          refine oneA 4 16 hsel (h := ?_)
          simp only [Act.put, lsa, lsz, lss]
          refine wpAnyL_ready (rs := [5]) (by kernel_rfl) (by kernel_rfl) (by simp) ?_
          refine AllReadyL.cons (o := ?_) ?_ (fun K hK => ?_) AllReadyL.nil
          case refine_2 => (simp only [List.getElem?_cons_succ, List.getElem?_cons_zero]; rfl)
          go_simp
          have HW3 : Hid (Only (w2.heap.size ≤ ·) w2 (wy2.alloc (.cells #[.int .i64 0, .slice none 0 0] 71))) := Lib.hid (HW2.out.alloc (fun _ h => h) _)
          have HB7 : Hid (Blk (wy2.alloc (.cells #[.int .i64 0, .slice none 0 0] 71)) wy2.heap.size 71 [.int .i64 0, .slice none 0 0]) := Lib.hid (Blk.new wy2 _ _)
          have HL7 : Hid (w2.heap.size ≤ wy2.heap.size) := Lib.hid HW2.out.size
          replace HZ := Lib.hid (HZ.out.alloc (.cells #[.int .i64 0, .slice none 0 0] 71))
          clear hHeld
          refine hK.out _ _ (KP.out _ HW3.out) (fun hHeld => ?_)
          clear hK K
          try simp only [Act.put, lsa, lsz, lss]
          generalize hwz : (wy2.alloc (.cells #[.int .i64 0, .slice none 0 0] 71)) = wy3 at HW3 HB7 HZ hHeld ⊢
          clear hwz
          generalize hgz : wy2.heap.size = b7 at HB7 HL7 ⊢
          clear hgz
          refine wpAnyL_ready (rs := [6]) (by kernel_rfl) (by kernel_rfl) (by simp) ?_
          refine AllReadyL.cons (o := ?_) ?_ (fun K hK => ?_) AllReadyL.nil
          case refine_2 => (simp only [List.getElem?_cons_succ, List.getElem?_cons_zero]; rfl)
          have z0 := HB7.out.cell 0
          have z1 := HB7.out.cell 1
          have m0 := HB7.out.frozen 0
          have m1 := HB7.out.frozen 1
          go_simp
          clear z0 z1 m0 m1
          have HW4 : Hid (Only (w2.heap.size ≤ ·) w2 ((wy3.setCell ⟨b7, 0, none⟩ (.int .i64 (sl x))).setCell ⟨b7, 1, none⟩ (.slice (some ⟨zb, 0, none⟩) 256 256))) := Lib.hid ((HW3.out.setCell (p := ⟨b7, 0, none⟩) HL7.out (.int .i64 (sl x))).setCell (p := ⟨b7, 1, none⟩) HL7.out (.slice (some ⟨zb, 0, none⟩) 256 256))
          have HF7 : Hid (Blk ((wy3.setCell ⟨b7, 0, none⟩ (.int .i64 (sl x))).setCell ⟨b7, 1, none⟩ (.slice (some ⟨zb, 0, none⟩) 256 256)) b7 71 [.int .i64 (sl x), .slice (some ⟨zb, 0, none⟩) 256 256]) := Lib.hid ((HB7.out.set_ 0 (.int .i64 (sl x))).set_ 1 (.slice (some ⟨zb, 0, none⟩) 256 256))
          replace HZ : Hid (Blk ((wy3.setCell ⟨b7, 0, none⟩ (.int .i64 (sl x))).setCell ⟨b7, 1, none⟩ (.slice (some ⟨zb, 0, none⟩) 256 256)) zb 5 Z) := Lib.hid ((HZ.out.far (p := ⟨b7, 0, none⟩) (HZ.out.ne HB7.out (by decide)) (.int .i64 (sl x))).far (p := ⟨b7, 1, none⟩) (HZ.out.ne HB7.out (by decide)) (.slice (some ⟨zb, 0, none⟩) 256 256))
          clear hHeld
          refine hK.out _ _ (KP.out _ HW4.out) (fun hHeld => ?_)
          clear hK K
          try simp only [Act.put, lsa, lsz, lss]
          generalize hwz : ((wy3.setCell ⟨b7, 0, none⟩ (.int .i64 (sl x))).setCell ⟨b7, 1, none⟩ (.slice (some ⟨zb, 0, none⟩) 256 256)) = wy4 at HW4 HF7 HZ hHeld ⊢
          clear hwz
          refine wpAnyL_done (by kernel_rfl) (by kernel_rfl) ?_ _
          clear hsel hHeld
          go_wp2_with (fail)
          refine Met.intro ?_
          go_step
          (repeat apply Exists.intro)
          refine ⟨?rel2356, rfl⟩
          exact ⟨b7, zb, rfl, HF7, HZ, HW4, Lib.hid ⟨HL7.out, HLZ.out⟩⟩
        case refine_6 =>
          go_simp
          have HW2 : Hid (Only (w2.heap.size ≤ ·) w2 (wy1.alloc (.cells #[.int .i64 0, .slice none 0 0] 71))) := Lib.hid (HW1.out.alloc (fun _ h => h) _)
          have HB7 : Hid (Blk (wy1.alloc (.cells #[.int .i64 0, .slice none 0 0] 71)) wy1.heap.size 71 [.int .i64 0, .slice none 0 0]) := Lib.hid (Blk.new wy1 _ _)
          have HL7 : Hid (w2.heap.size ≤ wy1.heap.size) := Lib.hid HW1.out.size
          clear hHeld
          refine hK.out _ _ (KP.out _ HW2.out) (fun hHeld => ?_)
          clear hK K
          try simp only [Act.put, lsa, lsz, lss]
          generalize hwz : (wy1.alloc (.cells #[.int .i64 0, .slice none 0 0] 71)) = wy2 at HW2 HB7 hHeld ⊢
          clear hwz
          generalize hgz : wy1.heap.size = b7 at HB7 HL7 ⊢
          clear hgz
          refine wpAnyL_ready (rs := [3]) (by kernel_rfl) (by kernel_rfl) (by simp) ?_
          refine AllReadyL.cons (o := ?_) ?_ (fun K hK => ?_) AllReadyL.nil
          case refine_2 => (simp only [List.getElem?_cons_succ, List.getElem?_cons_zero]; rfl)
          go_simp
          have HW3 : Hid (Only (w2.heap.size ≤ ·) w2 (wy2.alloc (.cells Z.toArray 5))) := Lib.hid (HW2.out.alloc (fun _ h => h) _)
          have HZ : Hid (Blk (wy2.alloc (.cells Z.toArray 5)) wy2.heap.size 5 Z) := Lib.hid (by have h1 := Blk.new wy2 5 Z; exact h1)
          have HLZ : Hid (w2.heap.size ≤ wy2.heap.size) := Lib.hid HW2.out.size
          replace HB7 := Lib.hid (HB7.out.alloc (.cells Z.toArray 5))
          clear hHeld
          refine hK.out _ _ (KP.out _ HW3.out) (fun hHeld => ?_)
          clear hK K
          try simp only [Act.put, lsa, lsz, lss]
          generalize hwz : (wy2.alloc (.cells Z.toArray 5)) = wy3 at HW3 HZ HB7 hHeld ⊢
          clear hwz
          generalize hgz : wy2.heap.size = zb at HZ HLZ ⊢
          clear hgz
          refine oneA 4 16 hsel (h := ?_)
          simp only [Act.put, lsa, lsz, lss]
          refine wpAnyL_ready (rs := [6]) (by kernel_rfl) (by kernel_rfl) (by simp) ?_
          refine AllReadyL.cons (o := ?_) ?_ (fun K hK => ?_) AllReadyL.nil
          case refine_2 => (simp only [List.getElem?_cons_succ, List.getElem?_cons_zero]; rfl)
          have z0 := HB7.out.cell 0
          have z1 := HB7.out.cell 1
          have m0 := HB7.out.frozen 0
          have m1 := HB7.out.frozen 1
          go_simp
          clear z0 z1 m0 m1
          have HW4 : Hid (Only (w2.heap.size ≤ ·) w2 ((wy3.setCell ⟨b7, 0, none⟩ (.int .i64 (sl x))).setCell ⟨b7, 1, none⟩ (.slice (some ⟨zb, 0, none⟩) 256 256))) := Lib.hid ((HW3.out.setCell (p := ⟨b7, 0, none⟩) HL7.out (.int .i64 (sl x))).setCell (p := ⟨b7, 1, none⟩) HL7.out (.slice (some ⟨zb, 0, none⟩) 256 256))
          have HF7 : Hid (Blk ((wy3.setCell ⟨b7, 0, none⟩ (.int .i64 (sl x))).setCell ⟨b7, 1, none⟩ (.slice (some ⟨zb, 0, none⟩) 256 256)) b7 71 [.int .i64 (sl x), .slice (some ⟨zb, 0, none⟩) 256 256]) := Lib.hid ((HB7.out.set_ 0 (.int .i64 (sl x))).set_ 1 (.slice (some ⟨zb, 0, none⟩) 256 256))
          replace HZ : Hid (Blk ((wy3.setCell ⟨b7, 0, none⟩ (.int .i64 (sl x))).setCell ⟨b7, 1, none⟩ (.slice (some ⟨zb, 0, none⟩) 256 256)) zb 5 Z) := Lib.hid ((HZ.out.far (p := ⟨b7, 0, none⟩) (HZ.out.ne HB7.out (by decide)) (.int .i64 (sl x))).far (p := ⟨b7, 1, none⟩) (HZ.out.ne HB7.out (by decide)) (.slice (some ⟨zb, 0, none⟩) 256 256))
          clear hHeld
          refine hK.out _ _ (KP.out _ HW4.out) (fun hHeld => ?_)
          clear hK K
          try simp only [Act.put, lsa, lsz, lss]
          generalize hwz : ((wy3.setCell ⟨b7, 0, none⟩ (.int .i64 (sl x))).setCell ⟨b7, 1, none⟩ (.slice (some ⟨zb, 0, none⟩) 256 256)) = wy4 at HW4 HF7 HZ hHeld ⊢
          clear hwz
          refine wpAnyL_done (by kernel_rfl) (by kernel_rfl) ?_ _
          clear hsel hHeld
          go_wp2_with (fail)
          refine Met.intro ?_
          go_step
          (repeat apply Exists.intro)
          refine ⟨?rel2536, rfl⟩
          exact ⟨b7, zb, rfl, HF7, HZ, HW4, Lib.hid ⟨HL7.out, HLZ.out⟩⟩
      case refine_6 =>
        go_simp
        have HW1 : Hid (Only (w2.heap.size ≤ ·) w2 (wy0.alloc (.cells Z.toArray 5))) := Lib.hid (HW0.out.alloc (fun _ h => h) _)
        have HZ : Hid (Blk (wy0.alloc (.cells Z.toArray 5)) wy0.heap.size 5 Z) := Lib.hid (by have h1 := Blk.new wy0 5 Z; exact h1)
        have HLZ : Hid (w2.heap.size ≤ wy0.heap.size) := Lib.hid HW0.out.size
        clear hHeld
        refine hK.out _ _ (KP.out _ HW1.out) (fun hHeld => ?_)
        clear hK K
        try simp only [Act.put, lsa, lsz, lss]
        generalize hwz : (wy0.alloc (.cells Z.toArray 5)) = wy1 at HW1 HZ hHeld ⊢
        clear hwz
        generalize hgz : wy0.heap.size = zb at HZ HLZ ⊢
        clear hgz
        refine wpAnyL_ready (rs := [2, 5]) (by kernel_rfl) (by kernel_rfl) (by simp) ?_
        refine AllReadyL.cons (o := ?_) ?_ (fun K hK => ?_) (AllReadyL.cons (o := ?_) ?_ (fun K hK => ?_) AllReadyL.nil)
        case refine_2 => (simp only [List.getElem?_cons_succ, List.getElem?_cons_zero]; rfl)
        case refine_5 => (simp only [List.getElem?_cons_succ, List.getElem?_cons_zero]; rfl)
        case refine_3 =>
          go_simp
          (go_at_call 46; (with_reducible refine (HSL.out _).mono ?_); rintro e wy2 ⟨rfl, ho⟩; have HW2 := Lib.hid (on_new HW1.out ho); replace HZ := Lib.hid (HZ.out.only ho (Nat.not_le.2 HZ.out.lt)); clear ho)
          go_wp2_with (fail)
          clear hHeld
          refine hK.out _ _ (KP.out _ HW2.out) (fun hHeld => ?_)
          clear hK K
          try simp only [Act.put, lsa, lsz, lss]
          refine oneA 4 16 hsel (h := ?_)
          simp only [Act.put, lsa, lsz, lss]
          refine wpAnyL_ready (rs := [5]) (by kernel_rfl) (by kernel_rfl) (by simp) ?_
          refine AllReadyL.cons (o := ?_) ?_ (fun K hK => ?_) AllReadyL.nil
          case refine_2 => (simp only [List.getElem?_cons_succ, List.getElem?_cons_zero]; rfl)
          go_simp
          have HW3 : Hid (Only (w2.heap.size ≤ ·) w2 (wy2.alloc (.cells #[.int .i64 0, .slice none 0 0] 71))) := Lib.hid (HW2.out.alloc (fun _ h => h) _)
          have HB7 : Hid (Blk (wy2.alloc (.cells #[.int .i64 0, .slice none 0 0] 71)) wy2.heap.size 71 [.int .i64 0, .slice none 0 0]) := Lib.hid (Blk.new wy2 _ _)
          have HL7 : Hid (w2.heap.size ≤ wy2.heap.size) := Lib.hid HW2.out.size
          replace HZ := Lib.hid (HZ.out.alloc (.cells #[.int .i64 0, .slice none 0 0] 71))
          clear hHeld
          refine hK.out _ _ (KP.out _ HW3.out) (fun hHeld => ?_)
          clear hK K
          try simp only [Act.put, lsa, lsz, lss]
          generalize hwz : (wy2.alloc (.cells #[.int .i64 0, .slice none 0 0] 71)) = wy3 at HW3 HB7 HZ hHeld ⊢
          clear hwz
          generalize hgz : wy2.heap.size = b7 at HB7 HL7 ⊢
          clear hgz
          refine wpAnyL_ready (rs := [6]) (by kernel_rfl) (by kernel_rfl) (by simp) ?_
          refine AllReadyL.cons (o := ?_) ?_ (fun K hK => ?_) AllReadyL.nil
          case refine_2 => (simp only [List.getElem?_cons_succ, List.getElem?_cons_zero]; rfl)
          have z0 := HB7.out.cell 0
          have z1 := HB7.out.cell 1
          have m0 := HB7.out.frozen 0
          have m1 := HB7.out.frozen 1
          go_simp
          clear z0 z1 m0 m1
          have HW4 : Hid (Only (w2.heap.size ≤ ·) w2 ((wy3.setCell ⟨b7, 0, none⟩ (.int .i64 (sl x))).setCell ⟨b7, 1, none⟩ (.slice (some ⟨zb, 0, none⟩) 256 256))) := Lib.hid ((HW3.out.setCell (p := ⟨b7, 0, none⟩) HL7.out (.int .i64 (sl x))).setCell (p := ⟨b7, 1, none⟩) HL7.out (.slice (some ⟨zb, 0, none⟩) 256 256))
          have HF7 : Hid (Blk ((wy3.setCell ⟨b7, 0, none⟩ (.int .i64 (sl x))).setCell ⟨b7, 1, none⟩ (.slice (some ⟨zb, 0, none⟩) 256 256)) b7 71 [.int .i64 (sl x), .slice (some ⟨zb, 0, none⟩) 256 256]) := Lib.hid ((HB7.out.set_ 0 (.int .i64 (sl x))).set_ 1 (.slice (some ⟨zb, 0, none⟩) 256 256))
          replace HZ : Hid (Blk ((wy3.setCell ⟨b7, 0, none⟩ (.int .i64 (sl x))).setCell ⟨b7, 1, none⟩ (.slice (some ⟨zb, 0, none⟩) 256 256)) zb 5 Z) := Lib.hid ((HZ.out.far (p := ⟨b7, 0, none⟩) (HZ.out.ne HB7.out (by decide)) (.int .i64 (sl x))).far (p := ⟨b7, 1, none⟩) (HZ.out.ne HB7.out (by decide)) (.slice (some ⟨zb, 0, none⟩) 256 256))
          clear hHeld
          refine hK.out _ _ (KP.out _ HW4.out) (fun hHeld => ?_)
          clear hK K
          try simp only [Act.put, lsa, lsz, lss]
          generalize hwz : ((wy3.setCell ⟨b7, 0, none⟩ (.int .i64 (sl x))).setCell ⟨b7, 1, none⟩ (.slice (some ⟨zb, 0, none⟩) 256 256)) = wy4 at HW4 HF7 HZ hHeld ⊢
          clear hwz
          refine wpAnyL_done (by kernel_rfl) (by kernel_rfl) ?_ _
          clear hsel hHeld
          go_wp2_with (fail)
          refine Met.intro ?_
          go_step
          (repeat apply Exists.intro)
          refine ⟨?rel3256, rfl⟩
          exact ⟨b7, zb, rfl, HF7, HZ, HW4, Lib.hid ⟨HL7.out, HLZ.out⟩⟩
        case refine_6 =>
          go_simp
          have HW2 : Hid (Only (w2.heap.size ≤ ·) w2 (wy1.alloc (.cells #[.int .i64 0, .slice none 0 0] 71))) := Lib.hid (HW1.out.alloc (fun _ h => h) _)
          have HB7 : Hid (Blk (wy1.alloc (.cells #[.int .i64 0, .slice none 0 0] 71)) wy1.heap.size 71 [.int .i64 0, .slice none 0 0]) := Lib.hid (Blk.new wy1 _ _)
          have HL7 : Hid (w2.heap.size ≤ wy1.heap.size) := Lib.hid HW1.out.size
          replace HZ := Lib.hid (HZ.out.alloc (.cells #[.int .i64 0, .slice none 0 0] 71))
          clear hHeld
          refine hK.out _ _ (KP.out _ HW2.out) (fun hHeld => ?_)
          clear hK K
          try simp only [Act.put, lsa, lsz, lss]
          generalize hwz : (wy1.alloc (.cells #[.int .i64 0, .slice none 0 0] 71)) = wy2 at HW2 HB7 HZ hHeld ⊢
          clear hwz
          generalize hgz : wy1.heap.size = b7 at HB7 HL7 ⊢
          clear hgz
          refine wpAnyL_ready (rs := [2]) (by kernel_rfl) (by kernel_rfl) (by simp) ?_
          refine AllReadyL.cons (o := ?_) ?_ (fun K hK => ?_) AllReadyL.nil
          case refine_2 => (simp only [List.getElem?_cons_succ, List.getElem?_cons_zero]; rfl)
          go_simp
          (go_at_call 46; (with_reducible refine (HSL.out _).mono ?_); rintro e wy3 ⟨rfl, ho⟩; have HW3 := Lib.hid (on_new HW2.out ho); replace HB7 := Lib.hid (HB7.out.only ho (Nat.not_le.2 HB7.out.lt)); replace HZ := Lib.hid (HZ.out.only ho (Nat.not_le.2 HZ.out.lt)); clear ho)
          go_wp2_with (fail)
          clear hHeld
          refine hK.out _ _ (KP.out _ HW3.out) (fun hHeld => ?_)
          clear hK K
          try simp only [Act.put, lsa, lsz, lss]
          refine oneA 4 16 hsel (h := ?_)
          simp only [Act.put, lsa, lsz, lss]
          refine wpAnyL_ready (rs := [6]) (by kernel_rfl) (by kernel_rfl) (by simp) ?_
          refine AllReadyL.cons (o := ?_) ?_ (fun K hK => ?_) AllReadyL.nil
          case refine_2 => (simp only [List.getElem?_cons_succ, List.getElem?_cons_zero]; rfl)
          have z0 := HB7.out.cell 0
          have z1 := HB7.out.cell 1
          have m0 := HB7.out.frozen 0
          have m1 := HB7.out.frozen 1
          go_simp
          clear z0 z1 m0 m1
          have HW4 : Hid (Only (w2.heap.size ≤ ·) w2 ((wy3.setCell ⟨b7, 0, none⟩ (.int .i64 (sl x))).setCell ⟨b7, 1, none⟩ (.slice (some ⟨zb, 0, none⟩) 256 256))) := Lib.hid ((HW3.out.setCell (p := ⟨b7, 0, none⟩) HL7.out (.int .i64 (sl x))).setCell (p := ⟨b7, 1, none⟩) HL7.out (.slice (some ⟨zb, 0, none⟩) 256 256))
          have HF7 : Hid (Blk ((wy3.setCell ⟨b7, 0, none⟩ (.int .i64 (sl x))).setCell ⟨b7, 1, none⟩ (.slice (some ⟨zb, 0, none⟩) 256 256)) b7 71 [.int .i64 (sl x), .slice (some ⟨zb, 0, none⟩) 256 256]) := Lib.hid ((HB7.out.set_ 0 (.int .i64 (sl x))).set_ 1 (.slice (some ⟨zb, 0, none⟩) 256 256))
          replace HZ : Hid (Blk ((wy3.setCell ⟨b7, 0, none⟩ (.int .i64 (sl x))).setCell ⟨b7, 1, none⟩ (.slice (some ⟨zb, 0, none⟩) 256 256)) zb 5 Z) := Lib.hid ((HZ.out.far (p := ⟨b7, 0, none⟩) (HZ.out.ne HB7.out (by decide)) (.int .i64 (sl x))).far (p := ⟨b7, 1, none⟩) (HZ.out.ne HB7.out (by decide)) (.slice (some ⟨zb, 0, none⟩) 256 256))
          clear hHeld
          refine hK.out _ _ (KP.out _ HW4.out) (fun hHeld => ?_)
          clear hK K
          try simp only [Act.put, lsa, lsz, lss]
          generalize hwz : ((wy3.setCell ⟨b7, 0, none⟩ (.int .i64 (sl x))).setCell ⟨b7, 1, none⟩ (.slice (some ⟨zb, 0, none⟩) 256 256)) = wy4 at HW4 HF7 HZ hHeld ⊢
          clear hwz
          refine wpAnyL_done (by kernel_rfl) (by kernel_rfl) ?_ _
          clear hsel hHeld
          go_wp2_with (fail)
          refine Met.intro ?_
          go_step
          (repeat apply Exists.intro)
          refine ⟨?rel3526, rfl⟩
          exact ⟨b7, zb, rfl, HF7, HZ, HW4, Lib.hid ⟨HL7.out, HLZ.out⟩⟩
      case refine_9 =>
        go_simp
        have HW1 : Hid (Only (w2.heap.size ≤ ·) w2 (wy0.alloc (.cells #[.int .i64 0, .slice none 0 0] 71))) := Lib.hid (HW0.out.alloc (fun _ h => h) _)
        have HB7 : Hid (Blk (wy0.alloc (.cells #[.int .i64 0, .slice none 0 0] 71)) wy0.heap.size 71 [.int .i64 0, .slice none 0 0]) := Lib.hid (Blk.new wy0 _ _)
        have HL7 : Hid (w2.heap.size ≤ wy0.heap.size) := Lib.hid HW0.out.size
        clear hHeld
        refine hK.out _ _ (KP.out _ HW1.out) (fun hHeld => ?_)
        clear hK K
        try simp only [Act.put, lsa, lsz, lss]
        generalize hwz : (wy0.alloc (.cells #[.int .i64 0, .slice none 0 0] 71)) = wy1 at HW1 HB7 hHeld ⊢
        clear hwz
        generalize hgz : wy0.heap.size = b7 at HB7 HL7 ⊢
        clear hgz
        refine wpAnyL_ready (rs := [2, 3]) (by kernel_rfl) (by kernel_rfl) (by simp) ?_
        refine AllReadyL.cons (o := ?_) ?_ (fun K hK => ?_) (AllReadyL.cons (o := ?_) ?_ (fun K hK => ?_) AllReadyL.nil)
        case refine_2 => (simp only [List.getElem?_cons_succ, List.getElem?_cons_zero]; rfl)
        case refine_5 => (simp only [List.getElem?_cons_succ, List.getElem?_cons_zero]; rfl)
        case refine_3 =>
          go_simp
          (go_at_call 46; (with_reducible refine (HSL.out _).mono ?_); rintro e wy2 ⟨rfl, ho⟩; have HW2 := Lib.hid (on_new HW1.out ho); replace HB7 := Lib.hid (HB7.out.only ho (Nat.not_le.2 HB7.out.lt)); clear ho)
          go_wp2_with (fail)
          clear hHeld
          refine hK.out _ _ (KP.out _ HW2.out) (fun hHeld => ?_)
          clear hK K
          try simp only [Act.put, lsa, lsz, lss]
          refine wpAnyL_ready (rs := [3]) (by kernel_rfl) (by kernel_rfl) (by simp) ?_
          refine AllReadyL.cons (o := ?_) ?_ (fun K hK => ?_) AllReadyL.nil
          case refine_2 => (simp only [List.getElem?_cons_succ, List.getElem?_cons_zero]; rfl)
          go_simp
          have HW3 : Hid (Only (w2.heap.size ≤ ·) w2 (wy2.alloc (.cells Z.toArray 5))) := Lib.hid (HW2.out.alloc (fun _ h => h) _)
          have HZ : Hid (Blk (wy2.alloc (.cells Z.toArray 5)) wy2.heap.size 5 Z) := Lib.hid (by have h1 := Blk.new wy2 5 Z; exact h1)
          have HLZ : Hid (w2.heap.size ≤ wy2.heap.size) := Lib.hid HW2.out.size
          replace HB7 := Lib.hid (HB7.out.alloc (.cells Z.toArray 5))
          clear hHeld
          refine hK.out _ _ (KP.out _ HW3.out) (fun hHeld => ?_)
          clear hK K
          try simp only [Act.put, lsa, lsz, lss]
          generalize hwz : (wy2.alloc (.cells Z.toArray 5)) = wy3 at HW3 HZ HB7 hHeld ⊢
          clear hwz
          generalize hgz : wy2.heap.size = zb at HZ HLZ ⊢
          clear hgz
          refine oneA 4 16 hsel (h := ?_)
          simp only [Act.put, lsa, lsz, lss]
          refine wpAnyL_ready (rs := [6]) (by kernel_rfl) (by kernel_rfl) (by simp) ?_
          refine AllReadyL.cons (o := ?_) ?_ (fun K hK => ?_) AllReadyL.nil
          case refine_2 => (simp only [List.getElem?_cons_succ, List.getElem?_cons_zero]; rfl)
          have z0 := HB7.out.cell 0
          have z1 := HB7.out.cell 1
          have m0 := HB7.out.frozen 0
          have m1 := HB7.out.frozen 1
          go_simp
          clear z0 z1 m0 m1
          have HW4 : Hid (Only (w2.heap.size ≤ ·) w2 ((wy3.setCell ⟨b7, 0, none⟩ (.int .i64 (sl x))).setCell ⟨b7, 1, none⟩ (.slice (some ⟨zb, 0, none⟩) 256 256))) := Lib.hid ((HW3.out.setCell (p := ⟨b7, 0, none⟩) HL7.out (.int .i64 (sl x))).setCell (p := ⟨b7, 1, none⟩) HL7.out (.slice (some ⟨zb, 0, none⟩) 256 256))
          have HF7 : Hid (Blk ((wy3.setCell ⟨b7, 0, none⟩ (.int .i64 (sl x))).setCell ⟨b7, 1, none⟩ (.slice (some ⟨zb, 0, none⟩) 256 256)) b7 71 [.int .i64 (sl x), .slice (some ⟨zb, 0, none⟩) 256 256]) := Lib.hid ((HB7.out.set_ 0 (.int .i64 (sl x))).set_ 1 (.slice (some ⟨zb, 0, none⟩) 256 256))
          replace HZ : Hid (Blk ((wy3.setCell ⟨b7, 0, none⟩ (.int .i64 (sl x))).setCell ⟨b7, 1, none⟩ (.slice (some ⟨zb, 0, none⟩) 256 256)) zb 5 Z) := Lib.hid ((HZ.out.far (p := ⟨b7, 0, none⟩) (HZ.out.ne HB7.out (by decide)) (.int .i64 (sl x))).far (p := ⟨b7, 1, none⟩) (HZ.out.ne HB7.out (by decide)) (.slice (some ⟨zb, 0, none⟩) 256 256))
          clear hHeld
          refine hK.out _ _ (KP.out _ HW4.out) (fun hHeld => ?_)
          clear hK K
          try simp only [Act.put, lsa, lsz, lss]
          generalize hwz : ((wy3.setCell ⟨b7, 0, none⟩ (.int .i64 (sl x))).setCell ⟨b7, 1, none⟩ (.slice (some ⟨zb, 0, none⟩) 256 256)) = wy4 at HW4 HF7 HZ hHeld ⊢
          clear hwz
          refine wpAnyL_done (by kernel_rfl) (by kernel_rfl) ?_ _
          clear hsel hHeld
          go_wp2_with (fail)
          refine Met.intro ?_
          go_step
          (repeat apply Exists.intro)
          refine ⟨?rel5236, rfl⟩
          exact ⟨b7, zb, rfl, HF7, HZ, HW4, Lib.hid ⟨HL7.out, HLZ.out⟩⟩
        case refine_6 =>
          go_simp
          have HW2 : Hid (Only (w2.heap.size ≤ ·) w2 (wy1.alloc (.cells Z.toArray 5))) := Lib.hid (HW1.out.alloc (fun _ h => h) _)
          have HZ : Hid (Blk (wy1.alloc (.cells Z.toArray 5)) wy1.heap.size 5 Z) := Lib.hid (by have h1 := Blk.new wy1 5 Z; exact h1)
          have HLZ : Hid (w2.heap.size ≤ wy1.heap.size) := Lib.hid HW1.out.size
          replace HB7 := Lib.hid (HB7.out.alloc (.cells Z.toArray 5))
          clear hHeld
          refine hK.out _ _ (KP.out _ HW2.out) (fun hHeld => ?_)
          clear hK K
          try simp only [Act.put, lsa, lsz, lss]
          generalize hwz : (wy1.alloc (.cells Z.toArray 5)) = wy2 at HW2 HZ HB7 hHeld ⊢
          clear hwz
          generalize hgz : wy1.heap.size = zb at HZ HLZ ⊢
          clear hgz
          refine wpAnyL_ready (rs := [2]) (by kernel_rfl) (by kernel_rfl) (by simp) ?_
          refine AllReadyL.cons (o := ?_) ?_ (fun K hK => ?_) AllReadyL.nil
          case refine_2 => (simp only [List.getElem?_cons_succ, List.getElem?_cons_zero]; rfl)
          go_simp
          (go_at_call 46; (with_reducible refine (HSL.out _).mono ?_); rintro e wy3 ⟨rfl, ho⟩; have HW3 := Lib.hid (on_new HW2.out ho); replace HB7 := Lib.hid (HB7.out.only ho (Nat.not_le.2 HB7.out.lt)); replace HZ := Lib.hid (HZ.out.only ho (Nat.not_le.2 HZ.out.lt)); clear ho)
          go_wp2_with (fail)
          clear hHeld
          refine hK.out _ _ (KP.out _ HW3.out) (fun hHeld => ?_)
          clear hK K
          try simp only [Act.put, lsa, lsz, lss]
          refine oneA 4 16 hsel (h := ?_)
          simp only [Act.put, lsa, lsz, lss]
          refine wpAnyL_ready (rs := [6]) (by kernel_rfl) (by kernel_rfl) (by simp) ?_
          refine AllReadyL.cons (o := ?_) ?_ (fun K hK => ?_) AllReadyL.nil
          case refine_2 => (simp only [List.getElem?_cons_succ, List.getElem?_cons_zero]; rfl)
          have z0 := HB7.out.cell 0
          have z1 := HB7.out.cell 1
          have m0 := HB7.out.frozen 0
          have m1 := HB7.out.frozen 1
          go_simp
          clear z0 z1 m0 m1
          have HW4 : Hid (Only (w2.heap.size ≤ ·) w2 ((wy3.setCell ⟨b7, 0, none⟩ (.int .i64 (sl x))).setCell ⟨b7, 1, none⟩ (.slice (some ⟨zb, 0, none⟩) 256 256))) := Lib.hid ((HW3.out.setCell (p := ⟨b7, 0, none⟩) HL7.out (.int .i64 (sl x))).setCell (p := ⟨b7, 1, none⟩) HL7.out (.slice (some ⟨zb, 0, none⟩) 256 256))
          have HF7 : Hid (Blk ((wy3.setCell ⟨b7, 0, none⟩ (.int .i64 (sl x))).setCell ⟨b7, 1, none⟩ (.slice (some ⟨zb, 0, none⟩) 256 256)) b7 71 [.int .i64 (sl x), .slice (some ⟨zb, 0, none⟩) 256 256]) := Lib.hid ((HB7.out.set_ 0 (.int .i64 (sl x))).set_ 1 (.slice (some ⟨zb, 0, none⟩) 256 256))
          replace HZ : Hid (Blk ((wy3.setCell ⟨b7, 0, none⟩ (.int .i64 (sl x))).setCell ⟨b7, 1, none⟩ (.slice (some ⟨zb, 0, none⟩) 256 256)) zb 5 Z) := Lib.hid ((HZ.out.far (p := ⟨b7, 0, none⟩) (HZ.out.ne HB7.out (by decide)) (.int .i64 (sl x))).far (p := ⟨b7, 1, none⟩) (HZ.out.ne HB7.out (by decide)) (.slice (some ⟨zb, 0, none⟩) 256 256))
          clear hHeld
          refine hK.out _ _ (KP.out _ HW4.out) (fun hHeld => ?_)
          clear hK K
          try simp only [Act.put, lsa, lsz, lss]
          generalize hwz : ((wy3.setCell ⟨b7, 0, none⟩ (.int .i64 (sl x))).setCell ⟨b7, 1, none⟩ (.slice (some ⟨zb, 0, none⟩) 256 256)) = wy4 at HW4 HF7 HZ hHeld ⊢
          clear hwz
          refine wpAnyL_done (by kernel_rfl) (by kernel_rfl) ?_ _
          clear hsel hHeld
          go_wp2_with (fail)
          refine Met.intro ?_
          go_step
          (repeat apply Exists.intro)
          refine ⟨?rel5326, rfl⟩
          exact ⟨b7, zb, rfl, HF7, HZ, HW4, Lib.hid ⟨HL7.out, HLZ.out⟩⟩
    case rest =>
      obtain ⟨b7, zb, rfl, HB7, HZ, HOC, HLL⟩ := hcut
      have HOWC := Lib.hid (on_new HOW.out HOC.out)
      have HB5C := Lib.hid (HB5.out.only HOC.out (Nat.not_le.2 HB5.out.lt))
      have HSZ : Hid (w.heap.size ≤ w2.heap.size) := Lib.hid HOW.out.size
      have HDW : Hid (∀ k, D k → k < w.heap.size) := Lib.hid HP.out.dat.lt
      have HPC : Hid (∀ W, Only (wc.heap.size ≤ ·) wc W → PAt W q dp d D) := Lib.hid (fun W hW => HP.out.later (on_new HOWC.out hW))
      have HRWS : Hid (SRw wrE D wc (.slice RA rn rc) ws) := Lib.hid (HROW.out.later HOWC.out)
      have HZS : Hid (Stab D wc (fun W => Src W (.slice (some ⟨zb, 0, none⟩) 256 256) z256)) := Lib.hid ((blk_stab HZ.out (fun hk => by have h1 := HDW.out _ hk; have h2 := HLL.out.2; have h3 := HSZ.out; omega)).imp fun W hW => by
        rw [HZZ.out, show List.replicate 256 z8 = cb z256 by simp [cb, z256, z8]] at hW
        have h1 := Txt.blk (A := some ⟨zb, 0, none⟩) (rest := []) (by rw [List.append_nil]; exact hW) 0 256 (by simp [z256]) (fun _ => rfl)
        exact ⟨some ⟨zb, 0, none⟩, 256, rfl, h1, (fun e => by cases e), by decide, by decide⟩)
      have HOKP : Hid (okM g ph t x r p l n = true ∧ 3 ≤ p ∧ p ≤ 16384) := Lib.hid (by
        have h1 := HRI2.out.symm
        unfold pgRight at h1
        rw [Bool.and_eq_true] at h1
        have h2 := of_decide_eq_true h1.1
        unfold okP at h2
        exact ⟨h1.1, by omega, by omega⟩)
      have HOKW : Hid (∀ y ∈ ws, OkW y) := Lib.hid (by
        have h1 := HRI2.out.symm
        unfold pgRight at h1
        rw [Bool.and_eq_true] at h1
        intro y hy
        have h2 := right_fit ws _ h1.2 y hy
        obtain ⟨a, m, ha, _, _, _, ham⟩ := fitW_facts h2
        have h3 := HOKP.out
        unfold OkW
        omega)
      have HSLO : Hid (OkW (sl x, z256) ∧ OkW (sl x, b)) := Lib.hid (by
        have h2 := of_decide_eq_true HOKP.out.1
        unfold okP at h2
        obtain ⟨k, rfl⟩ : ∃ k : Nat, x = k := ⟨x.toNat, by omega⟩
        have h3 : sl (k : Int) = ((k % 2 : Nat) : Int) := sl_pg (by omega)
        unfold OkW
        rw [h3]
        omega)
      have HENC : Hid (∀ W, Only (wc.heap.size ≤ ·) wc W → Calls Tryz.prog 45 #[.agg #[.int .i64 g, .int .i64 ph, .int .i64 t, .int .i64 x, .int .i64 r, .int .i64 p, .int .i64 l, .slice A n c]] W (GaveW W x b)) := Lib.hid (fun W hW => by
        rw [HBB.out]
        exact Pgenc_c W g ph t x r p l A n c (HG.out.later (on_new HOWC.out hW)) xs (HS.out.later (on_new HOWC.out hW)) HNE.out HI.out HOKP.out.1)
      have HLB : Hid (b.length = 256) := Lib.hid (by
        rw [HBB.out]
        exact (enc_back (by rw [← HNE.out]; exact HOKP.out.1)).2.2.2)
      have HW0 : Hid (Only (wc.heap.size ≤ ·) wc wc.drew) := Lib.hid ((Only.refl _ wc).drew)
      have KP : Hid (∀ W : World, Only (wc.heap.size ≤ ·) wc W → (fun W : World => W.cell? ⟨b5, 0, none⟩ = some (.int .i64 g) ∧ W.cell? ⟨b5, 1, none⟩ = some (.int .i64 ph) ∧ W.cell? ⟨b5, 2, none⟩ = some (.int .i64 t) ∧ W.cell? ⟨b5, 3, none⟩ = some (.int .i64 x) ∧ W.cell? ⟨b5, 4, none⟩ = some (.int .i64 r) ∧ W.cell? ⟨b5, 5, none⟩ = some (.int .i64 p) ∧ W.cell? ⟨b5, 6, none⟩ = some (.int .i64 l) ∧ W.cell? ⟨b5, 7, none⟩ = some (.slice A n c) ∧ W.cell? ⟨b7, 0, none⟩ = some (.int .i64 (sl x)) ∧ W.cell? ⟨b7, 1, none⟩ = some (.slice (some ⟨zb, 0, none⟩) 256 256)) W) := Lib.hid (fun W hW => by
        have h5 := HB5C.out.only hW (Nat.not_le.2 HB5C.out.lt)
        have h7 := HB7.out.only hW (Nat.not_le.2 HB7.out.lt)
        exact ⟨h5.cell 0, h5.cell 1, h5.cell 2, h5.cell 3, h5.cell 4, h5.cell 5, h5.cell 6, h5.cell 7, h7.cell 0, h7.cell 1⟩)
      have KP2 : Hid (∀ W W' : World, Only (wc.heap.size ≤ ·) wc W → Only (fun k => D k ∨ W.heap.size ≤ k) W W' → (fun W : World => W.cell? ⟨b5, 0, none⟩ = some (.int .i64 g) ∧ W.cell? ⟨b5, 1, none⟩ = some (.int .i64 ph) ∧ W.cell? ⟨b5, 2, none⟩ = some (.int .i64 t) ∧ W.cell? ⟨b5, 3, none⟩ = some (.int .i64 x) ∧ W.cell? ⟨b5, 4, none⟩ = some (.int .i64 r) ∧ W.cell? ⟨b5, 5, none⟩ = some (.int .i64 p) ∧ W.cell? ⟨b5, 6, none⟩ = some (.int .i64 l) ∧ W.cell? ⟨b5, 7, none⟩ = some (.slice A n c) ∧ W.cell? ⟨b7, 0, none⟩ = some (.int .i64 (sl x)) ∧ W.cell? ⟨b7, 1, none⟩ = some (.slice (some ⟨zb, 0, none⟩) 256 256)) W') := Lib.hid (fun W W' hW hW' => by
        have h5 := HB5C.out.only hW (Nat.not_le.2 HB5C.out.lt)
        have h7 := HB7.out.only hW (Nat.not_le.2 HB7.out.lt)
        have h8 := h5.only hW' (fun hk => hk.elim (fun hk => by have h1 := HDW.out _ hk; have h2 := HB5L.out; omega) (fun hk => by have h1 := h5.lt; omega))
        have h9 := h7.only hW' (fun hk => hk.elim (fun hk => by have h1 := HDW.out _ hk; have h2 := HLL.out.1; have h3 := HSZ.out; omega) (fun hk => by have h1 := h7.lt; omega))
        exact ⟨h8.cell 0, h8.cell 1, h8.cell 2, h8.cell 3, h8.cell 4, h8.cell 5, h8.cell 6, h8.cell 7, h9.cell 0, h9.cell 1⟩)
      go_upto_region 4 with (fail)
      have HSX := Lib.hid (KP.out _ HW0.out)
      replace HRWS := Lib.hid (SRw.later HRWS.out HW0.out)
      replace HZS := Lib.hid (Stab.later HZS.out HW0.out)
      refine wp_region_list (B := [false, false, false, false, false, false, false, false, false, false, false, false, false, false]) (S := (fun W : World => W.cell? ⟨b5, 0, none⟩ = some (.int .i64 g) ∧ W.cell? ⟨b5, 1, none⟩ = some (.int .i64 ph) ∧ W.cell? ⟨b5, 2, none⟩ = some (.int .i64 t) ∧ W.cell? ⟨b5, 3, none⟩ = some (.int .i64 x) ∧ W.cell? ⟨b5, 4, none⟩ = some (.int .i64 r) ∧ W.cell? ⟨b5, 5, none⟩ = some (.int .i64 p) ∧ W.cell? ⟨b5, 6, none⟩ = some (.int .i64 l) ∧ W.cell? ⟨b5, 7, none⟩ = some (.slice A n c) ∧ W.cell? ⟨b7, 0, none⟩ = some (.int .i64 (sl x)) ∧ W.cell? ⟨b7, 1, none⟩ = some (.slice (some ⟨zb, 0, none⟩) 256 256))) (by kernel_rfl) (by kernel_rfl) (by kernel_rfl) HSX.out (fun hsel hHeld => ?_)
      generalize hwz : World.drew _ = wy0 at HW0 HSX HRWS HZS hHeld ⊢
      clear hwz
      refine oneA 0 17 hsel (h := ?_)
      simp only [Act.put, lsa, lsz, lss]
      refine oneA 1 18 hsel (h := ?_)
      simp only [Act.put, lsa, lsz, lss]
      refine oneA 2 19 hsel (h := ?_)
      simp only [Act.put, lsa, lsz, lss]
      refine oneA 3 20 hsel (h := ?_)
      simp only [Act.put, lsa, lsz, lss]
      refine oneA 5 22 hsel (h := ?_)
      simp only [Act.put, lsa, lsz, lss]
      refine oneA 8 25 hsel (h := ?_)
      simp only [Act.put, lsa, lsz, lss]
      refine wpAnyL_ready (rs := [4]) (by kernel_rfl) (by kernel_rfl) (by simp) ?_
      refine AllReadyL.cons (o := ?_) ?_ (fun K hK => ?_) AllReadyL.nil
      case refine_2 => (simp only [List.getElem?_cons_succ, List.getElem?_cons_zero]; rfl)
      go_simp
      have HW1 : Hid (Only (wc.heap.size ≤ ·) wc (wy0.alloc (.cells #[.int .i64 (sl x), .slice (some ⟨zb, 0, none⟩) 256 256] 71))) := Lib.hid (HW0.out.alloc (fun _ h => h) _)
      have HNB : Hid (Blk (wy0.alloc (.cells #[.int .i64 (sl x), .slice (some ⟨zb, 0, none⟩) 256 256] 71)) wy0.heap.size 71 [.int .i64 (sl x), .slice (some ⟨zb, 0, none⟩) 256 256]) := Lib.hid (Blk.new wy0 _ _)
      have HND : Hid (¬ D wy0.heap.size) := Lib.hid (fun hk => by have h1 := HDW.out _ hk; have h2 := HOWC.out.size; have h3 := HW0.out.size; omega)
      replace HRWS := Lib.hid (SRw.later HRWS.out ((Only.refl _ wy0).alloc (fun _ h => h) (.cells #[.int .i64 (sl x), .slice (some ⟨zb, 0, none⟩) 256 256] 71)))
      replace HZS := Lib.hid (Stab.later HZS.out ((Only.refl _ wy0).alloc (fun _ h => h) (.cells #[.int .i64 (sl x), .slice (some ⟨zb, 0, none⟩) 256 256] 71)))
      have HS1 : Hid (SRw wrE D (wy0.alloc (.cells #[.int .i64 (sl x), .slice (some ⟨zb, 0, none⟩) 256 256] 71)) (.slice (some ⟨wy0.heap.size, 0, none⟩) 1 1) [(sl x, z256)]) := Lib.hid (srw_one (xs := z256) HNB.out HND.out HZS.out)
      clear HNB HND
      clear hHeld
      refine hK.out _ _ (KP.out _ HW1.out) (fun hHeld => ?_)
      clear hK K
      try simp only [Act.put, lsa, lsz, lss]
      generalize hwz : (wy0.alloc (.cells #[.int .i64 (sl x), .slice (some ⟨zb, 0, none⟩) 256 256] 71)) = wy1 at HW1 HRWS HZS HS1 hHeld ⊢
      clear hwz
      generalize hgz : wy0.heap.size = r1 at HS1 ⊢
      clear hgz
      refine wpAnyL_ready (rs := [6]) (by kernel_rfl) (by kernel_rfl) (by simp) ?_
      refine AllReadyL.cons (o := ?_) ?_ (fun K hK => ?_) AllReadyL.nil
      case refine_2 => (simp only [List.getElem?_cons_succ, List.getElem?_cons_zero]; rfl)
      go_simp
      have HW2 : Hid (Only (wc.heap.size ≤ ·) wc (wy1.alloc (.cells #[.slice (some ⟨r1, 0, none⟩) 1 1, .slice RA rn rc] 47))) := Lib.hid (HW1.out.alloc (fun _ h => h) _)
      have HNB : Hid (Blk (wy1.alloc (.cells #[.slice (some ⟨r1, 0, none⟩) 1 1, .slice RA rn rc] 47)) wy1.heap.size 47 [.slice (some ⟨r1, 0, none⟩) 1 1, .slice RA rn rc]) := Lib.hid (Blk.new wy1 _ _)
      have HND : Hid (¬ D wy1.heap.size) := Lib.hid (fun hk => by have h1 := HDW.out _ hk; have h2 := HOWC.out.size; have h3 := HW1.out.size; omega)
      replace HRWS := Lib.hid (SRw.later HRWS.out ((Only.refl _ wy1).alloc (fun _ h => h) (.cells #[.slice (some ⟨r1, 0, none⟩) 1 1, .slice RA rn rc] 47)))
      replace HZS := Lib.hid (Stab.later HZS.out ((Only.refl _ wy1).alloc (fun _ h => h) (.cells #[.slice (some ⟨r1, 0, none⟩) 1 1, .slice RA rn rc] 47)))
      replace HS1 := Lib.hid (SRw.later HS1.out ((Only.refl _ wy1).alloc (fun _ h => h) (.cells #[.slice (some ⟨r1, 0, none⟩) 1 1, .slice RA rn rc] 47)))
      have HR2 := HNB
      clear HNB HND
      clear hHeld
      refine hK.out _ _ (KP.out _ HW2.out) (fun hHeld => ?_)
      clear hK K
      try simp only [Act.put, lsa, lsz, lss]
      generalize hwz : (wy1.alloc (.cells #[.slice (some ⟨r1, 0, none⟩) 1 1, .slice RA rn rc] 47)) = wy2 at HW2 HRWS HZS HS1 HR2 hHeld ⊢
      clear hwz
      generalize hgz : wy1.heap.size = r2 at HR2 ⊢
      clear hgz
      refine wpAnyL_ready (rs := [7]) (by kernel_rfl) (by kernel_rfl) (by simp) ?_
      refine AllReadyL.cons (o := ?_) ?_ (fun K hK => ?_) AllReadyL.nil
      case refine_2 => (simp only [List.getElem?_cons_succ, List.getElem?_cons_zero]; rfl)
      have HCC := Lib.hid (concat_two wy2 D (fun k hk => by have h1 := HDW.out _ hk; have h2 := HOWC.out.size; have h3 := HW2.out.size; omega) r2 (some ⟨r1, 0, none⟩) RA 1 rn 1 rc [(sl x, z256)] ws HR2.out HS1.out HRWS.out (by omega) (by omega))
      go_simp
      (go_at_call 44; (with_reducible refine HCC.out.mono ?_); rintro e wy3 ⟨V, vc, rfl, hsv, ho⟩; have HW3 := Lib.hid (on_new HW2.out ho); replace HRWS := Lib.hid (SRw.later HRWS.out ho); replace HZS := Lib.hid (Stab.later HZS.out ho); replace HS1 := Lib.hid (SRw.later HS1.out ho); replace HR2 := Lib.hid (HR2.out.only ho (Nat.not_le.2 HR2.out.lt)); have HS24 := Lib.hid hsv; clear hsv ho)
      go_wp2_with (fail)
      clear hHeld
      refine hK.out _ _ (KP.out _ HW3.out) (fun hHeld => ?_)
      clear hK K
      try simp only [Act.put, lsa, lsz, lss]
      clear HCC
      refine wpAnyL_ready (rs := [9]) (by kernel_rfl) (by kernel_rfl) (by simp) ?_
      refine AllReadyL.cons (o := ?_) ?_ (fun K hK => ?_) AllReadyL.nil
      case refine_2 => (simp only [List.getElem?_cons_succ, List.getElem?_cons_zero]; rfl)
      go_simp
      (go_at_call 45; (with_reducible refine (HENC.out _ HW3.out).mono ?_); rintro e wy4 ⟨BA, bc, rfl, hnb, ho⟩; have HW4 := Lib.hid (on_new HW3.out ho); replace HRWS := Lib.hid (SRw.later HRWS.out ho); replace HZS := Lib.hid (Stab.later HZS.out ho); replace HS1 := Lib.hid (SRw.later HS1.out ho); replace HR2 := Lib.hid (HR2.out.only ho (Nat.not_le.2 HR2.out.lt)); replace HS24 := Lib.hid (SRw.later HS24.out ho); have HN26 : Hid (Stab D wy4 (fun W => Src W (.slice BA b.length bc) b)) := Lib.hid (hnb.stab (fun k hk => by have h1 := HDW.out _ hk; have h2 := HOWC.out.size; have h3 := HW3.out.size; omega)); clear hnb ho)
      go_wp2_with (fail)
      clear hHeld
      refine hK.out _ _ (KP.out _ HW4.out) (fun hHeld => ?_)
      clear hK K
      try simp only [Act.put, lsa, lsz, lss]
      refine wpAnyL_ready (rs := [10]) (by kernel_rfl) (by kernel_rfl) (by simp) ?_
      refine AllReadyL.cons (o := ?_) ?_ (fun K hK => ?_) AllReadyL.nil
      case refine_2 => (simp only [List.getElem?_cons_succ, List.getElem?_cons_zero]; rfl)
      go_simp
      have HW5 : Hid (Only (wc.heap.size ≤ ·) wc (wy4.alloc (.cells #[.int .i64 (sl x), .slice BA b.length bc] 71))) := Lib.hid (HW4.out.alloc (fun _ h => h) _)
      have HNB : Hid (Blk (wy4.alloc (.cells #[.int .i64 (sl x), .slice BA b.length bc] 71)) wy4.heap.size 71 [.int .i64 (sl x), .slice BA b.length bc]) := Lib.hid (Blk.new wy4 _ _)
      have HND : Hid (¬ D wy4.heap.size) := Lib.hid (fun hk => by have h1 := HDW.out _ hk; have h2 := HOWC.out.size; have h3 := HW4.out.size; omega)
      replace HRWS := Lib.hid (SRw.later HRWS.out ((Only.refl _ wy4).alloc (fun _ h => h) (.cells #[.int .i64 (sl x), .slice BA b.length bc] 71)))
      replace HZS := Lib.hid (Stab.later HZS.out ((Only.refl _ wy4).alloc (fun _ h => h) (.cells #[.int .i64 (sl x), .slice BA b.length bc] 71)))
      replace HS1 := Lib.hid (SRw.later HS1.out ((Only.refl _ wy4).alloc (fun _ h => h) (.cells #[.int .i64 (sl x), .slice BA b.length bc] 71)))
      replace HR2 := Lib.hid (HR2.out.only ((Only.refl _ wy4).alloc (fun _ h => h) (.cells #[.int .i64 (sl x), .slice BA b.length bc] 71)) (Nat.not_le.2 HR2.out.lt))
      replace HS24 := Lib.hid (SRw.later HS24.out ((Only.refl _ wy4).alloc (fun _ h => h) (.cells #[.int .i64 (sl x), .slice BA b.length bc] 71)))
      replace HN26 := Lib.hid (Stab.later HN26.out ((Only.refl _ wy4).alloc (fun _ h => h) (.cells #[.int .i64 (sl x), .slice BA b.length bc] 71)))
      have HS27 : Hid (SRw wrE D (wy4.alloc (.cells #[.int .i64 (sl x), .slice BA b.length bc] 71)) (.slice (some ⟨wy4.heap.size, 0, none⟩) 1 1) [(sl x, b)]) := Lib.hid (srw_one HNB.out HND.out HN26.out)
      clear HNB HND
      clear hHeld
      refine hK.out _ _ (KP.out _ HW5.out) (fun hHeld => ?_)
      clear hK K
      try simp only [Act.put, lsa, lsz, lss]
      generalize hwz : (wy4.alloc (.cells #[.int .i64 (sl x), .slice BA b.length bc] 71)) = wy5 at HW5 HRWS HZS HS1 HR2 HS24 HN26 HS27 hHeld ⊢
      clear hwz
      generalize hgz : wy4.heap.size = r3 at HS27 ⊢
      clear hgz
      refine wpAnyL_ready (rs := [11]) (by kernel_rfl) (by kernel_rfl) (by simp) ?_
      refine AllReadyL.cons (o := ?_) ?_ (fun K hK => ?_) AllReadyL.nil
      case refine_2 => (simp only [List.getElem?_cons_succ, List.getElem?_cons_zero]; rfl)
      go_simp
      have HW6 : Hid (Only (wc.heap.size ≤ ·) wc (wy5.alloc (.cells #[.slice V (1 + rn) vc, .slice (some ⟨r3, 0, none⟩) 1 1] 47))) := Lib.hid (HW5.out.alloc (fun _ h => h) _)
      have HNB : Hid (Blk (wy5.alloc (.cells #[.slice V (1 + rn) vc, .slice (some ⟨r3, 0, none⟩) 1 1] 47)) wy5.heap.size 47 [.slice V (1 + rn) vc, .slice (some ⟨r3, 0, none⟩) 1 1]) := Lib.hid (Blk.new wy5 _ _)
      have HND : Hid (¬ D wy5.heap.size) := Lib.hid (fun hk => by have h1 := HDW.out _ hk; have h2 := HOWC.out.size; have h3 := HW5.out.size; omega)
      replace HRWS := Lib.hid (SRw.later HRWS.out ((Only.refl _ wy5).alloc (fun _ h => h) (.cells #[.slice V (1 + rn) vc, .slice (some ⟨r3, 0, none⟩) 1 1] 47)))
      replace HZS := Lib.hid (Stab.later HZS.out ((Only.refl _ wy5).alloc (fun _ h => h) (.cells #[.slice V (1 + rn) vc, .slice (some ⟨r3, 0, none⟩) 1 1] 47)))
      replace HS1 := Lib.hid (SRw.later HS1.out ((Only.refl _ wy5).alloc (fun _ h => h) (.cells #[.slice V (1 + rn) vc, .slice (some ⟨r3, 0, none⟩) 1 1] 47)))
      replace HR2 := Lib.hid (HR2.out.only ((Only.refl _ wy5).alloc (fun _ h => h) (.cells #[.slice V (1 + rn) vc, .slice (some ⟨r3, 0, none⟩) 1 1] 47)) (Nat.not_le.2 HR2.out.lt))
      replace HS24 := Lib.hid (SRw.later HS24.out ((Only.refl _ wy5).alloc (fun _ h => h) (.cells #[.slice V (1 + rn) vc, .slice (some ⟨r3, 0, none⟩) 1 1] 47)))
      replace HN26 := Lib.hid (Stab.later HN26.out ((Only.refl _ wy5).alloc (fun _ h => h) (.cells #[.slice V (1 + rn) vc, .slice (some ⟨r3, 0, none⟩) 1 1] 47)))
      replace HS27 := Lib.hid (SRw.later HS27.out ((Only.refl _ wy5).alloc (fun _ h => h) (.cells #[.slice V (1 + rn) vc, .slice (some ⟨r3, 0, none⟩) 1 1] 47)))
      have HR4 := HNB
      clear HNB
      clear hHeld
      refine hK.out _ _ (KP.out _ HW6.out) (fun hHeld => ?_)
      clear hK K
      try simp only [Act.put, lsa, lsz, lss]
      generalize hwz : (wy5.alloc (.cells #[.slice V (1 + rn) vc, .slice (some ⟨r3, 0, none⟩) 1 1] 47)) = wy6 at HW6 HRWS HZS HS1 HR2 HS24 HN26 HS27 HR4 hHeld ⊢
      clear hwz
      generalize hgz : wy5.heap.size = r4 at HR4 HND ⊢
      clear hgz
      have HN4 := HND
      clear HND
      refine wpAnyL_ready (rs := [12]) (by kernel_rfl) (by kernel_rfl) (by simp) ?_
      refine AllReadyL.cons (o := ?_) ?_ (fun K hK => ?_) AllReadyL.nil
      case refine_2 => (simp only [List.getElem?_cons_succ, List.getElem?_cons_zero]; rfl)
      have HCW := Lib.hid (commit_write wy6 q dp d D (HPC.out _ HW6.out) p (by have h1 := HOKP.out; omega) r4 HN4.out V (some ⟨r3, 0, none⟩) (1 + rn) 1 vc 1 ([(sl x, z256)] ++ ws) [(sl x, b)] HR4.out HS24.out HS27.out (fun y hy => by rcases List.mem_append.1 hy with h1 | h1; exact (by rw [List.mem_singleton.1 h1]; exact HSLO.out.1); exact HOKW.out y h1) (fun y hy => by rw [List.mem_singleton.1 hy]; exact HSLO.out.2) (HRM.out.le (by have h1 := HLB.out; simp [costs, cost, z256]; omega)))
      obtain ⟨we, hwe⟩ : ∃ z, z = (wrP d p [[(sl x, z256)] ++ ws, [(sl x, b)]]).2 := ⟨_, rfl⟩
      rw [← hwe] at HCW
      have HWE := Lib.hid hwe
      clear hwe
      go_simp
      (go_at_call 43; (with_reducible refine HCW.out.mono ?_); rintro e wy7 ⟨rfl, hg⟩; have HGV := Lib.hid hg; clear hg)
      go_wp2_with (fail)
      clear hHeld
      refine hK.out _ _ (KP2.out _ _ HW6.out HGV.out.1) (fun hHeld => ?_)
      clear hK K
      try simp only [Act.put, lsa, lsz, lss]
      refine oneA 13 6 hsel (h := ?_)
      simp only [Act.put, lsa, lsz, lss]
      refine wpAnyL_done (by kernel_rfl) (by kernel_rfl) ?_ _
      clear hsel hHeld
      go_wp2_with (fail)
      go_ret
      rw [E.out]
      exact ⟨by rw [show wrP d p [(sl x, z256) :: ws, [(sl x, b)]] = wrP d p [[(sl x, z256)] ++ ws, [(sl x, b)]] from rfl, ← HWE.out]; rfl, PGave.trans ((on_new HOWC.out HW6.out).mono fun _ hk => .inr hk) (fun _ hk => .inl hk) HGV.out⟩
end Go.Proofs.YtbpldkhgiddmlaaGreatDoor
