/-
  PagerWrites: the walk, of a commit.
-/
import Derived.Test.YtbpldkhgiddmlaaGreatDoorPuv
set_option linter.unusedVariables false
namespace Go.Proofs.YtbpldkhgiddmlaaGreatDoor
open Go.RowKit

set_option maxRecDepth 100000 in
set_option maxHeartbeats 25600000 in
theorem pw_main_false (w : World) (hG : Gens w) (A : Option Addr) (n c : Nat) (xs : Bytes) (hs : Src w (.slice A n c) xs) (hne : n = xs.length) (RA : Option Addr) (rn rc : Nat) (ws : List Wt) (h : Wts w (.slice RA rn rc) ws) (hsum : ∀ y ∈ ws, y.2.length ≤ 140737488355328) (hI : ∀ y ∈ ws, I64v y.1) (g ph t x r p l : Int) (MA : Option Addr) (mn mc : Nat) (ms : Bytes) (hms : Src w (.slice MA mn mc) ms) (hmn : mn = ms.length) (hM : ∀ u ∈ [g, ph, t, x, r, p, l], I64 u) (lim fz : Int) (hfz : I64v fz) (hf : fewP ws p mn = true) (hn : ¬ 10240 < n) : Calls Tryz.prog 3 #[.slice A n c, .slice RA rn rc, .agg #[.int .i64 g, .int .i64 ph, .int .i64 t, .int .i64 x, .int .i64 r, .int .i64 p, .int .i64 l, .slice MA mn mc, .bool false, .int .i64 lim, .int .i64 fz]] w (Told w (.bool true)) := by
  obtain ⟨w1, hw1⟩ : ∃ W0, W0 = w.alloc (.cells #[.int .i64 g, .int .i64 ph, .int .i64 t, .int .i64 x, .int .i64 r, .int .i64 p, .int .i64 l, .slice MA mn mc, .bool false, .int .i64 lim, .int .i64 fz] 27) := ⟨_, rfl⟩
  have HOB : Hid (Only (w.heap.size ≤ ·) w w1) := Lib.hid (by rw [hw1]; exact (Only.refl _ w).alloc (fun _ h => h) _)
  have HA : Hid (Blk w1 w.heap.size 27 [.int .i64 g, .int .i64 ph, .int .i64 t, .int .i64 x, .int .i64 r, .int .i64 p, .int .i64 l, .slice MA mn mc, .bool false, .int .i64 lim, .int .i64 fz]) := Lib.hid (by rw [hw1]; exact Blk.new w 27 _)
  have HE1 := Lib.hid hw1
  obtain ⟨is, his⟩ : ∃ z, z = pgRight (okM g ph t x r p l mn) p ws := ⟨_, rfl⟩
  obtain ⟨a, ha⟩ : ∃ z, z = encB [g, ph, t, x - 1, r, p, l] ms := ⟨_, rfl⟩
  obtain ⟨b, hb⟩ : ∃ z, z = encB [g, ph, t, x, r, p, l] ms := ⟨_, rfl⟩
  obtain ⟨d0, hd0⟩ : ∃ z, z = (Dk.Dsk.load xs lim).arm fz := ⟨_, rfl⟩
  obtain ⟨dd, er, hEQ⟩ : ∃ dd er, goP false d0 (okM g ph t x r p l mn) p x ws a b = (dd, er) := ⟨_, _, rfl⟩
  have hff := pw_few hf
  have hru : Roomy d0 (cost ws + 1000) := by
    rw [hd0, pw_cost]
    exact ⟨by show 0 + _ ≤ _; omega, by show 0 + _ ≤ _; omega⟩
  have hrk : RoomK d0 (opsK false p x ws (List.replicate 256 0) (List.replicate 256 0)) := by
    have h9 := costK_ops false p x ws (List.replicate 256 0) (List.replicate 256 0) List.length_replicate List.length_replicate
    have h8 := pw_cost ws
    rw [hd0]
    exact ⟨by show 0 + _ ≤ _; omega, by show 0 + _ ≤ _; omega⟩
  have HFW : Hid (∀ W, Only (w1.heap.size ≤ ·) w1 W → Calls Tryz.prog 5 #[.slice RA rn rc, .agg #[.int .i64 g, .int .i64 ph, .int .i64 t, .int .i64 x, .int .i64 r, .int .i64 p, .int .i64 l, .slice MA mn mc]] W (Told W (.bool true))) := Lib.hid (fun W hW => by have h9 := Pgfew_w W g ph t x r p l MA mn mc RA rn rc ws (Rw.later h (on_new HOB.out hW)) hsum; rwa [hf] at h9)
  have HRR : Hid (∀ W, Only (w1.heap.size ≤ ·) w1 W → Calls Tryz.prog 15 #[.slice RA rn rc, .agg #[.int .i64 g, .int .i64 ph, .int .i64 t, .int .i64 x, .int .i64 r, .int .i64 p, .int .i64 l, .slice MA mn mc]] W (Told W (.bool is))) := Lib.hid (fun W hW => by have h9 := rPgRight_c W g ph t x r p l MA mn mc RA rn rc ws (Rw.later h (on_new HOB.out hW)) hI; rwa [← his] at h9)
  have HAL : Hid (∀ W, Only (w1.heap.size ≤ ·) w1 W → Calls Tryz.prog 6 #[] W (Told W (.bool true))) := Lib.hid fun W hW => Pgalive_c W (hG.later (on_new HOB.out hW))
  have HG1 := Lib.hid (hG.later HOB.out)
  have HXS : Hid (∀ W, Only (w1.heap.size ≤ ·) w1 W → Src W (.slice A n c) xs) := Lib.hid (fun W hW => hs.later (on_new HOB.out hW))
  have HMS : Hid (∀ W, Only (w1.heap.size ≤ ·) w1 W → Src W (.slice MA mn mc) ms) := Lib.hid (fun W hW => hms.later (on_new HOB.out hW))
  have HWS := Lib.hid h
  have HWW : Hid (∀ W, Only (w1.heap.size ≤ ·) w1 W → Wts W (.slice RA rn rc) ws) := Lib.hid (fun W hW => Rw.later h (on_new HOB.out hW))
  have HLN := Lib.hid h.len
  have HNE := Lib.hid hne
  have HMN := Lib.hid hmn
  have HMI := Lib.hid hM
  have HI := Lib.hid hI
  have HSU := Lib.hid hsum
  have HRN : Hid (rn ≤ 1000 ∧ rn ≤ 100) := Lib.hid (by have h9 := HLN.out; omega)
  have HRM := Lib.hid hru
  have HRK := Lib.hid hrk
  have HIS := Lib.hid his
  have HAB := Lib.hid (And.intro ha hb)
  have HEQ0 := Lib.hid hEQ
  have HEQ := Lib.hid (show cmP d0 (okM g ph t x r p l mn) p x ws (encB [g, ph, t, x, r, p, l] ms) = (dd, er) from by rw [ha, hb] at hEQ; exact hEQ)
  have HD0 := Lib.hid hd0
  have HFZ := Lib.hid hfz
  have HFZ2 : Hid (fz ≤ 9223372036854775807) := Lib.hid hfz.2
  have HN1 : Hid (n ≤ 10240) := Lib.hid (by omega)
  have hn2 : ¬ 10240 < (n : Int) := by omega
  clear hG hs hne h hsum hI hms hmn hM hfz hf hn his ha hb hd0 hEQ hff hru hrk hw1
  obtain ⟨i0, i1, i2, i3, i4, i5, i6, i7, i8, i9, i10⟩ := blk_eleven HA.out
  have HX : Hid (Only (w1.heap.size ≤ ·) w1 w1) := Lib.hid (Only.refl _ _)
  go_enter Tryz.func3, Tryz.ntmps3
  go_upto_region 1 with (fail)
  rw [← HE1.out]
  clear HE1
  go_upto_region 3 with (go_at_call 5; (with_reducible refine (HFW.out _ HX.out).mono ?_); rintro e wa ⟨rfl, ho⟩; (replace HX := Lib.hid (on_new HX.out ho)); clear ho i0 i1 i2 i3 i4 i5 i6 i7 i8 i9 i10; obtain ⟨i0, i1, i2, i3, i4, i5, i6, i7, i8, i9, i10⟩ := blk_eleven (HA.out.only HX.out (Nat.not_le.2 HA.out.lt)))
  obtain ⟨dl, hdl⟩ : ∃ z, z = Dk.Dsk.load xs lim := ⟨_, rfl⟩
  obtain ⟨L0, hL0⟩ : ∃ z : Int, z = (Dk.cut lim : Nat) := ⟨_, rfl⟩
  obtain ⟨bn0, hbn0⟩ : ∃ z, z = (Dk.Dsk.load xs lim).dur.length := ⟨_, rfl⟩
  have HKL : Hid (∀ (D : Nat → Prop) (W : World), (∀ k, D k → k < W.heap.size) → Only (w1.heap.size ≤ ·) w1 W → Calls Tryz.prog 8 #[.slice A n c, .int .i64 lim] W fun e w' => ∃ BA bc, e = .returned (.agg #[.int .i64 L0, .slice BA bn0 bc, .slice none 0 0, .int .i64 0, .int .i64 (-1), .bool false]) ∧ KAt D w' (.agg #[.int .i64 L0, .slice BA bn0 bc, .slice none 0 0, .int .i64 0, .int .i64 (-1), .bool false]) dl ∧ Only (W.heap.size ≤ ·) W w') := Lib.hid (fun D W hD hW => by
    have h9 := kload_d D W hD A n c xs lim (HXS.out W hW) HNE.out.symm (by have h9 := HN1.out; omega)
    rw [hdl, hL0, hbn0]
    exact h9)
  have HDL : Hid (∀ (W : World), Only (w1.heap.size ≤ ·) w1 W → Calls Tryz.prog 7 #[.slice A n c, .int .i64 lim] W fun e w' => ∃ p D, e = .returned (.pointer (some ⟨p, 0, none⟩)) ∧ DAt w' p dl D ∧ (∀ k, D k → W.heap.size ≤ k) ∧ Only (W.heap.size ≤ ·) W w') := Lib.hid (fun W hW => by
    rw [hdl]
    exact pw_dload W A n c xs (HXS.out W hW) lim)
  have HDZ : Hid (dl.down = false ∧ d0 = dl.arm fz) := Lib.hid ⟨by rw [hdl]; rfl, by rw [hdl, HD0.out]⟩
  clear hdl hL0 hbn0
  go_cut [7, 8] from 25 to 33 (fun y7 y8 wz => ∃ (dp b8 : Nat) (D : Nat → Prop) (BA0 : Option Addr) (bc0 : Nat), y7 = .pointer (some ⟨dp, 0, none⟩) ∧ y8 = .pointer (some ⟨b8, 0, none⟩) ∧ Hid (DAt wz dp dl D) ∧ Hid (∀ k, D k → w1.heap.size ≤ k) ∧ Hid (∀ k, D k → k ≠ b8) ∧ Hid (w1.heap.size ≤ b8) ∧ Hid (Blk wz b8 34 [.int .i64 L0, .slice BA0 bn0 bc0, .slice none 0 0, .int .i64 0, .int .i64 (-1), .bool false]) ∧ Hid (KAt (fun k => D k ∨ k = b8) wz (.agg #[.int .i64 L0, .slice BA0 bn0 bc0, .slice none 0 0, .int .i64 0, .int .i64 (-1), .bool false]) dl) ∧ Hid (Only (w1.heap.size ≤ ·) w1 wz))
  case first =>
    have KS : Hid (∀ W : World, Only (w1.heap.size ≤ ·) w1 W → (fun W : World => W.cell? ⟨w.heap.size, 9, none⟩ = some (.int .i64 lim)) W) := Lib.hid (fun W hW => (HA.out.only hW (Nat.not_le.2 HA.out.lt)).cell 9)
    clear i0 i1 i2 i3 i4 i5 i6 i7 i8 i9 i10
    have HXwv : Hid (Only (w1.heap.size ≤ ·) w1 _) := Lib.hid HX.out.drew
    have HSV := Lib.hid (KS.out _ HXwv.out)
    refine wp_region_list (B := [false, false, false, false, false, false, false, false, false, false, false]) (S := (fun W : World => W.cell? ⟨w.heap.size, 9, none⟩ = some (.int .i64 lim))) (by kernel_rfl) (by kernel_rfl) (by kernel_rfl) HSV.out (fun hsel hHeld => ?_)
    generalize hwz : World.drew _ = wv at HXwv HSV hHeld ⊢
    clear hwz
    refine oneA 0 25 hsel (h := ?_)
    simp only [Act.put, lsa, lsz, lss]
    refine oneA 1 26 hsel (h := ?_)
    simp only [Act.put, lsa, lsz, lss]
    refine oneA 2 27 hsel (h := ?_)
    simp only [Act.put, lsa, lsz, lss]
    refine oneA 4 29 hsel (h := ?_)
    simp only [Act.put, lsa, lsz, lss]
    refine oneA 5 30 hsel (h := ?_)
    simp only [Act.put, lsa, lsz, lss]
    refine oneA 6 31 hsel (h := ?_)
    simp only [Act.put, lsa, lsz, lss]
    refine wpAnyL_ready (rs := [3, 8]) (by kernel_rfl) (by kernel_rfl) (by simp) ?_
    refine AllReadyL.cons (o := ?_) ?_ (fun K hK => ?_) (AllReadyL.cons (o := ?_) ?_ (fun K hK => ?_) AllReadyL.nil)
    case refine_2 => (simp only [List.getElem?_cons_succ, List.getElem?_cons_zero]; rfl)
    case refine_5 => (simp only [List.getElem?_cons_succ, List.getElem?_cons_zero]; rfl)
    case refine_3 =>
      go_simp
      (go_at_call 7; (with_reducible refine (HDL.out _ HXwv.out).mono ?_); rintro e wvx ⟨dp, D, rfl, hd, h0, ho⟩; have HD2 := Lib.hid hd; have HN2 : Hid (∀ k', D k' → w1.heap.size ≤ k') := Lib.hid (fun k' hk' => Nat.le_trans HXwv.out.size (h0 k' hk')); have HXwvx := Lib.hid (on_new HXwv.out ho); clear hd h0 ho)
      go_wp2_with (fail)
      clear hHeld
      refine hK.out _ _ (KS.out _ HXwvx.out) (fun hHeld => ?_)
      clear hK K
      try simp only [Act.put, lsa, lsz, lss]
      refine wpAnyL_ready (rs := [7, 8]) (by kernel_rfl) (by kernel_rfl) (by simp) ?_
      refine AllReadyL.cons (o := ?_) ?_ (fun K hK => ?_) (AllReadyL.cons (o := ?_) ?_ (fun K hK => ?_) AllReadyL.nil)
      case refine_2 => (simp only [List.getElem?_cons_succ, List.getElem?_cons_zero]; rfl)
      case refine_5 => (simp only [List.getElem?_cons_succ, List.getElem?_cons_zero]; rfl)
      case refine_3 =>
        go_simp
        (go_at_call 8; (with_reducible refine (HKL.out D _ HD2.out.lt HXwvx.out).mono ?_); rintro e wvxx ⟨BA0, bc0, rfl, hk, ho⟩; have HK3 := Lib.hid hk; have HXwvxx := Lib.hid (on_new HXwvx.out ho); (replace HD2 := Lib.hid (HD2.out.later ho)); clear hk ho)
        go_wp2_with (fail)
        clear hHeld
        refine hK.out _ _ (KS.out _ HXwvxx.out) (fun hHeld => ?_)
        clear hK K
        try simp only [Act.put, lsa, lsz, lss]
        refine wpAnyL_ready (rs := [8]) (by kernel_rfl) (by kernel_rfl) (by simp) ?_
        refine AllReadyL.cons (o := ?_) ?_ (fun K hK => ?_) AllReadyL.nil
        case refine_2 => (simp only [List.getElem?_cons_succ, List.getElem?_cons_zero]; rfl)
        go_simp
        have HXwvxxx : Hid (Only (w1.heap.size ≤ ·) w1 (wvxx.alloc (.cells #[.int .i64 0, .slice none 0 0, .slice none 0 0, .int .i64 0, .int .i64 0, .bool false] 34))) := Lib.hid (on_new HXwvxx.out ((Only.refl (wvxx.heap.size ≤ ·) wvxx).alloc (fun _ h => h) (.cells #[.int .i64 0, .slice none 0 0, .slice none 0 0, .int .i64 0, .int .i64 0, .bool false] 34)))
        have HB8 : Hid (Blk (wvxx.alloc (.cells #[.int .i64 0, .slice none 0 0, .slice none 0 0, .int .i64 0, .int .i64 0, .bool false] 34)) wvxx.heap.size 34 [.int .i64 0, .slice none 0 0, .slice none 0 0, .int .i64 0, .int .i64 0, .bool false]) := Lib.hid (Blk.new wvxx _ _)
        have HG8 : Hid (w1.heap.size ≤ wvxx.heap.size) := Lib.hid HXwvxx.out.size
        have HNB : Hid (∀ k', D k' → k' ≠ wvxx.heap.size) := Lib.hid (fun k' hk' e => by have h8 := HD2.out.lt k' hk'; omega)
        replace HD2 := Lib.hid (HD2.out.later ((Only.refl (wvxx.heap.size ≤ ·) wvxx).alloc (fun _ h => h) (.cells #[.int .i64 0, .slice none 0 0, .slice none 0 0, .int .i64 0, .int .i64 0, .bool false] 34)))
        replace HK3 : Hid (KAt (fun k => D k ∨ k = wvxx.heap.size) (wvxx.alloc (.cells #[.int .i64 0, .slice none 0 0, .slice none 0 0, .int .i64 0, .int .i64 0, .bool false] 34)) _ _) := Lib.hid (HK3.out.step ((Only.refl _ wvxx).alloc (fun _ h => .inr h) (.cells #[.int .i64 0, .slice none 0 0, .slice none 0 0, .int .i64 0, .int .i64 0, .bool false] 34)) (fun k hk => hk.imp id fun h => Nat.le_of_eq h.symm))
        clear hHeld
        refine hK.out _ _ (KS.out _ HXwvxxx.out) (fun hHeld => ?_)
        clear hK K
        try simp only [Act.put, lsa, lsz, lss]
        generalize hwz : (wvxx.alloc (.cells #[.int .i64 0, .slice none 0 0, .slice none 0 0, .int .i64 0, .int .i64 0, .bool false] 34)) = wvxxx at HXwvxxx HB8 HD2 HK3 hHeld ⊢
        clear hwz
        generalize hbz : wvxx.heap.size = b8 at HB8 HG8 HNB HK3 ⊢
        clear hbz
        refine oneA 9 7 hsel (h := ?_)
        simp only [Act.put, lsa, lsz, lss]
        refine wpAnyL_ready (rs := [10]) (by kernel_rfl) (by kernel_rfl) (by simp) ?_
        refine AllReadyL.cons (o := ?_) ?_ (fun K hK => ?_) AllReadyL.nil
        case refine_2 => (simp only [List.getElem?_cons_succ, List.getElem?_cons_zero]; rfl)
        obtain ⟨r0, r1, r2, r3, r4, r5⟩ := blk_six HB8.out
        have f0 := HB8.out.frozen 0
        have f1 := HB8.out.frozen 1
        have f2 := HB8.out.frozen 2
        have f3 := HB8.out.frozen 3
        have f4 := HB8.out.frozen 4
        have f5 := HB8.out.frozen 5
        go_simp
        clear r0 r1 r2 r3 r4 r5 f0 f1 f2 f3 f4 f5
        have hk := kd_set (a' := .int .i64 L0) (b' := .slice BA0 bn0 bc0) (c' := .slice none 0 0) (d' := .int .i64 0) (e' := .int .i64 (-1)) (f' := .bool false) HB8.out
        generalize hw7 : (((((wvxxx.setCell ⟨b8, 0, none⟩ (.int .i64 L0)).setCell ⟨b8, 1, none⟩ (.slice BA0 bn0 bc0)).setCell ⟨b8, 2, none⟩ (.slice none 0 0)).setCell ⟨b8, 3, none⟩ (.int .i64 0)).setCell ⟨b8, 4, none⟩ (.int .i64 (-1))).setCell ⟨b8, 5, none⟩ (.bool false) = wvxxxx at hk ⊢
        clear hw7
        replace HB8 := Lib.hid hk.1
        have HS8 : Hid (Only (fun k => k = b8) wvxxx wvxxxx) := Lib.hid hk.2
        clear hk
        replace HK3 := Lib.hid (HK3.out.step (D' := (fun k => D k ∨ k = b8)) (HS8.out.mono fun k hk => .inl (.inr hk)) (fun _ h => .inl h))
        replace HD2 : Hid (DAt wvxxxx dp dl D) := Lib.hid ⟨HD2.out.holds.keep HS8.out (fun k hk _ e => HNB.out k hk e), fun k hk => Nat.lt_of_lt_of_le (HD2.out.lt k hk) HS8.out.size⟩
        have HXwvxxxx : Hid (Only (w1.heap.size ≤ ·) w1 wvxxxx) := Lib.hid (HXwvxxx.out.trans (HS8.out.mono fun k hk => by rw [show k = b8 from hk]; exact HG8.out))
        clear hHeld
        refine hK.out _ _ (KS.out _ HXwvxxxx.out) (fun hHeld => ?_)
        clear hK K
        try simp only [Act.put, lsa, lsz, lss]
        refine wpAnyL_done (by kernel_rfl) (by kernel_rfl) ?_ _
        clear hsel hHeld
        go_wp2_with (fail)
        refine Met.intro ?_
        go_step
        (repeat apply Exists.intro)
        refine ⟨?relwvxxxx37810, rfl⟩
        exact ⟨dp, b8, D, BA0, bc0, rfl, rfl, HD2, HN2, HNB, HG8, HB8, HK3, HXwvxxxx⟩
      case refine_6 =>
        go_simp
        have HXwvxx : Hid (Only (w1.heap.size ≤ ·) w1 (wvx.alloc (.cells #[.int .i64 0, .slice none 0 0, .slice none 0 0, .int .i64 0, .int .i64 0, .bool false] 34))) := Lib.hid (on_new HXwvx.out ((Only.refl (wvx.heap.size ≤ ·) wvx).alloc (fun _ h => h) (.cells #[.int .i64 0, .slice none 0 0, .slice none 0 0, .int .i64 0, .int .i64 0, .bool false] 34)))
        have HB8 : Hid (Blk (wvx.alloc (.cells #[.int .i64 0, .slice none 0 0, .slice none 0 0, .int .i64 0, .int .i64 0, .bool false] 34)) wvx.heap.size 34 [.int .i64 0, .slice none 0 0, .slice none 0 0, .int .i64 0, .int .i64 0, .bool false]) := Lib.hid (Blk.new wvx _ _)
        have HG8 : Hid (w1.heap.size ≤ wvx.heap.size) := Lib.hid HXwvx.out.size
        have HNB : Hid (∀ k', D k' → k' ≠ wvx.heap.size) := Lib.hid (fun k' hk' e => by have h8 := HD2.out.lt k' hk'; omega)
        replace HD2 := Lib.hid (HD2.out.later ((Only.refl (wvx.heap.size ≤ ·) wvx).alloc (fun _ h => h) (.cells #[.int .i64 0, .slice none 0 0, .slice none 0 0, .int .i64 0, .int .i64 0, .bool false] 34)))
        clear hHeld
        refine hK.out _ _ (KS.out _ HXwvxx.out) (fun hHeld => ?_)
        clear hK K
        try simp only [Act.put, lsa, lsz, lss]
        generalize hwz : (wvx.alloc (.cells #[.int .i64 0, .slice none 0 0, .slice none 0 0, .int .i64 0, .int .i64 0, .bool false] 34)) = wvxx at HXwvxx HB8 HD2 hHeld ⊢
        clear hwz
        generalize hbz : wvx.heap.size = b8 at HB8 HG8 HNB ⊢
        clear hbz
        refine wpAnyL_ready (rs := [7]) (by kernel_rfl) (by kernel_rfl) (by simp) ?_
        refine AllReadyL.cons (o := ?_) ?_ (fun K hK => ?_) AllReadyL.nil
        case refine_2 => (simp only [List.getElem?_cons_succ, List.getElem?_cons_zero]; rfl)
        go_simp
        (go_at_call 8; (with_reducible refine (HKL.out (fun k => D k ∨ k = b8) _ (fun k hk => hk.elim (HD2.out.lt k) (fun h => by rw [h]; exact HB8.out.lt)) HXwvxx.out).mono ?_); rintro e wvxxx ⟨BA0, bc0, rfl, hk, ho⟩; have HK3 := Lib.hid hk; have HXwvxxx := Lib.hid (on_new HXwvxx.out ho); (replace HD2 := Lib.hid (HD2.out.later ho)); (replace HB8 := Lib.hid (HB8.out.only ho (Nat.not_le.2 HB8.out.lt))); clear hk ho)
        go_wp2_with (fail)
        clear hHeld
        refine hK.out _ _ (KS.out _ HXwvxxx.out) (fun hHeld => ?_)
        clear hK K
        try simp only [Act.put, lsa, lsz, lss]
        refine oneA 9 7 hsel (h := ?_)
        simp only [Act.put, lsa, lsz, lss]
        refine wpAnyL_ready (rs := [10]) (by kernel_rfl) (by kernel_rfl) (by simp) ?_
        refine AllReadyL.cons (o := ?_) ?_ (fun K hK => ?_) AllReadyL.nil
        case refine_2 => (simp only [List.getElem?_cons_succ, List.getElem?_cons_zero]; rfl)
        obtain ⟨r0, r1, r2, r3, r4, r5⟩ := blk_six HB8.out
        have f0 := HB8.out.frozen 0
        have f1 := HB8.out.frozen 1
        have f2 := HB8.out.frozen 2
        have f3 := HB8.out.frozen 3
        have f4 := HB8.out.frozen 4
        have f5 := HB8.out.frozen 5
        go_simp
        clear r0 r1 r2 r3 r4 r5 f0 f1 f2 f3 f4 f5
        have hk := kd_set (a' := .int .i64 L0) (b' := .slice BA0 bn0 bc0) (c' := .slice none 0 0) (d' := .int .i64 0) (e' := .int .i64 (-1)) (f' := .bool false) HB8.out
        generalize hw7 : (((((wvxxx.setCell ⟨b8, 0, none⟩ (.int .i64 L0)).setCell ⟨b8, 1, none⟩ (.slice BA0 bn0 bc0)).setCell ⟨b8, 2, none⟩ (.slice none 0 0)).setCell ⟨b8, 3, none⟩ (.int .i64 0)).setCell ⟨b8, 4, none⟩ (.int .i64 (-1))).setCell ⟨b8, 5, none⟩ (.bool false) = wvxxxx at hk ⊢
        clear hw7
        replace HB8 := Lib.hid hk.1
        have HS8 : Hid (Only (fun k => k = b8) wvxxx wvxxxx) := Lib.hid hk.2
        clear hk
        replace HK3 := Lib.hid (HK3.out.step (D' := (fun k => D k ∨ k = b8)) (HS8.out.mono fun k hk => .inl (.inr hk)) (fun _ h => .inl h))
        replace HD2 : Hid (DAt wvxxxx dp dl D) := Lib.hid ⟨HD2.out.holds.keep HS8.out (fun k hk _ e => HNB.out k hk e), fun k hk => Nat.lt_of_lt_of_le (HD2.out.lt k hk) HS8.out.size⟩
        have HXwvxxxx : Hid (Only (w1.heap.size ≤ ·) w1 wvxxxx) := Lib.hid (HXwvxxx.out.trans (HS8.out.mono fun k hk => by rw [show k = b8 from hk]; exact HG8.out))
        clear hHeld
        refine hK.out _ _ (KS.out _ HXwvxxxx.out) (fun hHeld => ?_)
        clear hK K
        try simp only [Act.put, lsa, lsz, lss]
        refine wpAnyL_done (by kernel_rfl) (by kernel_rfl) ?_ _
        clear hsel hHeld
        go_wp2_with (fail)
        refine Met.intro ?_
        go_step
        (repeat apply Exists.intro)
        refine ⟨?relwvxxxx38710, rfl⟩
        exact ⟨dp, b8, D, BA0, bc0, rfl, rfl, HD2, HN2, HNB, HG8, HB8, HK3, HXwvxxxx⟩
    case refine_6 =>
      go_simp
      have HXwvx : Hid (Only (w1.heap.size ≤ ·) w1 (wv.alloc (.cells #[.int .i64 0, .slice none 0 0, .slice none 0 0, .int .i64 0, .int .i64 0, .bool false] 34))) := Lib.hid (on_new HXwv.out ((Only.refl (wv.heap.size ≤ ·) wv).alloc (fun _ h => h) (.cells #[.int .i64 0, .slice none 0 0, .slice none 0 0, .int .i64 0, .int .i64 0, .bool false] 34)))
      have HB8 : Hid (Blk (wv.alloc (.cells #[.int .i64 0, .slice none 0 0, .slice none 0 0, .int .i64 0, .int .i64 0, .bool false] 34)) wv.heap.size 34 [.int .i64 0, .slice none 0 0, .slice none 0 0, .int .i64 0, .int .i64 0, .bool false]) := Lib.hid (Blk.new wv _ _)
      have HG8 : Hid (w1.heap.size ≤ wv.heap.size) := Lib.hid HXwv.out.size
      clear hHeld
      refine hK.out _ _ (KS.out _ HXwvx.out) (fun hHeld => ?_)
      clear hK K
      try simp only [Act.put, lsa, lsz, lss]
      generalize hwz : (wv.alloc (.cells #[.int .i64 0, .slice none 0 0, .slice none 0 0, .int .i64 0, .int .i64 0, .bool false] 34)) = wvx at HXwvx HB8 hHeld ⊢
      clear hwz
      generalize hbz : wv.heap.size = b8 at HB8 HG8 ⊢
      clear hbz
      refine wpAnyL_ready (rs := [3]) (by kernel_rfl) (by kernel_rfl) (by simp) ?_
      refine AllReadyL.cons (o := ?_) ?_ (fun K hK => ?_) AllReadyL.nil
      case refine_2 => (simp only [List.getElem?_cons_succ, List.getElem?_cons_zero]; rfl)
      go_simp
      (go_at_call 7; (with_reducible refine (HDL.out _ HXwvx.out).mono ?_); rintro e wvxx ⟨dp, D, rfl, hd, h0, ho⟩; have HD2 := Lib.hid hd; have HN2 : Hid (∀ k', D k' → w1.heap.size ≤ k') := Lib.hid (fun k' hk' => Nat.le_trans HXwvx.out.size (h0 k' hk')); have HXwvxx := Lib.hid (on_new HXwvx.out ho); have HNB : Hid (∀ k', D k' → k' ≠ b8) := Lib.hid (fun k' hk' e => by have h8 := HB8.out.lt; have h7 := h0 k' hk'; omega); (replace HB8 := Lib.hid (HB8.out.only ho (Nat.not_le.2 HB8.out.lt))); clear hd h0 ho)
      go_wp2_with (fail)
      clear hHeld
      refine hK.out _ _ (KS.out _ HXwvxx.out) (fun hHeld => ?_)
      clear hK K
      try simp only [Act.put, lsa, lsz, lss]
      refine wpAnyL_ready (rs := [7]) (by kernel_rfl) (by kernel_rfl) (by simp) ?_
      refine AllReadyL.cons (o := ?_) ?_ (fun K hK => ?_) AllReadyL.nil
      case refine_2 => (simp only [List.getElem?_cons_succ, List.getElem?_cons_zero]; rfl)
      go_simp
      (go_at_call 8; (with_reducible refine (HKL.out (fun k => D k ∨ k = b8) _ (fun k hk => hk.elim (HD2.out.lt k) (fun h => by rw [h]; exact HB8.out.lt)) HXwvxx.out).mono ?_); rintro e wvxxx ⟨BA0, bc0, rfl, hk, ho⟩; have HK3 := Lib.hid hk; have HXwvxxx := Lib.hid (on_new HXwvxx.out ho); (replace HD2 := Lib.hid (HD2.out.later ho)); (replace HB8 := Lib.hid (HB8.out.only ho (Nat.not_le.2 HB8.out.lt))); clear hk ho)
      go_wp2_with (fail)
      clear hHeld
      refine hK.out _ _ (KS.out _ HXwvxxx.out) (fun hHeld => ?_)
      clear hK K
      try simp only [Act.put, lsa, lsz, lss]
      refine oneA 9 7 hsel (h := ?_)
      simp only [Act.put, lsa, lsz, lss]
      refine wpAnyL_ready (rs := [10]) (by kernel_rfl) (by kernel_rfl) (by simp) ?_
      refine AllReadyL.cons (o := ?_) ?_ (fun K hK => ?_) AllReadyL.nil
      case refine_2 => (simp only [List.getElem?_cons_succ, List.getElem?_cons_zero]; rfl)
      obtain ⟨r0, r1, r2, r3, r4, r5⟩ := blk_six HB8.out
      have f0 := HB8.out.frozen 0
      have f1 := HB8.out.frozen 1
      have f2 := HB8.out.frozen 2
      have f3 := HB8.out.frozen 3
      have f4 := HB8.out.frozen 4
      have f5 := HB8.out.frozen 5
      go_simp
      clear r0 r1 r2 r3 r4 r5 f0 f1 f2 f3 f4 f5
      have hk := kd_set (a' := .int .i64 L0) (b' := .slice BA0 bn0 bc0) (c' := .slice none 0 0) (d' := .int .i64 0) (e' := .int .i64 (-1)) (f' := .bool false) HB8.out
      generalize hw7 : (((((wvxxx.setCell ⟨b8, 0, none⟩ (.int .i64 L0)).setCell ⟨b8, 1, none⟩ (.slice BA0 bn0 bc0)).setCell ⟨b8, 2, none⟩ (.slice none 0 0)).setCell ⟨b8, 3, none⟩ (.int .i64 0)).setCell ⟨b8, 4, none⟩ (.int .i64 (-1))).setCell ⟨b8, 5, none⟩ (.bool false) = wvxxxx at hk ⊢
      clear hw7
      replace HB8 := Lib.hid hk.1
      have HS8 : Hid (Only (fun k => k = b8) wvxxx wvxxxx) := Lib.hid hk.2
      clear hk
      replace HK3 := Lib.hid (HK3.out.step (D' := (fun k => D k ∨ k = b8)) (HS8.out.mono fun k hk => .inl (.inr hk)) (fun _ h => .inl h))
      replace HD2 : Hid (DAt wvxxxx dp dl D) := Lib.hid ⟨HD2.out.holds.keep HS8.out (fun k hk _ e => HNB.out k hk e), fun k hk => Nat.lt_of_lt_of_le (HD2.out.lt k hk) HS8.out.size⟩
      have HXwvxxxx : Hid (Only (w1.heap.size ≤ ·) w1 wvxxxx) := Lib.hid (HXwvxxx.out.trans (HS8.out.mono fun k hk => by rw [show k = b8 from hk]; exact HG8.out))
      clear hHeld
      refine hK.out _ _ (KS.out _ HXwvxxxx.out) (fun hHeld => ?_)
      clear hK K
      try simp only [Act.put, lsa, lsz, lss]
      refine wpAnyL_done (by kernel_rfl) (by kernel_rfl) ?_ _
      clear hsel hHeld
      go_wp2_with (fail)
      refine Met.intro ?_
      go_step
      (repeat apply Exists.intro)
      refine ⟨?relwvxxxx83710, rfl⟩
      exact ⟨dp, b8, D, BA0, bc0, rfl, rfl, HD2, HN2, HNB, HG8, HB8, HK3, HXwvxxxx⟩
  case rest =>
    obtain ⟨dp, b8, D, BA0, bc0, rfl, rfl, HD, HN, HNB, HG8, HB8, HK, HXc⟩ := hcut
    clear HX i0 i1 i2 i3 i4 i5 i6 i7 i8 i9 i10
    obtain ⟨i0, i1, i2, i3, i4, i5, i6, i7, i8, i9, i10⟩ := blk_eleven (HA.out.only HXc.out (Nat.not_le.2 HA.out.lt))
    go_upto_region 7 with (go_at_call 9; (with_reducible refine (PgNew_c _ dp _ D HD.out).mono ?_); rintro e w6 ⟨q, rfl, hp, ho⟩; have HP : Hid (PW w1 w6 q dp b8 dl D [.int .i64 L0, .slice BA0 bn0 bc0, .slice none 0 0, .int .i64 0, .int .i64 (-1), .bool false] dl) := Lib.hid ⟨⟨hp, HN.out, on_new HXc.out ho⟩, HNB.out, HG8.out, HB8.out.only ho (Nat.not_le.2 HB8.out.lt), kat_later HK.out ho⟩; have HQ8 : Hid (¬ q = b8) := Lib.hid (fun e => absurd (pw_newq hp HB8.out ho e) id); clear hp ho i0 i1 i2 i3 i4 i5 i6 i7 i8 i9 i10; obtain ⟨i0, i1, i2, i3, i4, i5, i6, i7, i8, i9, i10⟩ := blk_eleven (HA.out.only HP.out.env.only (Nat.not_le.2 HA.out.lt)))
    clear HD HN HNB HG8 HB8 HK HXc
    go_upto_region 8 with (go_at_call 10; (with_reducible refine (pw_arm _ dp _ D HP.out.env.at_.dat fz HFZ2.out).mono ?_); rintro e w7 ⟨rfl, hg⟩; (obtain ⟨D2, hp2, _⟩ := HP.out.gave (HP.out.env.at_.gave hg)); have HP2 := Lib.hid hp2; clear hg hp2 i0 i1 i2 i3 i4 i5 i6 i7 i8 i9 i10; obtain ⟨i0, i1, i2, i3, i4, i5, i6, i7, i8, i9, i10⟩ := blk_eleven (HA.out.only HP2.out.env.only (Nat.not_le.2 HA.out.lt)))
    clear HP
    obtain ⟨r0, r1, r2, r3, r4, r5⟩ := blk_six HP2.out.blk
    have HKA := Lib.hid (v6_k2 (karm_d (fun k => D2 k ∨ k = b8) w7 _ dl HP2.out.kat HDZ.out.1 fz HFZ.out) rfl)
    go_upto_region 9 with (go_at_call 11; (with_reducible refine HKA.out.mono ?_); rintro e w8 ⟨L1, BA1, bn1, bc1, RB1, sn1, sc1, op1, fu1, dn1, rfl, hk, ho⟩; have HKV := Lib.hid hk; have HP3 := Lib.hid (HP2.out.later ho); clear hk ho i0 i1 i2 i3 i4 i5 i6 i7 i8 i9 i10 r0 r1 r2 r3 r4 r5; obtain ⟨i0, i1, i2, i3, i4, i5, i6, i7, i8, i9, i10⟩ := blk_eleven (HA.out.only HP3.out.env.only (Nat.not_le.2 HA.out.lt)); (obtain ⟨r0, r1, r2, r3, r4, r5⟩ := blk_six HP3.out.blk); have f0 := HP3.out.blk.frozen 0; have f1 := HP3.out.blk.frozen 1; have f2 := HP3.out.blk.frozen 2; have f3 := HP3.out.blk.frozen 3; have f4 := HP3.out.blk.frozen 4; have f5 := HP3.out.blk.frozen 5)
    have hk := kd_set (a' := .int .i64 L1) (b' := .slice BA1 bn1 bc1) (c' := .slice RB1 sn1 sc1) (d' := .int .i64 op1) (e' := .int .i64 fu1) (f' := .bool dn1) HP3.out.blk
    generalize hw9 : (((((w8.setCell ⟨b8, 0, none⟩ (.int .i64 L1)).setCell ⟨b8, 1, none⟩ (.slice BA1 bn1 bc1)).setCell ⟨b8, 2, none⟩ (.slice RB1 sn1 sc1)).setCell ⟨b8, 3, none⟩ (.int .i64 op1)).setCell ⟨b8, 4, none⟩ (.int .i64 fu1)).setCell ⟨b8, 5, none⟩ (.bool dn1) = w9 at hk ⊢
    clear hw9 i0 i1 i2 i3 i4 i5 i6 i7 i8 i9 i10 r0 r1 r2 r3 r4 r5 f0 f1 f2 f3 f4 f5
    have HP9 : Hid (PW w1 w9 q dp b8 (dl.arm fz) D2 [.int .i64 L1, .slice BA1 bn1 bc1, .slice RB1 sn1 sc1, .int .i64 op1, .int .i64 fu1, .bool dn1] (dl.arm fz)) := Lib.hid (HP3.out.put HKV.out hk.2 hk.1 HQ8.out)
    clear hk HKV HP3 HP2 HKA
    obtain ⟨i0, i1, i2, i3, i4, i5, i6, i7, i8, i9, i10⟩ := blk_eleven (HA.out.only HP9.out.env.only (Nat.not_le.2 HA.out.lt))
    obtain ⟨wt, hwt⟩ : ∃ W0, W0 = w9.alloc (.cells #[.int .i64 g, .int .i64 ph, .int .i64 t, .int .i64 x, .int .i64 r, .int .i64 p, .int .i64 l, .slice MA mn mc] 45) := ⟨_, rfl⟩
    have HOT : Hid (Only (w9.heap.size ≤ ·) w9 wt) := Lib.hid (by rw [hwt]; exact (Only.refl _ w9).alloc (fun _ h => h) _)
    have HT : Hid (Blk wt w9.heap.size 45 [.int .i64 g, .int .i64 ph, .int .i64 t, .int .i64 x, .int .i64 r, .int .i64 p, .int .i64 l, .slice MA mn mc]) := Lib.hid (by rw [hwt]; exact Blk.new w9 45 _)
    have HET := Lib.hid hwt
    clear hwt
    go_upto_region 10 with (fail)
    rw [← HET.out]
    clear HET i0 i1 i2 i3 i4 i5 i6 i7 i8 i9 i10
    have HE : Hid (PW w1 wt q dp b8 d0 D2 [.int .i64 L1, .slice BA1 bn1 bc1, .slice RB1 sn1 sc1, .int .i64 op1, .int .i64 fu1, .bool dn1] d0) := Lib.hid (by rw [HDZ.out.2]; exact HP9.out.later HOT.out)
    have HTO : Hid (∀ k, D2 k → k ≠ w9.heap.size) := Lib.hid (fun k hk e => by have h9 := HP9.out.env.off k hk; omega)
    generalize w9.heap.size = b10 at HT HTO ⊢
    clear HOT HP9
    obtain ⟨i0, i1, i2, i3, i4, i5, i6, i7, i8, i9, i10⟩ := blk_eleven (HA.out.only HE.out.env.only (Nat.not_le.2 HA.out.lt))
    go_upto_region 13 with (fail)
    clear i0 i1 i2 i3 i4 i5 i6 i7 i8 i9 i10
    have KM : Hid (∀ W : World, Only (wt.heap.size ≤ ·) wt W → (fun W : World => W.cell? ⟨b10, 0, none⟩ = some (.int .i64 g) ∧ W.cell? ⟨b10, 1, none⟩ = some (.int .i64 ph) ∧ W.cell? ⟨b10, 2, none⟩ = some (.int .i64 t) ∧ W.cell? ⟨b10, 3, none⟩ = some (.int .i64 x) ∧ W.cell? ⟨b10, 4, none⟩ = some (.int .i64 r) ∧ W.cell? ⟨b10, 5, none⟩ = some (.int .i64 p) ∧ W.cell? ⟨b10, 6, none⟩ = some (.int .i64 l) ∧ W.cell? ⟨b10, 7, none⟩ = some (.slice MA mn mc)) W) := Lib.hid (fun W hW => (HT.out.only hW (Nat.not_le.2 HT.out.lt)).eight)
    have KMg : Hid (∀ W W' : World, Only (wt.heap.size ≤ ·) wt W → PGave W W' q dp dd D2 → (fun W : World => W.cell? ⟨b10, 0, none⟩ = some (.int .i64 g) ∧ W.cell? ⟨b10, 1, none⟩ = some (.int .i64 ph) ∧ W.cell? ⟨b10, 2, none⟩ = some (.int .i64 t) ∧ W.cell? ⟨b10, 3, none⟩ = some (.int .i64 x) ∧ W.cell? ⟨b10, 4, none⟩ = some (.int .i64 r) ∧ W.cell? ⟨b10, 5, none⟩ = some (.int .i64 p) ∧ W.cell? ⟨b10, 6, none⟩ = some (.int .i64 l) ∧ W.cell? ⟨b10, 7, none⟩ = some (.slice MA mn mc)) W') := Lib.hid (fun W W' hW hg => ((HT.out.only hW (Nat.not_le.2 HT.out.lt)).only hg.1 (fun hk => by
      rcases hk with h1 | h1
      · exact HTO.out _ h1 rfl
      · have h2 := HT.out.lt
        have h3 := hW.size
        omega)).eight)
    have HV0 : Hid (Only (wt.heap.size ≤ ·) wt wt.drew) := Lib.hid (Only.refl _ wt).drew
    have HSM := Lib.hid (KM.out _ HV0.out)
    refine wp_region_list (B := [false, false, false, false, false, false]) (S := (fun W : World => W.cell? ⟨b10, 0, none⟩ = some (.int .i64 g) ∧ W.cell? ⟨b10, 1, none⟩ = some (.int .i64 ph) ∧ W.cell? ⟨b10, 2, none⟩ = some (.int .i64 t) ∧ W.cell? ⟨b10, 3, none⟩ = some (.int .i64 x) ∧ W.cell? ⟨b10, 4, none⟩ = some (.int .i64 r) ∧ W.cell? ⟨b10, 5, none⟩ = some (.int .i64 p) ∧ W.cell? ⟨b10, 6, none⟩ = some (.int .i64 l) ∧ W.cell? ⟨b10, 7, none⟩ = some (.slice MA mn mc))) (by kernel_rfl) (by kernel_rfl) (by kernel_rfl) HSM.out (fun hsel hHeld => ?_)
    generalize hwz : World.drew _ = wv0 at HV0 HSM hHeld ⊢
    clear hwz
    refine oneA 0 59 hsel (h := ?_)
    simp only [Act.put, lsa, lsz, lss]
    refine oneA 1 60 hsel (h := ?_)
    simp only [Act.put, lsa, lsz, lss]
    refine oneA 3 62 hsel (h := ?_)
    simp only [Act.put, lsa, lsz, lss]
    refine wpAnyL_ready (rs := [2]) (by kernel_rfl) (by kernel_rfl) (by simp) ?_
    refine AllReadyL.cons (o := ?_) ?_ (fun K hK => ?_) AllReadyL.nil
    case refine_2 => (simp only [List.getElem?_cons_succ, List.getElem?_cons_zero]; rfl)
    go_simp
    (go_at_call 13; (with_reducible refine (pw_of w _ RA rn rc ws HWS.out (on_new HOB.out (on_new HE.out.env.only HV0.out)) HRN.out.1).mono ?_); rintro e wv1 ⟨R, tt, C, rfl, hden, hown, ho⟩; have HV1 := Lib.hid (on_new HV0.out ho); have HSR : Hid (SRw wrE _ wv1 (.slice R rn tt) ws) := Lib.hid (srw_of hden hown HLN.out (fun k' hk' => ⟨Nat.le_trans HOB.out.size (HE.out.env.new k' hk'), Nat.lt_of_lt_of_le (HE.out.env.off k' hk') HV0.out.size⟩) (on_new HOB.out (on_new HE.out.env.only HV1.out))); clear hden hown ho)
    go_wp2_with (fail)
    clear hHeld
    refine hK.out _ _ (KM.out _ HV1.out) (fun hHeld => ?_)
    clear hK K
    try simp only [Act.put, lsa, lsz, lss]
    refine wpAnyL_ready (rs := [4]) (by kernel_rfl) (by kernel_rfl) (by simp) ?_
    refine AllReadyL.cons (o := ?_) ?_ (fun K hK => ?_) AllReadyL.nil
    case refine_2 => (simp only [List.getElem?_cons_succ, List.getElem?_cons_zero]; rfl)
    have HCM := Lib.hid (show Calls _ _ _ _ _ from by have h9 := PgCommit_c wv1 q dp _ _ (HE.out.later HV1.out).env.at_ (HG1.out.later (on_new HE.out.env.only HV1.out)) g ph t x r p l MA mn mc ms (HMS.out _ (on_new HE.out.env.only HV1.out)) HMN.out HMI.out R rn tt ws HSR.out HRN.out.1 (fun y hy => (HI.out y hy).2) HRM.out; rw [HEQ.out] at h9; exact h9)
    go_simp
    (go_at_call 14; (with_reducible refine HCM.out.mono ?_); rintro e wv2 ⟨rfl, hg⟩; have HGV := Lib.hid hg; clear hg)
    go_wp2_with (fail)
    clear hHeld
    refine hK.out _ _ (KMg.out _ _ HV1.out HGV.out) (fun hHeld => ?_)
    clear hK K
    try simp only [Act.put, lsa, lsz, lss]
    refine oneA 5 11 hsel (h := ?_)
    simp only [Act.put, lsa, lsz, lss]
    refine wpAnyL_done (by kernel_rfl) (by kernel_rfl) ?_ _
    clear hsel hHeld
  
    obtain ⟨D3, hp3, hod⟩ := (HE.out.later HV1.out).gave HGV.out
    have HPC := Lib.hid hp3
    have HTC : Hid (Blk wv2 b10 45 [.int .i64 g, .int .i64 ph, .int .i64 t, .int .i64 x, .int .i64 r, .int .i64 p, .int .i64 l, .slice MA mn mc]) := Lib.hid ((HT.out.only HV1.out (Nat.not_le.2 HT.out.lt)).only hod (fun hk => by
      rcases hk with h1 | h1
      · exact HTO.out _ h1 rfl
      · have h2 := HT.out.lt
        have h3 := HV1.out.size
        omega))
    clear hp3 hod HE HV0 HV1 HSM HGV HSR HCM KM KMg HT HTO
    obtain ⟨i0, i1, i2, i3, i4, i5, i6, i7, i8, i9, i10⟩ := blk_eleven (HA.out.only HPC.out.env.only (Nat.not_le.2 HA.out.lt))
    go_upto_region 15 with (go_at_call 15; (with_reducible refine (HRR.out _ HPC.out.env.only).mono ?_); rintro e wr ⟨rfl, ho⟩; have HPR := Lib.hid (HPC.out.later ho); have HTR := Lib.hid (HTC.out.only ho (Nat.not_le.2 HTC.out.lt)); clear ho i0 i1 i2 i3 i4 i5 i6 i7 i8 i9 i10; obtain ⟨i0, i1, i2, i3, i4, i5, i6, i7, i8, i9, i10⟩ := blk_eleven (HA.out.only HPR.out.env.only (Nat.not_le.2 HA.out.lt)))
    clear HPC HTC
    obtain ⟨m0, m1, m2, m3, m4, m5, m6, m7⟩ := HTR.out.eight
    cases is with
    | false =>
      have HRL0 := HRK.out.2
      have hgo : (dd, er) = (d0, 1) := by rw [← HEQ0.out]; exact go_bad false d0 _ p x ws a b (fun h9 => by have h8 := HIS.out; rw [h9.1] at h8; cases h8)
      simp only [Prod.mk.injEq] at hgo
      obtain ⟨rfl, rfl⟩ := hgo
      have HRL : Hid (dd.row.length ≤ 100000) := Lib.hid (by omega)
      go_upto_region 17 with (fail)
      clear i0 i1 i2 i3 i4 i5 i6 i7 i8 i9 i10 m0 m1 m2 m3 m4 m5 m6 m7 HRL0
      have HEZ := Lib.hid HPR.out.env
      have HBZ := Lib.hid HPR.out.blk
      have HKZ : Hid (KAt (fun _ => False) wr (.agg #[.int .i64 L1, .slice BA1 bn1 bc1, .slice RB1 sn1 sc1, .int .i64 op1, .int .i64 fu1, .bool dn1]) dd) := Lib.hid (HPR.out.kat.step (Only.refl _ _) (fun _ h => h.elim))
      have HTZ := HTR
      clear HPR HTR
      generalize hwf : wr = wf at *
      clear hwf
      obtain ⟨Nn, hNn⟩ : ∃ z, z = dd.n := ⟨_, rfl⟩
      obtain ⟨Lm, hLm⟩ : ∃ z, z = dd.limit := ⟨_, rfl⟩
      obtain ⟨Nq, hNq⟩ : ∃ z, z = Nn / 4 := ⟨_, rfl⟩
      obtain ⟨Lq, hLq⟩ : ∃ z, z = Lm / 4 := ⟨_, rfl⟩
      have hwf := HEZ.out.at_.dat.wf
      obtain ⟨c1, c2, c3, c4⟩ := qs_nums hNq (by rw [hNn]; exact Nat.le_trans hwf.nl hwf.lim)
      obtain ⟨c5, c6, c7, c8⟩ := qs_nums hLq (by rw [hLm]; exact hwf.lim)
      have HPP := Lib.hid (fun W (hW : Only (wf.heap.size ≤ ·) wf W) => show Calls _ _ _ W _ from by have h9 := PgPages_c W q dp dd D3 (HEZ.out.at_.later hW); rw [← hNn, ← hNq] at h9; exact h9)
      have HSZ := Lib.hid (fun W (hW : Only (wf.heap.size ≤ ·) wf W) => show Calls _ _ _ W _ from by have h9 := Dk.Size_c W D3 dp dd (HEZ.out.at_.later hW).dat.holds; rw [← hNn] at h9; exact h9)
      have HPL := Lib.hid (fun W (hW : Only (wf.heap.size ≤ ·) wf W) => show Calls _ _ _ W _ from by have h9 := PgLimit_c W q dp dd D3 (HEZ.out.at_.later hW); rw [← hLm, ← hLq] at h9; exact h9)
      have HLM := Lib.hid (fun W (hW : Only (wf.heap.size ≤ ·) wf W) => show Calls _ _ _ W _ from by have h9 := Dk.Limit_c W D3 dp dd (HEZ.out.at_.later hW).dat.holds; rw [← hLm] at h9; exact h9)
      have HST := Lib.hid (fun W (hW : Only (wf.heap.size ≤ ·) wf W) => kstands_c W dp dd D3 (HEZ.out.at_.later hW).dat _ (kat_later HKZ.out hW) HRL.out)
      have HOF := Lib.hid (fun W (hW : Only (wf.heap.size ≤ ·) wf W) => show Calls Tryz.prog 13 #[.slice RA rn rc] W (fun e w' => ∃ R t, e = .returned (.slice R rn t) ∧ Wts w' (.slice R rn t) ws ∧ Only (W.heap.size ≤ ·) W w') from (pw_of w W RA rn rc ws HWS.out (on_new HOB.out (on_new HEZ.out.only hW)) HRN.out.1).mono (by
        rintro e w' ⟨R, t, C, rfl, hden, hown, ho⟩
        have hx : SRw wrE (fun _ => False) w' (.slice R rn t) ws := srw_of hden hown HLN.out (fun k h => h.elim) (on_new (on_new HOB.out (on_new HEZ.out.only hW)) ho)
        exact ⟨R, t, rfl, hx.rw_.now, ho⟩))
      have HPI0 := Lib.hid (fun W (R : Option Addr) (t9 : Nat) (hW : Only (wf.heap.size ≤ ·) wf W) (hr : Wts W (.slice R rn t9) ws) => show Calls Tryz.prog 18 #[.slice R rn t9, .agg #[.int .i64 g, .int .i64 ph, .int .i64 t, .int .i64 x, .int .i64 r, .int .i64 p, .int .i64 l, .slice MA mn mc]] W (Told W (.bool false)) from by
        have h9 := PgRight_c W g ph t x r p l MA mn mc R rn t9 ws (HG1.out.later (on_new HEZ.out.only hW)) hr (fun y hy => (HI.out y hy).2)
        rw [← HIS.out] at h9
        exact h9)
      have KZ : Hid (∀ W : World, Only (wf.heap.size ≤ ·) wf W → (fun W : World => (W.cell? ⟨b10, 0, none⟩ = some (.int .i64 g) ∧ W.cell? ⟨b10, 1, none⟩ = some (.int .i64 ph) ∧ W.cell? ⟨b10, 2, none⟩ = some (.int .i64 t) ∧ W.cell? ⟨b10, 3, none⟩ = some (.int .i64 x) ∧ W.cell? ⟨b10, 4, none⟩ = some (.int .i64 r) ∧ W.cell? ⟨b10, 5, none⟩ = some (.int .i64 p) ∧ W.cell? ⟨b10, 6, none⟩ = some (.int .i64 l) ∧ W.cell? ⟨b10, 7, none⟩ = some (.slice MA mn mc)) ∧ W.cell? ⟨b8, 0, none⟩ = some (.int .i64 L1) ∧ W.cell? ⟨b8, 1, none⟩ = some (.slice BA1 bn1 bc1) ∧ W.cell? ⟨b8, 2, none⟩ = some (.slice RB1 sn1 sc1) ∧ W.cell? ⟨b8, 3, none⟩ = some (.int .i64 op1) ∧ W.cell? ⟨b8, 4, none⟩ = some (.int .i64 fu1) ∧ W.cell? ⟨b8, 5, none⟩ = some (.bool dn1)) W) := Lib.hid (fun W hW => ⟨(HTZ.out.only hW (Nat.not_le.2 HTZ.out.lt)).eight, blk_six (HBZ.out.only hW (Nat.not_le.2 HBZ.out.lt))⟩)
      have HZ0 : Hid (Only (wf.heap.size ≤ ·) wf wf.drew) := Lib.hid (Only.refl _ wf).drew
      have HSZ0 := Lib.hid (KZ.out _ HZ0.out)
      clear hNn hLm hNq hLq hwf
      refine wp_region_list (B := [false, false, false, false, false, false, false, false, false, false, false, false, false, false, false, false, false, false, false, false, false, false, false, false, false, false, false, false, false, false, false, false, false, false, false, false]) (S := (fun W : World => (W.cell? ⟨b10, 0, none⟩ = some (.int .i64 g) ∧ W.cell? ⟨b10, 1, none⟩ = some (.int .i64 ph) ∧ W.cell? ⟨b10, 2, none⟩ = some (.int .i64 t) ∧ W.cell? ⟨b10, 3, none⟩ = some (.int .i64 x) ∧ W.cell? ⟨b10, 4, none⟩ = some (.int .i64 r) ∧ W.cell? ⟨b10, 5, none⟩ = some (.int .i64 p) ∧ W.cell? ⟨b10, 6, none⟩ = some (.int .i64 l) ∧ W.cell? ⟨b10, 7, none⟩ = some (.slice MA mn mc)) ∧ W.cell? ⟨b8, 0, none⟩ = some (.int .i64 L1) ∧ W.cell? ⟨b8, 1, none⟩ = some (.slice BA1 bn1 bc1) ∧ W.cell? ⟨b8, 2, none⟩ = some (.slice RB1 sn1 sc1) ∧ W.cell? ⟨b8, 3, none⟩ = some (.int .i64 op1) ∧ W.cell? ⟨b8, 4, none⟩ = some (.int .i64 fu1) ∧ W.cell? ⟨b8, 5, none⟩ = some (.bool dn1))) (by kernel_rfl) (by kernel_rfl) (by kernel_rfl) HSZ0.out (fun hsel hHeld => ?_)
      generalize hwz : World.drew _ = wy0 at HZ0 HSZ0 hHeld ⊢
      clear hwz
      refine wpAnyL_ready (rs := [0]) (by kernel_rfl) (by kernel_rfl) (by simp) ?_
      refine AllReadyL.cons (o := ?_) ?_ (fun K hK => ?_) AllReadyL.nil
      case refine_2 => (simp only [List.getElem?_cons_zero]; rfl)
      go_simp
      (go_at_call 6; (with_reducible refine (HAL.out _ (on_new HEZ.out.only HZ0.out)).mono ?_); rintro e wy1 ⟨rfl, ho⟩; have HZ1 := Lib.hid (on_new HZ0.out ho); clear ho)
      go_wp2_with (fail)
      clear hHeld
      refine hK.out _ _ (KZ.out _ HZ1.out) (fun hHeld => ?_)
      clear hK K
      try simp only [Act.put, lsa, lsz, lss]
      refine oneA 1 91 hsel (h := ?_)
      simp only [Act.put, lsa, lsz, lss]
      refine oneA 2 92 hsel (h := ?_)
      simp only [Act.put, lsa, lsz, lss]
      refine oneA 4 94 hsel (h := ?_)
      simp only [Act.put, lsa, lsz, lss]
      refine oneA 6 96 hsel (h := ?_)
      simp only [Act.put, lsa, lsz, lss]
      refine wpAnyL_ready (rs := [3]) (by kernel_rfl) (by kernel_rfl) (by simp) ?_
      refine AllReadyL.cons (o := ?_) ?_ (fun K hK => ?_) AllReadyL.nil
      case refine_2 => (simp only [List.getElem?_cons_succ, List.getElem?_cons_zero]; rfl)
      go_simp
      (go_at_call 13; (with_reducible refine (HOF.out _ HZ1.out).mono ?_); rintro e wy2 ⟨R9, t9, rfl, hw, ho⟩; have HR9 := Lib.hid hw; have HZ2 := Lib.hid (on_new HZ1.out ho); clear hw ho)
      go_wp2_with (fail)
      clear hHeld
      refine hK.out _ _ (KZ.out _ HZ2.out) (fun hHeld => ?_)
      clear hK K
      try simp only [Act.put, lsa, lsz, lss]
      refine wpAnyL_ready (rs := [5]) (by kernel_rfl) (by kernel_rfl) (by simp) ?_
      refine AllReadyL.cons (o := ?_) ?_ (fun K hK => ?_) AllReadyL.nil
      case refine_2 => (simp only [List.getElem?_cons_succ, List.getElem?_cons_zero]; rfl)
      have HPI := Lib.hid (HPI0.out _ R9 t9 HZ2.out HR9.out)
      go_simp
      (go_at_call 18; (with_reducible refine HPI.out.mono ?_); rintro e wy3 ⟨rfl, ho⟩; have HZ3 := Lib.hid (on_new HZ2.out ho); clear ho)
      go_wp2_with (fail)
      clear hHeld
      refine hK.out _ _ (KZ.out _ HZ3.out) (fun hHeld => ?_)
      clear hK K
      try simp only [Act.put, lsa, lsz, lss]
      refine oneA 7 97 hsel (h := ?_)
      simp only [Act.put, lsa, lsz, lss]
      try simp only [beq_self_eq_true]
      refine oneA 8 98 hsel (h := ?_)
      simp only [Act.put, lsa, lsz, lss]
      refine oneA 9 99 hsel (h := ?_)
      simp only [Act.put, lsa, lsz, lss]
      refine oneA 10 100 hsel (h := ?_)
      simp only [Act.put, lsa, lsz, lss]
      refine oneA 11 101 hsel (h := ?_)
      simp only [Act.put, lsa, lsz, lss]
      refine oneA 12 102 hsel (h := ?_)
      simp only [Act.put, lsa, lsz, lss]
      try simp only [beq_self_eq_true]
      refine oneA 13 103 hsel (h := ?_)
      simp only [Act.put, lsa, lsz, lss]
      refine oneA 14 104 hsel (h := ?_)
      simp only [Act.put, lsa, lsz, lss]
      refine oneA 15 105 hsel (h := ?_)
      simp only [Act.put, lsa, lsz, lss]
      refine oneA 16 106 hsel (h := ?_)
      simp only [Act.put, lsa, lsz, lss]
      refine wpAnyL_ready (rs := [17]) (by kernel_rfl) (by kernel_rfl) (by simp) ?_
      refine AllReadyL.cons (o := ?_) ?_ (fun K hK => ?_) AllReadyL.nil
      case refine_2 => (simp only [List.getElem?_cons_succ, List.getElem?_cons_zero]; rfl)
      go_simp
      (go_at_call 19; (with_reducible refine (HST.out _ HZ3.out).mono ?_); rintro e wy4 ⟨rfl, ho⟩; have HZ4 := Lib.hid (on_new HZ3.out ho); clear ho)
      go_wp2_with (fail)
      clear hHeld
      refine hK.out _ _ (KZ.out _ HZ4.out) (fun hHeld => ?_)
      clear hK K
      try simp only [Act.put, lsa, lsz, lss]
      refine oneA 18 108 hsel (h := ?_)
      simp only [Act.put, lsa, lsz, lss]
      refine oneA 19 109 hsel (h := ?_)
      simp only [Act.put, lsa, lsz, lss]
      refine oneA 20 110 hsel (h := ?_)
      simp only [Act.put, lsa, lsz, lss]
      refine oneA 22 112 hsel (h := ?_)
      simp only [Act.put, lsa, lsz, lss]
      refine wpAnyL_ready (rs := [21]) (by kernel_rfl) (by kernel_rfl) (by simp) ?_
      refine AllReadyL.cons (o := ?_) ?_ (fun K hK => ?_) AllReadyL.nil
      case refine_2 => (simp only [List.getElem?_cons_succ, List.getElem?_cons_zero]; rfl)
      go_simp
      (go_at_call 20; (with_reducible refine (HPP.out _ HZ4.out).mono ?_); rintro e wz ⟨rfl, rfl⟩)
      go_wp2_with (fail)
      clear hHeld
      refine hK.out _ _ (KZ.out _ HZ4.out) (fun hHeld => ?_)
      clear hK K
      try simp only [Act.put, lsa, lsz, lss]
      refine wpAnyL_ready (rs := [23]) (by kernel_rfl) (by kernel_rfl) (by simp) ?_
      refine AllReadyL.cons (o := ?_) ?_ (fun K hK => ?_) AllReadyL.nil
      case refine_2 => (simp only [List.getElem?_cons_succ, List.getElem?_cons_zero]; rfl)
      go_simp
      (go_at_call 21; (with_reducible refine (HSZ.out _ HZ4.out).mono ?_); rintro e wz ⟨rfl, rfl⟩)
      go_wp2_with (fail)
      clear hHeld
      refine hK.out _ _ (KZ.out _ HZ4.out) (fun hHeld => ?_)
      clear hK K
      try simp only [Act.put, lsa, lsz, lss]
      refine oneA 24 114 hsel (h := ?_)
      simp only [Act.put, lsa, lsz, lss]
      try simp only [c4]
      refine oneA 25 115 hsel (h := ?_)
      simp only [Act.put, lsa, lsz, lss]
      try simp only [beq_self_eq_true]
      refine oneA 26 116 hsel (h := ?_)
      simp only [Act.put, lsa, lsz, lss]
      refine oneA 27 117 hsel (h := ?_)
      simp only [Act.put, lsa, lsz, lss]
      refine oneA 28 118 hsel (h := ?_)
      simp only [Act.put, lsa, lsz, lss]
      refine oneA 30 120 hsel (h := ?_)
      simp only [Act.put, lsa, lsz, lss]
      refine wpAnyL_ready (rs := [29]) (by kernel_rfl) (by kernel_rfl) (by simp) ?_
      refine AllReadyL.cons (o := ?_) ?_ (fun K hK => ?_) AllReadyL.nil
      case refine_2 => (simp only [List.getElem?_cons_succ, List.getElem?_cons_zero]; rfl)
      go_simp
      (go_at_call 22; (with_reducible refine (HPL.out _ HZ4.out).mono ?_); rintro e wz ⟨rfl, rfl⟩)
      go_wp2_with (fail)
      clear hHeld
      refine hK.out _ _ (KZ.out _ HZ4.out) (fun hHeld => ?_)
      clear hK K
      try simp only [Act.put, lsa, lsz, lss]
      refine wpAnyL_ready (rs := [31]) (by kernel_rfl) (by kernel_rfl) (by simp) ?_
      refine AllReadyL.cons (o := ?_) ?_ (fun K hK => ?_) AllReadyL.nil
      case refine_2 => (simp only [List.getElem?_cons_succ, List.getElem?_cons_zero]; rfl)
      go_simp
      (go_at_call 23; (with_reducible refine (HLM.out _ HZ4.out).mono ?_); rintro e wz ⟨rfl, rfl⟩)
      go_wp2_with (fail)
      clear hHeld
      refine hK.out _ _ (KZ.out _ HZ4.out) (fun hHeld => ?_)
      clear hK K
      try simp only [Act.put, lsa, lsz, lss]
      refine oneA 32 122 hsel (h := ?_)
      simp only [Act.put, lsa, lsz, lss]
      try simp only [c8]
      refine oneA 33 123 hsel (h := ?_)
      simp only [Act.put, lsa, lsz, lss]
      try simp only [beq_self_eq_true]
      refine oneA 34 124 hsel (h := ?_)
      simp only [Act.put, lsa, lsz, lss]
      refine oneA 35 6 hsel (h := ?_)
      simp only [Act.put, lsa, lsz, lss]
      refine wpAnyL_done (by kernel_rfl) (by kernel_rfl) ?_ _
      clear hsel hHeld
      go_wp2_with (fail)
      go_ret
      exact ⟨rfl, on_new HOB.out (on_new HEZ.out.only HZ4.out)⟩
    | true =>
      go_upto_region 16 with (fail)
      clear i0 i1 i2 i3 i4 i5 i6 i7 i8 i9 i10 m0 m1 m2 m3 m4 m5 m6 m7
      obtain ⟨lo, hlo⟩ : ∃ z, z = opsK false p x ws a b := ⟨_, rfl⟩
      obtain ⟨lk, hlk⟩ : ∃ z, z = (opsK false p x ws a b).length := ⟨_, rfl⟩
      have hri := HIS.out.symm
      have HRU : Hid (runK d0 lo = (dd, er)) := Lib.hid (by rw [hlo, ← HEQ0.out]; exact run_ops false d0 _ p x ws a b hri (fun e => by cases e))
      obtain ⟨hok, ⟨NN, KK, hp9, hx9, hN9, hK1, hK9⟩, hfit⟩ := pw_right hri
      have hok9 := hok
      have hlb : b.length = 256 := by rw [HAB.out.2]; rw [HMN.out] at hok; exact (enc_back hok).2.2.2
      have hla : false = true → a.length = 256 := fun e => by cases e
      have HKO : Hid (∀ W, Only (wr.heap.size ≤ ·) wr W → Calls Tryz.prog 17 #[.slice RA rn rc, .agg #[.int .i64 g, .int .i64 ph, .int .i64 t, .int .i64 x, .int .i64 r, .int .i64 p, .int .i64 l, .slice MA mn mc], .bool false] W fun e w' => ∃ R t6, e = .returned (.slice R lk t6) ∧ SRw koE (fun k => k = b8) w' (.slice R lk t6) lo ∧ Only (W.heap.size ≤ ·) W w') := Lib.hid (fun W hW => by
        have h9 := kOps_c false w W b8 L1 BA1 bn1 bc1 RB1 sn1 sc1 op1 fu1 dn1 (Nat.le_trans HOB.out.size HPR.out.low) (HPR.out.blk.only hW (Nat.not_le.2 HPR.out.blk.lt)) (on_new HOB.out (on_new HPR.out.env.only hW)) g ph t x r p l MA mn mc ms (HMS.out _ (on_new HPR.out.env.only hW)) HMN.out RA rn rc ws HWS.out HRN.out.2 hri (fun e => by cases e)
        rw [← HAB.out.1, ← HAB.out.2] at h9
        rw [hlk, hlo]
        exact h9)
      have HRK2 : Hid (RoomK d0 lo) := Lib.hid (by
        have h9 := HRK.out
        rw [hlo]
        exact pw_room h9 hlb hla)
      have HRL : Hid (dd.row.length ≤ 100000) := Lib.hid (by have h9 := HRK2.out.run; rwa [HRU.out] at h9)
      have HOO : Hid (∀ o ∈ lo, OkO o) := Lib.hid (by
        rw [hlo]
        exact pw_ops hp9 hx9 hN9 hK9 hfit HSU.out hlb hla (fun e => by cases e))
      have HLK : Hid (lk ≤ 1000) := Lib.hid (by rw [hlk, op_len, ← HLN.out]; have h9 := HRN.out.2; split <;> omega)
      have HKR : Hid (∀ W (R : Option Addr) (t6 : Nat), Only (wr.heap.size ≤ ·) wr W → SRw koE (fun k => k = b8) W (.slice R lk t6) lo → Calls Tryz.prog 16 #[.agg #[.int .i64 L1, .slice BA1 bn1 bc1, .slice RB1 sn1 sc1, .int .i64 op1, .int .i64 fu1, .bool dn1], .slice R lk t6] W (GaveV6 (fun k => k = b8) W [.int .i64 er] dd)) := Lib.hid (fun W R t6 hW hr =>
        v6_run (kRun_c (fun k => k = b8) W (fun k hk => by rw [hk]; exact Nat.lt_of_lt_of_le HPR.out.blk.lt hW.size) _ d0 ((kat_later HPR.out.kat hW).step (Only.refl _ _) (fun k hk => .inl (.inr hk))) (by rw [HDZ.out.2]; exact HDZ.out.1) R lk t6 lo hr HOO.out HRK2.out HLK.out) HRU.out)
      have KG : Hid (∀ W : World, Only (wr.heap.size ≤ ·) wr W → (fun W : World => W.cell? ⟨w.heap.size, 0, none⟩ = some (.int .i64 g) ∧ W.cell? ⟨w.heap.size, 1, none⟩ = some (.int .i64 ph) ∧ W.cell? ⟨w.heap.size, 2, none⟩ = some (.int .i64 t) ∧ W.cell? ⟨w.heap.size, 3, none⟩ = some (.int .i64 x) ∧ W.cell? ⟨w.heap.size, 4, none⟩ = some (.int .i64 r) ∧ W.cell? ⟨w.heap.size, 5, none⟩ = some (.int .i64 p) ∧ W.cell? ⟨w.heap.size, 6, none⟩ = some (.int .i64 l) ∧ W.cell? ⟨w.heap.size, 7, none⟩ = some (.slice MA mn mc) ∧ W.cell? ⟨w.heap.size, 8, none⟩ = some (.bool false)) W) := Lib.hid (fun W hW => pw_nine (HA.out.only (on_new HPR.out.env.only hW) (Nat.not_le.2 HA.out.lt)))
      have KG2 : Hid (∀ W W' : World, Only (wr.heap.size ≤ ·) wr W → Only (fun k => k = b8) W W' → (fun W : World => W.cell? ⟨w.heap.size, 0, none⟩ = some (.int .i64 g) ∧ W.cell? ⟨w.heap.size, 1, none⟩ = some (.int .i64 ph) ∧ W.cell? ⟨w.heap.size, 2, none⟩ = some (.int .i64 t) ∧ W.cell? ⟨w.heap.size, 3, none⟩ = some (.int .i64 x) ∧ W.cell? ⟨w.heap.size, 4, none⟩ = some (.int .i64 r) ∧ W.cell? ⟨w.heap.size, 5, none⟩ = some (.int .i64 p) ∧ W.cell? ⟨w.heap.size, 6, none⟩ = some (.int .i64 l) ∧ W.cell? ⟨w.heap.size, 7, none⟩ = some (.slice MA mn mc) ∧ W.cell? ⟨w.heap.size, 8, none⟩ = some (.bool false)) W') := Lib.hid (fun W W' hW hs => pw_nine ((HA.out.only (on_new HPR.out.env.only hW) (Nat.not_le.2 HA.out.lt)).only hs (fun e => pw_old e HA.out.lt HPR.out.low)))
      have HT8 : Hid (¬ b10 = b8) := Lib.hid (pw_two HTR.out HPR.out.blk)
      clear hri hok hok9 hp9 hx9 hN9 hK1 hK9 hfit hlb hla hlo hlk
      go_cut [12] from 79 to 90 (fun y12 wz => ∃ (L2 : Int) (BA2 : Option Addr) (bn2 bc2 : Nat) (RB2 : Option Addr) (sn2 sc2 : Nat) (op2 fu2 : Int) (dn2 : Bool), y12 = .int .i64 er ∧ Hid (Env w1 wz q dp dd D3) ∧ Hid (Blk wz b8 34 [.int .i64 L2, .slice BA2 bn2 bc2, .slice RB2 sn2 sc2, .int .i64 op2, .int .i64 fu2, .bool dn2]) ∧ Hid (KAt (fun _ => False) wz (.agg #[.int .i64 L2, .slice BA2 bn2 bc2, .slice RB2 sn2 sc2, .int .i64 op2, .int .i64 fu2, .bool dn2]) dd) ∧ Hid (Blk wz b10 45 [.int .i64 g, .int .i64 ph, .int .i64 t, .int .i64 x, .int .i64 r, .int .i64 p, .int .i64 l, .slice MA mn mc]))
      case first =>
        have HXwg : Hid (Only (wr.heap.size ≤ ·) wr wr.drew) := Lib.hid (Only.refl _ wr).drew
        have HSG := Lib.hid (KG.out _ HXwg.out)
        have HBwg : Hid (Blk wr.drew b8 34 [.int .i64 L1, .slice BA1 bn1 bc1, .slice RB1 sn1 sc1, .int .i64 op1, .int .i64 fu1, .bool dn1]) := Lib.hid (Blk.drew HPR.out.blk)
        refine wp_region_list (B := [false, false, false, false, false, false, false, false, false, false, false, false, false]) (S := (fun W : World => W.cell? ⟨w.heap.size, 0, none⟩ = some (.int .i64 g) ∧ W.cell? ⟨w.heap.size, 1, none⟩ = some (.int .i64 ph) ∧ W.cell? ⟨w.heap.size, 2, none⟩ = some (.int .i64 t) ∧ W.cell? ⟨w.heap.size, 3, none⟩ = some (.int .i64 x) ∧ W.cell? ⟨w.heap.size, 4, none⟩ = some (.int .i64 r) ∧ W.cell? ⟨w.heap.size, 5, none⟩ = some (.int .i64 p) ∧ W.cell? ⟨w.heap.size, 6, none⟩ = some (.int .i64 l) ∧ W.cell? ⟨w.heap.size, 7, none⟩ = some (.slice MA mn mc) ∧ W.cell? ⟨w.heap.size, 8, none⟩ = some (.bool false))) (by kernel_rfl) (by kernel_rfl) (by kernel_rfl) HSG.out (fun hsel hHeld => ?_)
        generalize hwz : World.drew _ = wg at HXwg HSG HBwg hHeld ⊢
        clear hwz
        refine oneA 1 81 hsel (h := ?_)
        simp only [Act.put, lsa, lsz, lss]
        refine oneA 2 82 hsel (h := ?_)
        simp only [Act.put, lsa, lsz, lss]
        refine oneA 3 83 hsel (h := ?_)
        simp only [Act.put, lsa, lsz, lss]
        refine oneA 4 84 hsel (h := ?_)
        simp only [Act.put, lsa, lsz, lss]
        refine oneA 5 85 hsel (h := ?_)
        simp only [Act.put, lsa, lsz, lss]
        refine wpAnyL_ready (rs := [0, 6]) (by kernel_rfl) (by kernel_rfl) (by simp) ?_
        refine AllReadyL.cons (o := ?_) ?_ (fun K hK => ?_) (AllReadyL.cons (o := ?_) ?_ (fun K hK => ?_) AllReadyL.nil)
        case refine_2 => (simp only [List.getElem?_cons_zero]; rfl)
        case refine_5 => (simp only [List.getElem?_cons_succ, List.getElem?_cons_zero]; rfl)
        case refine_3 =>
          obtain ⟨r0, r1, r2, r3, r4, r5⟩ := blk_six HBwg.out
          go_simp
          clear r0 r1 r2 r3 r4 r5
          clear hHeld
          refine hK.out _ _ (KG.out _ HXwg.out) (fun hHeld => ?_)
          clear hK K
          try simp only [Act.put, lsa, lsz, lss]
          refine wpAnyL_ready (rs := [6]) (by kernel_rfl) (by kernel_rfl) (by simp) ?_
          refine AllReadyL.cons (o := ?_) ?_ (fun K hK => ?_) AllReadyL.nil
          case refine_2 => (simp only [List.getElem?_cons_succ, List.getElem?_cons_zero]; rfl)
          go_simp
          (go_at_call 17; (with_reducible refine (HKO.out _ HXwg.out).mono ?_); rintro e wgx ⟨R6, t6, rfl, hr, ho⟩; have HR6 := Lib.hid hr; have HXwgx := Lib.hid (on_new HXwg.out ho); have HBwgx := Lib.hid (HBwg.out.only ho (Nat.not_le.2 HBwg.out.lt)); clear hr ho)
          go_wp2_with (fail)
          clear hHeld
          refine hK.out _ _ (KG.out _ HXwgx.out) (fun hHeld => ?_)
          clear hK K
          try simp only [Act.put, lsa, lsz, lss]
          refine wpAnyL_ready (rs := [7]) (by kernel_rfl) (by kernel_rfl) (by simp) ?_
          refine AllReadyL.cons (o := ?_) ?_ (fun K hK => ?_) AllReadyL.nil
          case refine_2 => (simp only [List.getElem?_cons_succ, List.getElem?_cons_zero]; rfl)
          have HKR1 := Lib.hid (HKR.out _ R6 t6 HXwgx.out HR6.out)
          go_simp
          (go_at_call 16; (with_reducible refine HKR1.out.mono ?_); rintro e wgxx ⟨L2, BA2, bn2, bc2, RB2, sn2, sc2, op2, fu2, dn2, rfl, hk, ho⟩; have HKV := Lib.hid hk; have HXwgxx := Lib.hid (on_new HXwgx.out ho); have HBwgxx := Lib.hid (HBwgx.out.only ho (Nat.not_le.2 HBwgx.out.lt)); clear hk ho)
          go_wp2_with (fail)
          clear hHeld
          refine hK.out _ _ (KG.out _ HXwgxx.out) (fun hHeld => ?_)
          clear hK K
          try simp only [Act.put, lsa, lsz, lss]
          refine oneA 8 79 hsel (h := ?_)
          simp only [Act.put, lsa, lsz, lss]
          refine oneA 9 88 hsel (h := ?_)
          simp only [Act.put, lsa, lsz, lss]
          refine oneA 10 89 hsel (h := ?_)
          simp only [Act.put, lsa, lsz, lss]
          refine wpAnyL_ready (rs := [11]) (by kernel_rfl) (by kernel_rfl) (by simp) ?_
          refine AllReadyL.cons (o := ?_) ?_ (fun K hK => ?_) AllReadyL.nil
          case refine_2 => (simp only [List.getElem?_cons_succ, List.getElem?_cons_zero]; rfl)
          obtain ⟨r0, r1, r2, r3, r4, r5⟩ := blk_six HBwgxx.out
          have f0 := HBwgxx.out.frozen 0
          have f1 := HBwgxx.out.frozen 1
          have f2 := HBwgxx.out.frozen 2
          have f3 := HBwgxx.out.frozen 3
          have f4 := HBwgxx.out.frozen 4
          have f5 := HBwgxx.out.frozen 5
          go_simp
          clear r0 r1 r2 r3 r4 r5 f0 f1 f2 f3 f4 f5
          have hk := kd_set (a' := .int .i64 L2) (b' := .slice BA2 bn2 bc2) (c' := .slice RB2 sn2 sc2) (d' := .int .i64 op2) (e' := .int .i64 fu2) (f' := .bool dn2) HBwgxx.out
          generalize hw7 : (((((wgxx.setCell ⟨b8, 0, none⟩ (.int .i64 L2)).setCell ⟨b8, 1, none⟩ (.slice BA2 bn2 bc2)).setCell ⟨b8, 2, none⟩ (.slice RB2 sn2 sc2)).setCell ⟨b8, 3, none⟩ (.int .i64 op2)).setCell ⟨b8, 4, none⟩ (.int .i64 fu2)).setCell ⟨b8, 5, none⟩ (.bool dn2) = wgxxx at hk ⊢
          clear hw7
          have HBn := Lib.hid hk.1
          have HSn : Hid (Only (fun k => k = b8) wgxx wgxxx) := Lib.hid hk.2
          clear hk
          clear hHeld
          refine hK.out _ _ (KG2.out _ _ HXwgxx.out HSn.out) (fun hHeld => ?_)
          clear hK K
          try simp only [Act.put, lsa, lsz, lss]
          refine oneA 12 12 hsel (h := ?_)
          simp only [Act.put, lsa, lsz, lss]
          refine wpAnyL_done (by kernel_rfl) (by kernel_rfl) ?_ _
          clear hsel hHeld
          go_wp2_with (fail)
          refine Met.intro ?_
          go_step
          (repeat apply Exists.intro)
          refine ⟨?relg067, rfl⟩
          exact ⟨L2, BA2, bn2, bc2, RB2, sn2, sc2, op2, fu2, dn2, rfl, Lib.hid ((HPR.out.env.later HXwgxx.out).far HSn.out (fun hk => HPR.out.off _ hk rfl) HQ8.out HPR.out.low), HBn, Lib.hid (HKV.out.step (HSn.out.mono fun k hk => .inl hk) (fun _ h => h.elim)), Lib.hid ((HTR.out.only HXwgxx.out (Nat.not_le.2 HTR.out.lt)).only HSn.out (fun e => HT8.out e))⟩
        case refine_6 =>
          go_simp
          (go_at_call 17; (with_reducible refine (HKO.out _ HXwg.out).mono ?_); rintro e wgx ⟨R6, t6, rfl, hr, ho⟩; have HR6 := Lib.hid hr; have HXwgx := Lib.hid (on_new HXwg.out ho); have HBwgx := Lib.hid (HBwg.out.only ho (Nat.not_le.2 HBwg.out.lt)); clear hr ho)
          go_wp2_with (fail)
          clear hHeld
          refine hK.out _ _ (KG.out _ HXwgx.out) (fun hHeld => ?_)
          clear hK K
          try simp only [Act.put, lsa, lsz, lss]
          refine wpAnyL_ready (rs := [0]) (by kernel_rfl) (by kernel_rfl) (by simp) ?_
          refine AllReadyL.cons (o := ?_) ?_ (fun K hK => ?_) AllReadyL.nil
          case refine_2 => (simp only [List.getElem?_cons_zero]; rfl)
          obtain ⟨r0, r1, r2, r3, r4, r5⟩ := blk_six HBwgx.out
          go_simp
          clear r0 r1 r2 r3 r4 r5
          clear hHeld
          refine hK.out _ _ (KG.out _ HXwgx.out) (fun hHeld => ?_)
          clear hK K
          try simp only [Act.put, lsa, lsz, lss]
          refine wpAnyL_ready (rs := [7]) (by kernel_rfl) (by kernel_rfl) (by simp) ?_
          refine AllReadyL.cons (o := ?_) ?_ (fun K hK => ?_) AllReadyL.nil
          case refine_2 => (simp only [List.getElem?_cons_succ, List.getElem?_cons_zero]; rfl)
          have HKR1 := Lib.hid (HKR.out _ R6 t6 HXwgx.out HR6.out)
          go_simp
          (go_at_call 16; (with_reducible refine HKR1.out.mono ?_); rintro e wgxx ⟨L2, BA2, bn2, bc2, RB2, sn2, sc2, op2, fu2, dn2, rfl, hk, ho⟩; have HKV := Lib.hid hk; have HXwgxx := Lib.hid (on_new HXwgx.out ho); have HBwgxx := Lib.hid (HBwgx.out.only ho (Nat.not_le.2 HBwgx.out.lt)); clear hk ho)
          go_wp2_with (fail)
          clear hHeld
          refine hK.out _ _ (KG.out _ HXwgxx.out) (fun hHeld => ?_)
          clear hK K
          try simp only [Act.put, lsa, lsz, lss]
          refine oneA 8 79 hsel (h := ?_)
          simp only [Act.put, lsa, lsz, lss]
          refine oneA 9 88 hsel (h := ?_)
          simp only [Act.put, lsa, lsz, lss]
          refine oneA 10 89 hsel (h := ?_)
          simp only [Act.put, lsa, lsz, lss]
          refine wpAnyL_ready (rs := [11]) (by kernel_rfl) (by kernel_rfl) (by simp) ?_
          refine AllReadyL.cons (o := ?_) ?_ (fun K hK => ?_) AllReadyL.nil
          case refine_2 => (simp only [List.getElem?_cons_succ, List.getElem?_cons_zero]; rfl)
          obtain ⟨r0, r1, r2, r3, r4, r5⟩ := blk_six HBwgxx.out
          have f0 := HBwgxx.out.frozen 0
          have f1 := HBwgxx.out.frozen 1
          have f2 := HBwgxx.out.frozen 2
          have f3 := HBwgxx.out.frozen 3
          have f4 := HBwgxx.out.frozen 4
          have f5 := HBwgxx.out.frozen 5
          go_simp
          clear r0 r1 r2 r3 r4 r5 f0 f1 f2 f3 f4 f5
          have hk := kd_set (a' := .int .i64 L2) (b' := .slice BA2 bn2 bc2) (c' := .slice RB2 sn2 sc2) (d' := .int .i64 op2) (e' := .int .i64 fu2) (f' := .bool dn2) HBwgxx.out
          generalize hw7 : (((((wgxx.setCell ⟨b8, 0, none⟩ (.int .i64 L2)).setCell ⟨b8, 1, none⟩ (.slice BA2 bn2 bc2)).setCell ⟨b8, 2, none⟩ (.slice RB2 sn2 sc2)).setCell ⟨b8, 3, none⟩ (.int .i64 op2)).setCell ⟨b8, 4, none⟩ (.int .i64 fu2)).setCell ⟨b8, 5, none⟩ (.bool dn2) = wgxxx at hk ⊢
          clear hw7
          have HBn := Lib.hid hk.1
          have HSn : Hid (Only (fun k => k = b8) wgxx wgxxx) := Lib.hid hk.2
          clear hk
          clear hHeld
          refine hK.out _ _ (KG2.out _ _ HXwgxx.out HSn.out) (fun hHeld => ?_)
          clear hK K
          try simp only [Act.put, lsa, lsz, lss]
          refine oneA 12 12 hsel (h := ?_)
          simp only [Act.put, lsa, lsz, lss]
          refine wpAnyL_done (by kernel_rfl) (by kernel_rfl) ?_ _
          clear hsel hHeld
          go_wp2_with (fail)
          refine Met.intro ?_
          go_step
          (repeat apply Exists.intro)
          refine ⟨?relg607, rfl⟩
          exact ⟨L2, BA2, bn2, bc2, RB2, sn2, sc2, op2, fu2, dn2, rfl, Lib.hid ((HPR.out.env.later HXwgxx.out).far HSn.out (fun hk => HPR.out.off _ hk rfl) HQ8.out HPR.out.low), HBn, Lib.hid (HKV.out.step (HSn.out.mono fun k hk => .inl hk) (fun _ h => h.elim)), Lib.hid ((HTR.out.only HXwgxx.out (Nat.not_le.2 HTR.out.lt)).only HSn.out (fun e => HT8.out e))⟩
      case rest =>
        obtain ⟨L2, BA2, bn2, bc2, RB2, sn2, sc2, op2, fu2, dn2, rfl, HEZ, HBZ, HKZ, HTZ⟩ := hcut
        clear HPR HTR KG KG2 HKO HKR HRK2 HOO
        generalize hwf : wc = wf at *
        clear hwf
        go_upto_region 17 with (fail)
        obtain ⟨Nn, hNn⟩ : ∃ z, z = dd.n := ⟨_, rfl⟩
        obtain ⟨Lm, hLm⟩ : ∃ z, z = dd.limit := ⟨_, rfl⟩
        obtain ⟨Nq, hNq⟩ : ∃ z, z = Nn / 4 := ⟨_, rfl⟩
        obtain ⟨Lq, hLq⟩ : ∃ z, z = Lm / 4 := ⟨_, rfl⟩
        have hwf := HEZ.out.at_.dat.wf
        obtain ⟨c1, c2, c3, c4⟩ := qs_nums hNq (by rw [hNn]; exact Nat.le_trans hwf.nl hwf.lim)
        obtain ⟨c5, c6, c7, c8⟩ := qs_nums hLq (by rw [hLm]; exact hwf.lim)
        have HPP := Lib.hid (fun W (hW : Only (wf.heap.size ≤ ·) wf W) => show Calls _ _ _ W _ from by have h9 := PgPages_c W q dp dd D3 (HEZ.out.at_.later hW); rw [← hNn, ← hNq] at h9; exact h9)
        have HSZ := Lib.hid (fun W (hW : Only (wf.heap.size ≤ ·) wf W) => show Calls _ _ _ W _ from by have h9 := Dk.Size_c W D3 dp dd (HEZ.out.at_.later hW).dat.holds; rw [← hNn] at h9; exact h9)
        have HPL := Lib.hid (fun W (hW : Only (wf.heap.size ≤ ·) wf W) => show Calls _ _ _ W _ from by have h9 := PgLimit_c W q dp dd D3 (HEZ.out.at_.later hW); rw [← hLm, ← hLq] at h9; exact h9)
        have HLM := Lib.hid (fun W (hW : Only (wf.heap.size ≤ ·) wf W) => show Calls _ _ _ W _ from by have h9 := Dk.Limit_c W D3 dp dd (HEZ.out.at_.later hW).dat.holds; rw [← hLm] at h9; exact h9)
        have HST := Lib.hid (fun W (hW : Only (wf.heap.size ≤ ·) wf W) => kstands_c W dp dd D3 (HEZ.out.at_.later hW).dat _ (kat_later HKZ.out hW) HRL.out)
        have HOF := Lib.hid (fun W (hW : Only (wf.heap.size ≤ ·) wf W) => show Calls Tryz.prog 13 #[.slice RA rn rc] W (fun e w' => ∃ R t, e = .returned (.slice R rn t) ∧ Wts w' (.slice R rn t) ws ∧ Only (W.heap.size ≤ ·) W w') from (pw_of w W RA rn rc ws HWS.out (on_new HOB.out (on_new HEZ.out.only hW)) HRN.out.1).mono (by
          rintro e w' ⟨R, t, C, rfl, hden, hown, ho⟩
          have hx : SRw wrE (fun _ => False) w' (.slice R rn t) ws := srw_of hden hown HLN.out (fun k h => h.elim) (on_new (on_new HOB.out (on_new HEZ.out.only hW)) ho)
          exact ⟨R, t, rfl, hx.rw_.now, ho⟩))
        have HPI0 := Lib.hid (fun W (R : Option Addr) (t9 : Nat) (hW : Only (wf.heap.size ≤ ·) wf W) (hr : Wts W (.slice R rn t9) ws) => show Calls Tryz.prog 18 #[.slice R rn t9, .agg #[.int .i64 g, .int .i64 ph, .int .i64 t, .int .i64 x, .int .i64 r, .int .i64 p, .int .i64 l, .slice MA mn mc]] W (Told W (.bool true)) from by
          have h9 := PgRight_c W g ph t x r p l MA mn mc R rn t9 ws (HG1.out.later (on_new HEZ.out.only hW)) hr (fun y hy => (HI.out y hy).2)
          rw [← HIS.out] at h9
          exact h9)
        have KZ : Hid (∀ W : World, Only (wf.heap.size ≤ ·) wf W → (fun W : World => (W.cell? ⟨b10, 0, none⟩ = some (.int .i64 g) ∧ W.cell? ⟨b10, 1, none⟩ = some (.int .i64 ph) ∧ W.cell? ⟨b10, 2, none⟩ = some (.int .i64 t) ∧ W.cell? ⟨b10, 3, none⟩ = some (.int .i64 x) ∧ W.cell? ⟨b10, 4, none⟩ = some (.int .i64 r) ∧ W.cell? ⟨b10, 5, none⟩ = some (.int .i64 p) ∧ W.cell? ⟨b10, 6, none⟩ = some (.int .i64 l) ∧ W.cell? ⟨b10, 7, none⟩ = some (.slice MA mn mc)) ∧ W.cell? ⟨b8, 0, none⟩ = some (.int .i64 L2) ∧ W.cell? ⟨b8, 1, none⟩ = some (.slice BA2 bn2 bc2) ∧ W.cell? ⟨b8, 2, none⟩ = some (.slice RB2 sn2 sc2) ∧ W.cell? ⟨b8, 3, none⟩ = some (.int .i64 op2) ∧ W.cell? ⟨b8, 4, none⟩ = some (.int .i64 fu2) ∧ W.cell? ⟨b8, 5, none⟩ = some (.bool dn2)) W) := Lib.hid (fun W hW => ⟨(HTZ.out.only hW (Nat.not_le.2 HTZ.out.lt)).eight, blk_six (HBZ.out.only hW (Nat.not_le.2 HBZ.out.lt))⟩)
        have HZ0 : Hid (Only (wf.heap.size ≤ ·) wf wf.drew) := Lib.hid (Only.refl _ wf).drew
        have HSZ0 := Lib.hid (KZ.out _ HZ0.out)
        clear hNn hLm hNq hLq hwf
        refine wp_region_list (B := [false, false, false, false, false, false, false, false, false, false, false, false, false, false, false, false, false, false, false, false, false, false, false, false, false, false, false, false, false, false, false, false, false, false, false, false]) (S := (fun W : World => (W.cell? ⟨b10, 0, none⟩ = some (.int .i64 g) ∧ W.cell? ⟨b10, 1, none⟩ = some (.int .i64 ph) ∧ W.cell? ⟨b10, 2, none⟩ = some (.int .i64 t) ∧ W.cell? ⟨b10, 3, none⟩ = some (.int .i64 x) ∧ W.cell? ⟨b10, 4, none⟩ = some (.int .i64 r) ∧ W.cell? ⟨b10, 5, none⟩ = some (.int .i64 p) ∧ W.cell? ⟨b10, 6, none⟩ = some (.int .i64 l) ∧ W.cell? ⟨b10, 7, none⟩ = some (.slice MA mn mc)) ∧ W.cell? ⟨b8, 0, none⟩ = some (.int .i64 L2) ∧ W.cell? ⟨b8, 1, none⟩ = some (.slice BA2 bn2 bc2) ∧ W.cell? ⟨b8, 2, none⟩ = some (.slice RB2 sn2 sc2) ∧ W.cell? ⟨b8, 3, none⟩ = some (.int .i64 op2) ∧ W.cell? ⟨b8, 4, none⟩ = some (.int .i64 fu2) ∧ W.cell? ⟨b8, 5, none⟩ = some (.bool dn2))) (by kernel_rfl) (by kernel_rfl) (by kernel_rfl) HSZ0.out (fun hsel hHeld => ?_)
        generalize hwz : World.drew _ = wy0 at HZ0 HSZ0 hHeld ⊢
        clear hwz
        refine wpAnyL_ready (rs := [0]) (by kernel_rfl) (by kernel_rfl) (by simp) ?_
        refine AllReadyL.cons (o := ?_) ?_ (fun K hK => ?_) AllReadyL.nil
        case refine_2 => (simp only [List.getElem?_cons_zero]; rfl)
        go_simp
        (go_at_call 6; (with_reducible refine (HAL.out _ (on_new HEZ.out.only HZ0.out)).mono ?_); rintro e wy1 ⟨rfl, ho⟩; have HZ1 := Lib.hid (on_new HZ0.out ho); clear ho)
        go_wp2_with (fail)
        clear hHeld
        refine hK.out _ _ (KZ.out _ HZ1.out) (fun hHeld => ?_)
        clear hK K
        try simp only [Act.put, lsa, lsz, lss]
        refine oneA 1 91 hsel (h := ?_)
        simp only [Act.put, lsa, lsz, lss]
        refine oneA 2 92 hsel (h := ?_)
        simp only [Act.put, lsa, lsz, lss]
        refine oneA 4 94 hsel (h := ?_)
        simp only [Act.put, lsa, lsz, lss]
        refine oneA 6 96 hsel (h := ?_)
        simp only [Act.put, lsa, lsz, lss]
        refine wpAnyL_ready (rs := [3]) (by kernel_rfl) (by kernel_rfl) (by simp) ?_
        refine AllReadyL.cons (o := ?_) ?_ (fun K hK => ?_) AllReadyL.nil
        case refine_2 => (simp only [List.getElem?_cons_succ, List.getElem?_cons_zero]; rfl)
        go_simp
        (go_at_call 13; (with_reducible refine (HOF.out _ HZ1.out).mono ?_); rintro e wy2 ⟨R9, t9, rfl, hw, ho⟩; have HR9 := Lib.hid hw; have HZ2 := Lib.hid (on_new HZ1.out ho); clear hw ho)
        go_wp2_with (fail)
        clear hHeld
        refine hK.out _ _ (KZ.out _ HZ2.out) (fun hHeld => ?_)
        clear hK K
        try simp only [Act.put, lsa, lsz, lss]
        refine wpAnyL_ready (rs := [5]) (by kernel_rfl) (by kernel_rfl) (by simp) ?_
        refine AllReadyL.cons (o := ?_) ?_ (fun K hK => ?_) AllReadyL.nil
        case refine_2 => (simp only [List.getElem?_cons_succ, List.getElem?_cons_zero]; rfl)
        have HPI := Lib.hid (HPI0.out _ R9 t9 HZ2.out HR9.out)
        go_simp
        (go_at_call 18; (with_reducible refine HPI.out.mono ?_); rintro e wy3 ⟨rfl, ho⟩; have HZ3 := Lib.hid (on_new HZ2.out ho); clear ho)
        go_wp2_with (fail)
        clear hHeld
        refine hK.out _ _ (KZ.out _ HZ3.out) (fun hHeld => ?_)
        clear hK K
        try simp only [Act.put, lsa, lsz, lss]
        refine oneA 7 97 hsel (h := ?_)
        simp only [Act.put, lsa, lsz, lss]
        try simp only [beq_self_eq_true]
        refine oneA 8 98 hsel (h := ?_)
        simp only [Act.put, lsa, lsz, lss]
        refine oneA 9 99 hsel (h := ?_)
        simp only [Act.put, lsa, lsz, lss]
        refine oneA 10 100 hsel (h := ?_)
        simp only [Act.put, lsa, lsz, lss]
        refine oneA 11 101 hsel (h := ?_)
        simp only [Act.put, lsa, lsz, lss]
        refine oneA 12 102 hsel (h := ?_)
        simp only [Act.put, lsa, lsz, lss]
        try simp only [beq_self_eq_true]
        refine oneA 13 103 hsel (h := ?_)
        simp only [Act.put, lsa, lsz, lss]
        refine oneA 14 104 hsel (h := ?_)
        simp only [Act.put, lsa, lsz, lss]
        refine oneA 15 105 hsel (h := ?_)
        simp only [Act.put, lsa, lsz, lss]
        refine oneA 16 106 hsel (h := ?_)
        simp only [Act.put, lsa, lsz, lss]
        refine wpAnyL_ready (rs := [17]) (by kernel_rfl) (by kernel_rfl) (by simp) ?_
        refine AllReadyL.cons (o := ?_) ?_ (fun K hK => ?_) AllReadyL.nil
        case refine_2 => (simp only [List.getElem?_cons_succ, List.getElem?_cons_zero]; rfl)
        go_simp
        (go_at_call 19; (with_reducible refine (HST.out _ HZ3.out).mono ?_); rintro e wy4 ⟨rfl, ho⟩; have HZ4 := Lib.hid (on_new HZ3.out ho); clear ho)
        go_wp2_with (fail)
        clear hHeld
        refine hK.out _ _ (KZ.out _ HZ4.out) (fun hHeld => ?_)
        clear hK K
        try simp only [Act.put, lsa, lsz, lss]
        refine oneA 18 108 hsel (h := ?_)
        simp only [Act.put, lsa, lsz, lss]
        refine oneA 19 109 hsel (h := ?_)
        simp only [Act.put, lsa, lsz, lss]
        refine oneA 20 110 hsel (h := ?_)
        simp only [Act.put, lsa, lsz, lss]
        refine oneA 22 112 hsel (h := ?_)
        simp only [Act.put, lsa, lsz, lss]
        refine wpAnyL_ready (rs := [21]) (by kernel_rfl) (by kernel_rfl) (by simp) ?_
        refine AllReadyL.cons (o := ?_) ?_ (fun K hK => ?_) AllReadyL.nil
        case refine_2 => (simp only [List.getElem?_cons_succ, List.getElem?_cons_zero]; rfl)
        go_simp
        (go_at_call 20; (with_reducible refine (HPP.out _ HZ4.out).mono ?_); rintro e wz ⟨rfl, rfl⟩)
        go_wp2_with (fail)
        clear hHeld
        refine hK.out _ _ (KZ.out _ HZ4.out) (fun hHeld => ?_)
        clear hK K
        try simp only [Act.put, lsa, lsz, lss]
        refine wpAnyL_ready (rs := [23]) (by kernel_rfl) (by kernel_rfl) (by simp) ?_
        refine AllReadyL.cons (o := ?_) ?_ (fun K hK => ?_) AllReadyL.nil
        case refine_2 => (simp only [List.getElem?_cons_succ, List.getElem?_cons_zero]; rfl)
        go_simp
        (go_at_call 21; (with_reducible refine (HSZ.out _ HZ4.out).mono ?_); rintro e wz ⟨rfl, rfl⟩)
        go_wp2_with (fail)
        clear hHeld
        refine hK.out _ _ (KZ.out _ HZ4.out) (fun hHeld => ?_)
        clear hK K
        try simp only [Act.put, lsa, lsz, lss]
        refine oneA 24 114 hsel (h := ?_)
        simp only [Act.put, lsa, lsz, lss]
        try simp only [c4]
        refine oneA 25 115 hsel (h := ?_)
        simp only [Act.put, lsa, lsz, lss]
        try simp only [beq_self_eq_true]
        refine oneA 26 116 hsel (h := ?_)
        simp only [Act.put, lsa, lsz, lss]
        refine oneA 27 117 hsel (h := ?_)
        simp only [Act.put, lsa, lsz, lss]
        refine oneA 28 118 hsel (h := ?_)
        simp only [Act.put, lsa, lsz, lss]
        refine oneA 30 120 hsel (h := ?_)
        simp only [Act.put, lsa, lsz, lss]
        refine wpAnyL_ready (rs := [29]) (by kernel_rfl) (by kernel_rfl) (by simp) ?_
        refine AllReadyL.cons (o := ?_) ?_ (fun K hK => ?_) AllReadyL.nil
        case refine_2 => (simp only [List.getElem?_cons_succ, List.getElem?_cons_zero]; rfl)
        go_simp
        (go_at_call 22; (with_reducible refine (HPL.out _ HZ4.out).mono ?_); rintro e wz ⟨rfl, rfl⟩)
        go_wp2_with (fail)
        clear hHeld
        refine hK.out _ _ (KZ.out _ HZ4.out) (fun hHeld => ?_)
        clear hK K
        try simp only [Act.put, lsa, lsz, lss]
        refine wpAnyL_ready (rs := [31]) (by kernel_rfl) (by kernel_rfl) (by simp) ?_
        refine AllReadyL.cons (o := ?_) ?_ (fun K hK => ?_) AllReadyL.nil
        case refine_2 => (simp only [List.getElem?_cons_succ, List.getElem?_cons_zero]; rfl)
        go_simp
        (go_at_call 23; (with_reducible refine (HLM.out _ HZ4.out).mono ?_); rintro e wz ⟨rfl, rfl⟩)
        go_wp2_with (fail)
        clear hHeld
        refine hK.out _ _ (KZ.out _ HZ4.out) (fun hHeld => ?_)
        clear hK K
        try simp only [Act.put, lsa, lsz, lss]
        refine oneA 32 122 hsel (h := ?_)
        simp only [Act.put, lsa, lsz, lss]
        try simp only [c8]
        refine oneA 33 123 hsel (h := ?_)
        simp only [Act.put, lsa, lsz, lss]
        try simp only [beq_self_eq_true]
        refine oneA 34 124 hsel (h := ?_)
        simp only [Act.put, lsa, lsz, lss]
        refine oneA 35 6 hsel (h := ?_)
        simp only [Act.put, lsa, lsz, lss]
        refine wpAnyL_done (by kernel_rfl) (by kernel_rfl) ?_ _
        clear hsel hHeld
        go_wp2_with (fail)
        go_ret
        exact ⟨rfl, on_new HOB.out (on_new HEZ.out.only HZ4.out)⟩
end Go.Proofs.YtbpldkhgiddmlaaGreatDoor
