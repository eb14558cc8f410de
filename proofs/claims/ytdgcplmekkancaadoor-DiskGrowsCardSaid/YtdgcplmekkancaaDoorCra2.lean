/-
  Crash of a disk: the walk.
-/
import Derived.Test.YtdgcplmekkancaaDoorCrsh
set_option linter.unusedVariables false
namespace Go.Proofs.YtdgcplmekkancaaDoor
open Go.RowKit

/-- A slice of bools that lies in a block of which F does not speak. -/
def SrcB (w : World) (F : Nat → Prop) (A : Option Addr) (kl : List Bool) : Prop :=
  0 < kl.length → ∃ ad, A = some ad ∧ ¬ F ad.block ∧ ∀ j b, kl[j]? = some b → w.cell? (ad.add j) = some (.bool b)

theorem add_block (a : Addr) (n : Nat) : (a.add n).block = a.block := by unfold Addr.add; split <;> rfl

set_option maxRecDepth 100000 in
set_option maxHeartbeats 3200000 in
theorem Crash_c (w : World) (F : Nat → Prop) (hF : ∀ k, w.heap.size ≤ k → F k) (p : Nat) (d : Dsk) (h : Holds w F p d) (hr : d.row.length ≤ 4294967296) (A : Option Addr) (c nk : Nat) (kl : List Bool) (hnk : kl.length = nk) (hs : SrcB w F A kl) (hkl : nk ≤ 4611686018427387904) :
    Calls Tryd.prog 10 #[.pointer (some ⟨p, 0, none⟩), .slice A nk c] w fun e w' => e = .returned (.tuple #[]) ∧ Holds w' F p (d.crash kl) ∧ Only F w w' := by
  obtain ⟨hw, Ad, As, Ar, cd, cs, cr, hd, hf⟩ := h
  have c3 : w.cell? ⟨p, 3, none⟩ = some (.slice Ar d.row.length cr) := hd.blk.cell 3
  have HD := Lib.hid hd
  have HFT := Lib.hid hf
  have HW := Lib.hid hw
  have HF := Lib.hid hF
  have HS := Lib.hid hs
  have HK := Lib.hid hnk
  clear hd hf hw hF hs hnk
  go_enter Tryd.func10, Tryd.ntmps10
  go_wp2
  clear c3
  go_loopw [13] (fun i wr => ∃ k : Nat, k ≤ d.row.length ∧ i = .int .i64 k ∧ Run w wr F p d (look d.dur (kept kl d.row k)) d.see Ad As Ar cd cs cr) (fun i _ => d.row.length - (intOf i).toNat)
  case atStart => exact ⟨0, Nat.zero_le _, rfl, HD.out, Only.refl _ _⟩
  case round =>
    obtain ⟨k, hk, rfl, hrun⟩ := hrel
    have HR := Lib.hid hrun
    have hrb : (d.row.length : Int) ≤ 4294967296 := by omega
    clear hrun
    by_cases hlt : k < d.row.length
    · obtain ⟨e, he⟩ : ∃ e, e = d.row[k] := ⟨_, rfl⟩
      have hefit := HW.out.fits e (by rw [he]; exact List.getElem_mem hlt)
      obtain ⟨gr, rfl, hgr, hrange⟩ := row_at HR.out.disk HW.out.fits hlt
      rw [← he] at hrange
      have hXl : (look d.dur (kept kl d.row k)).length = d.n * 64 := look_length _ _ (kept_fits HW.out.fits) HW.out.len
      obtain ⟨gd, rfl, hgd, hgdp, hthere⟩ := dur_at (d := { d with dur := look d.dur (kept kl d.row k) }) HR.out.disk hXl hefit.1
      have HX := Lib.hid hXl
      have He := Lib.hid he
      have Hfit := Lib.hid hefit
      have Hrange := Lib.hid hrange
      have Hthere := Lib.hid hthere
      have Hgd := Lib.hid (And.intro hgd hgdp)
      have hk0 : (0 : Int) ≤ (k : Int) := Int.natCast_nonneg _
      have hk1 : (k : Int) < (d.row.length : Int) := by omega
      have ha0 : (0 : Int) ≤ (e.1 : Int) := Int.natCast_nonneg _
      have ha1 : (e.1 : Int) < (d.n : Int) := by omega
      have hsz : (Tryd.prog.info? 53).map (·.size) = some (wrCells e).length := by rw [size58, wrCells_length hefit.2]
      have Hsz := Lib.hid hsz
      clear hsz he hefit hrange hthere hXl hgd hgdp hgr
      have hz := zero58
      have Hsz' : Hid ((Tryd.prog.info? 53).map (·.size) = some (wrCells e).toArray.size ∧ Z58.size = (wrCells e).toArray.size ∧ (wrCells e).toArray.all (·.oneCell') = true) := by
        refine ⟨by rw [Hsz.out]; simp, by rw [Z58_size, List.size_toArray, wrCells_length Hfit.out.2], all_oneCell_toArray (wrCells_one e)⟩
      have Hnext : Hid (kept kl d.row (k + 1) = kept kl d.row k ++ if keepAt kl k = true then [e] else []) := by
        have := kept_succ kl d.row k hlt
        rw [← He.out] at this
        exact this
      have HFa : Hid (∀ k, w.heap.size ≤ k → F k) := HF
      by_cases h0 : 0 < nk
      · obtain ⟨ad, rfl, hFad, hcell⟩ := HS.out (by rw [HK.out]; exact h0)
        obtain ⟨b, hb⟩ : ∃ b, kl[k % nk]? = some b := ⟨_, List.getElem?_eq_getElem (by rw [HK.out]; exact Nat.mod_lt _ h0)⟩
        have hkeep : keepAt kl k = b := by
          have := HK.out
          unfold keepAt
          rw [this, List.getD_eq_getElem?_getD, hb]
          simp [h0]
        have hcb : (wr.alloc (.cells (wrCells e).toArray 53)).cell? (ad.add (k % nk)) = some (.bool b) := by
          have h1 := hcell _ _ hb
          have h2 : wr.cell? (ad.add (k % nk)) = some (.bool b) := (HR.out.only.cell (p := ad.add (k % nk)) (by rw [add_block]; exact hFad)).trans h1
          rw [World.cell?_alloc_lt _ _ _ (World.block_lt_of_cell? wr _ h2)]
          exact h2
        have hm0 : (0 : Int) ≤ (k : Int) % (nk : Int) := Int.emod_nonneg _ (by omega)
        have hm1 : (k : Int) % (nk : Int) < (nk : Int) := Int.emod_lt_of_pos _ (by omega)
        have hnkz : ¬ ((nk : Int) = 0) := by omega
        have Hkeep := Lib.hid hkeep
        clear hkeep hb hcell hFad
        cases b with
        | false =>
          have HN : Hid (Run w (wr.alloc (.cells (wrCells e).toArray 53)) F p d (look d.dur (kept kl d.row (k + 1))) d.see (some ⟨gd, 0, none⟩) As (some ⟨gr, 0, none⟩) cd cs cr) := by
            show Run _ _ _ _ _ _ _ _ _ _ _ _ _
            rw [Hnext.out, if_neg (by rw [Hkeep.out]; decide), List.append_nil]
            exact HR.out.alloc HF.out _
          go_wp2_with (first | (refine wpList_load_mid rfl 53 (.tmp 16) rfl gr (k * 65) (by simp [Act.eval]) (wrCells e) _ Hrange.out Tryd.underlying53 rfl Hsz.out ?_) | (refine wpList_store_row rfl 53 (.tmp 5) (.tmp 17) rfl wr.heap.size (wrCells e).toArray (by simp [Act.eval]) (by simp [Act.eval]) 53 Z58 (heap_alloc_last wr _) Hsz'.out.1 Hsz'.out.2.1 Hsz'.out.2.2 ?_; rw [World.setRow_alloc_new]))
          go_roundw
          case rel => exact ⟨k + 1, by omega, by go_num, HN.out⟩
          case measure => simp [intOf]; omega
        | true =>
          have HN : Hid (Run w ((wr.alloc (.cells (wrCells e).toArray 53)).drew.setCells gd (e.1 * 64) (cb e.2)) F p d (look d.dur (kept kl d.row (k + 1))) d.see (some ⟨gd, 0, none⟩) As (some ⟨gr, 0, none⟩) cd cs cr) := by
            show Run _ _ _ _ _ _ _ _ _ _ _ _ _
            rw [Hnext.out, if_pos Hkeep.out, look_append]
            exact HR.out.step HF.out HFT.out (.cells (wrCells e).toArray 53) HX.out Hfit.out.1 Hfit.out.2 rfl
          go_wp2_with (first | (refine wpList_load_mid rfl 53 (.tmp 16) rfl gr (k * 65) (by simp [Act.eval]) (wrCells e) _ Hrange.out Tryd.underlying53 rfl Hsz.out ?_) | (refine wpList_store_row rfl 53 (.tmp 5) (.tmp 17) rfl wr.heap.size (wrCells e).toArray (by simp [Act.eval]) (by simp [Act.eval]) 53 Z58 (heap_alloc_last wr _) Hsz'.out.1 Hsz'.out.2.1 Hsz'.out.2.2 ?_; rw [World.setRow_alloc_new]))
          have hu := Tryd.underlying47
          have hi : (Tryd.prog.info? 47).map (·.size) = some (cb e.2).length := by rw [size53, cb_length, Hfit.out.2]
          have hl64 : (cb e.2).length = 64 := by rw [cb_length, Hfit.out.2]
          have h1c := cb_one e.2
          have HY := Lib.hid (Ready.mk (e := e) (HR.out.disk.blk.cell 1) Hthere.out)
          have Hne : Hid (gd ≠ wr.heap.size) := by have := Hgd.out.1; exact (by omega : gd ≠ wr.heap.size)
          have HYd : Hid (Ready p gd d.n cd wr.heap.size e (wr.alloc (.cells (wrCells e).toArray 53)).drew) := HY.out
          have HYs : Hid (Ready p gd d.n cd wr.heap.size e ((wr.alloc (.cells (wrCells e).toArray 53)).drew.setCells gd (e.1 * 64) (cb e.2))) := Lib.hid (HYd.out.stored Hgd.out.2 Hne.out _)
          clear hcb
          go_region_held3 (fun w' => w'.cell? ⟨p, 1, none⟩ = some (.slice (some ⟨gd, 0, none⟩) d.n cd) ∧ w'.cell? ⟨wr.heap.size, 0, none⟩ = some (.int .i64 e.1) ∧ w'.rangeAt wr.heap.size 1 (cb e.2) ∧ w'.there gd (e.1 * 64) 64) (first | exact HYd.out | exact HYs.out) (fail)
          clear HY HYd HYs Hne hu hi hl64 h1c
          generalize (wr.alloc (.cells (wrCells e).toArray 53)).drew.setCells gd (e.1 * 64) (cb e.2) = wz at HN
          go_wp2
          go_roundw
          case rel => exact ⟨k + 1, by omega, by go_num, HN.out⟩
          case measure => simp [intOf]; omega
      · have HN : Hid (Run w (wr.alloc (.cells (wrCells e).toArray 53)) F p d (look d.dur (kept kl d.row (k + 1))) d.see (some ⟨gd, 0, none⟩) As (some ⟨gr, 0, none⟩) cd cs cr) := by
          show Run _ _ _ _ _ _ _ _ _ _ _ _ _
          have := HK.out
          rw [Hnext.out, if_neg (by simp [keepAt]; omega), List.append_nil]
          exact HR.out.alloc HF.out _
        go_wp2_with (first | (refine wpList_load_mid rfl 53 (.tmp 16) rfl gr (k * 65) (by simp [Act.eval]) (wrCells e) _ Hrange.out Tryd.underlying53 rfl Hsz.out ?_) | (refine wpList_store_row rfl 53 (.tmp 5) (.tmp 17) rfl wr.heap.size (wrCells e).toArray (by simp [Act.eval]) (by simp [Act.eval]) 53 Z58 (heap_alloc_last wr _) Hsz'.out.1 Hsz'.out.2.1 Hsz'.out.2.2 ?_; rw [World.setRow_alloc_new]))
        go_roundw
        case rel => exact ⟨k + 1, by omega, by go_num, HN.out⟩
        case measure => simp [intOf]; omega
    · have hkm : ¬ (k : Int) < (d.row.length : Int) := by omega
      have q3 : wr.cell? ⟨p, 3, none⟩ = some (.slice Ar d.row.length cr) := HR.out.disk.blk.cell 3
      have hkl2 : k = d.row.length := by omega
      have HR1 : Hid (Run w wr F p d (look d.dur (kept kl d.row d.row.length)) d.see Ad As Ar cd cs cr) := by rw [← hkl2]; exact HR
      clear HR hkl2
      obtain ⟨X, hX⟩ : ∃ X, X = look d.dur (kept kl d.row d.row.length) := ⟨_, rfl⟩
      have HXe := Lib.hid hX
      have HXl : Hid (X.length = d.n * 64) := by show _ = _; rw [hX]; exact look_length _ _ (kept_fits HW.out.fits) HW.out.len
      rw [← hX] at HR1
      clear hX
      go_wp2
      go_loopw [45] (fun i wx => ∃ j : Nat, j ≤ d.row.length ∧ i = .int .i64 j ∧ Run w wx F p d X (refix X d.see (d.row.take j)) Ad As Ar cd cs cr) (fun i _ => d.row.length - (intOf i).toNat)
      case atStart => exact ⟨0, Nat.zero_le _, rfl, HR1.out⟩
      case round =>
        obtain ⟨j, hj, rfl, hrun⟩ := hrel
        have HR := Lib.hid hrun
        clear hrun q3 hkm HR1
        by_cases hlt : j < d.row.length
        · obtain ⟨e, he⟩ : ∃ e, e = d.row[j] := ⟨_, rfl⟩
          have hefit := HW.out.fits e (by rw [he]; exact List.getElem_mem hlt)
          obtain ⟨gr, rfl, hgr, hrange⟩ := row_at HR.out.disk HW.out.fits hlt
          rw [← he] at hrange
          obtain ⟨gd, rfl, hgd, hgdp, hdr⟩ := dur_range (d := { d with dur := X }) HR.out.disk HXl.out hefit.1
          have hYl : (refix X d.see (d.row.take j)).length = d.n * 64 := refix_length HXl.out _ _ (HW.out.fits.take j) HW.out.see
          obtain ⟨gs, rfl, hgs, hgsp, hthere⟩ := seen_at (d := { d with dur := X }) HR.out.disk hYl hefit.1
          have hds : gd ≠ gs := HR.out.disk.apart _ _ rfl rfl
          obtain ⟨x, hx⟩ : ∃ x, x = (X.drop (e.1 * 64)).take 64 := ⟨_, rfl⟩
          have hxl : x.length = 64 := by rw [hx]; exact sect_length HXl.out hefit.1
          have hdr' : wr.rangeAt gd (e.1 * 64) (cb x) := by rw [hx]; exact hdr
          have Hx := Lib.hid hx
          have HY0 := Lib.hid hYl
          have He := Lib.hid he
          have Hfit := Lib.hid hefit
          have Hrange := Lib.hid hrange
          have HY := Lib.hid (Ready2.mk (e := e) (HR.out.disk.blk.cell 1) (HR.out.disk.blk.cell 2) hdr' hthere)
          have HYd : Hid (Ready2 p gd gs d.n cd cs wr.heap.size e.1 x (wr.alloc (.cells (wrCells e).toArray 53)).drew) := HY.out
          have HYs : Hid (Ready2 p gd gs d.n cd cs wr.heap.size e.1 x ((wr.alloc (.cells (wrCells e).toArray 53)).drew.setCells gs (e.1 * 64) (cb x))) := Lib.hid (HYd.out.stored hgsp (by omega) hds _)
          have HN : Hid (Run w ((wr.alloc (.cells (wrCells e).toArray 53)).drew.setCells gs (e.1 * 64) (cb x)) F p d X (refix X d.see (d.row.take (j + 1))) (some ⟨gd, 0, none⟩) (some ⟨gs, 0, none⟩) (some ⟨gr, 0, none⟩) cd cs cr) := by
            have hs := HR.out.stepS HF.out HFT.out (.cells (wrCells e).toArray 53) (x := x) hYl hefit.1 hxl rfl
            have e1 : refix X d.see (d.row.take (j + 1)) = over (refix X d.see (d.row.take j)) (e.1 * 64) x := by
              rw [List.take_succ_eq_append_getElem hlt, refix_append, ← he, hx]
              rfl
            rw [e1]
            exact hs
          have hk0 : (0 : Int) ≤ (j : Int) := Int.natCast_nonneg _
          have hk1 : (j : Int) < (d.row.length : Int) := by omega
          have ha0 : (0 : Int) ≤ (e.1 : Int) := Int.natCast_nonneg _
          have ha1 : (e.1 : Int) < (d.n : Int) := by omega
          have hsz : (Tryd.prog.info? 53).map (·.size) = some (wrCells e).length := by rw [size58, wrCells_length hefit.2]
          have Hsz := Lib.hid hsz
          have Hxl := Lib.hid hxl
          clear hsz he hefit hrange hthere hYl hgd hgdp hgr hgs hgsp hdr hdr' hds hx hxl
          have hz := zero58
          have Hsz' : Hid ((Tryd.prog.info? 53).map (·.size) = some (wrCells e).toArray.size ∧ Z58.size = (wrCells e).toArray.size ∧ (wrCells e).toArray.all (·.oneCell') = true) := by
            refine ⟨by rw [Hsz.out]; simp, by rw [Z58_size, List.size_toArray, wrCells_length Hfit.out.2], all_oneCell_toArray (wrCells_one e)⟩
          go_wp2_with (first | (refine wpList_load_mid rfl 53 (.tmp 47) rfl gr (j * 65) (by simp [Act.eval]) (wrCells e) _ Hrange.out Tryd.underlying53 rfl Hsz.out ?_) | (refine wpList_store_row rfl 53 (.tmp 7) (.tmp 48) rfl wr.heap.size (wrCells e).toArray (by simp [Act.eval]) (by simp [Act.eval]) 53 Z58 (heap_alloc_last wr _) Hsz'.out.1 Hsz'.out.2.1 Hsz'.out.2.2 ?_; rw [World.setRow_alloc_new]))
          go_simp
          have hu := Tryd.underlying47
          have hi : (Tryd.prog.info? 47).map (·.size) = some (cb x).length := by rw [size53, cb_length, Hxl.out]
          have hl64 : (cb x).length = 64 := by rw [cb_length, Hxl.out]
          have h1c := cb_one x
          go_region_held3 (fun w' => w'.cell? ⟨p, 1, none⟩ = some (.slice (some ⟨gd, 0, none⟩) d.n cd) ∧ w'.cell? ⟨p, 2, none⟩ = some (.slice (some ⟨gs, 0, none⟩) d.n cs) ∧ w'.cell? ⟨wr.heap.size, 0, none⟩ = some (.int .i64 e.1) ∧ w'.rangeAt gd (e.1 * 64) (cb x) ∧ w'.there gs (e.1 * 64) 64) (first | exact HYd.out | exact HYs.out) (fail)
          clear HY HYd HYs hu hi hl64 h1c
          generalize (wr.alloc (.cells (wrCells e).toArray 53)).drew.setCells gs (e.1 * 64) (cb x) = wz at HN
          go_wp2
          go_roundw
          case rel => exact ⟨j + 1, by omega, by go_num, HN.out⟩
          case measure => simp [intOf]; omega
        · have hjm : ¬ (j : Int) < (d.row.length : Int) := by omega
          have hjl : j = d.row.length := by omega
          have q3 : wr.cell? ⟨p, 3, none⟩ = some (.slice Ar d.row.length cr) := HR.out.disk.blk.cell 3
          have q7 : wr.cell? ⟨p, 7, none⟩ = some (.bool d.down) := HR.out.disk.blk.cell 7
          have qf : ∀ i, wr.frozen? ⟨p, i, none⟩ = false := HR.out.disk.blk.frozen
          have HA : Hid (Holds ((wr.setCell ⟨p, 3, none⟩ (.slice none 0 0)).setCell ⟨p, 7, none⟩ (.bool false)) F p { d with dur := X, row := [], down := false } ∧ Only F w ((wr.setCell ⟨p, 3, none⟩ (.slice none 0 0)).setCell ⟨p, 7, none⟩ (.bool false))) := by
            have hR := HR.out
            rw [hjl, List.take_length] at hR
            have hre := refix_crash HW.out kl
            rw [← HXe.out] at hre
            rw [hre] at hR
            have hwf := HW.out
            have hf := HFT.out
            have far : ∀ k, k ≠ p → ((wr.setCell ⟨p, 3, none⟩ (.slice none 0 0)).setCell ⟨p, 7, none⟩ (.bool false)).heap[k]? = wr.heap[k]? := fun k hk =>
              (Below.heap_setCell _ ⟨p, 7, none⟩ _ k hk).trans (Below.heap_setCell wr ⟨p, 3, none⟩ _ k hk)
            refine ⟨⟨⟨hwf.nl, hwf.lim, HXl.out, (fun e he => nomatch he), hwf.left⟩, Ad, As, none, cd, cs, 0, ⟨?_, ?_, ?_, World.ownsRow_nil _ _ _ _, hR.disk.apart⟩, ?_⟩, (hR.only.setCell (p := ⟨p, 3, none⟩) (hf p (.inl rfl)) _).setCell (p := ⟨p, 7, none⟩) (hf p (.inl rfl)) _⟩
            · exact (hR.disk.blk.set_ 3 (.slice none 0 0)).set_ 7 (.bool false)
            · exact owns_far hR.disk.dur fun a ha => far _ (hR.disk.ne_d a ha)
            · exact owns_far hR.disk.seen fun a ha => far _ (hR.disk.ne_s a ha)
            · rintro k (rfl | h | h | ⟨a, ha, _⟩)
              · exact hf _ (.inl rfl)
              · exact hf _ (.inr (.inl h))
              · exact hf _ (.inr (.inr (.inl h)))
              · cases ha
          go_wp2_with (go_at_call 18; refine (Arm_c _ F p _ HA.out.1 (-1) (by omega)).mono ?_; rintro e w2 ⟨rfl, hh2, ho2⟩; have H2 := Lib.hid (And.intro hh2 ho2); clear hh2 ho2)
          go_end0
          have E : d.crash kl = Dsk.arm { d with dur := X, row := [], down := false } (-1) := by
            rw [HXe.out]
            rfl
          rw [E]
          exact ⟨rfl, H2.out.1, HA.out.2.trans H2.out.2⟩
end Go.Proofs.YtdgcplmekkancaaDoor
