/-
  Sync of a disk.
-/
import Derived.Test.YtdgcplmekkancaaDoorMeth
import Derived.Deep.RegionHeld3
import Derived.Deep.WholeRow
set_option linter.unusedVariables false
namespace Go.Proofs.YtdgcplmekkancaaDoor
open Go.RowKit

theorem size53 : (Tryd.prog.info? 47).map (·.size) = some 64 := by kernel_rfl
theorem size58 : (Tryd.prog.info? 53).map (·.size) = some 65 := by kernel_rfl
def Z58 : Array Value := (#[.int .i64 0] : Array Value) ++ Array.replicate 64 z8
theorem Z58_size : Z58.size = 65 := by simp [Z58]
theorem zero58 : ∀ w : World, (zeroValue 53).run Tryd.prog w = .ok (.agg Z58) w := (zero_of_info (n := 65) (by kernel_rfl)).1
theorem wrCells_length {e : Wr} (h : e.2.length = 64) : (wrCells e).length = 65 := by simp [wrCells, cb_length, h]
theorem wrCells_one (e : Wr) : ∀ v ∈ wrCells e, v.oneCell' = true := by
  intro v hv
  simp only [wrCells, List.mem_cons] at hv
  rcases hv with rfl | hv
  · rfl
  · exact cb_one _ v hv

/-- The disk in the midst of a loop over its row: the durable bytes are X now, the seen ones Y. -/
structure Run (w wk : World) (F : Nat → Prop) (p : Nat) (d : Dsk) (X Y : Bytes) (Ad As Ar : Option Addr) (cd cs cr : Nat) : Prop where
  disk : DiskIn wk p { d with dur := X } Y Ad As Ar cd cs cr
  only : Only F w wk

section
variable {w wk : World} {F : Nat → Prop} {p : Nat} {d : Dsk} {X Y : Bytes} {Ad As Ar : Option Addr} {cd cs cr : Nat}
/-- A write of the row, where it lies. -/
theorem row_at (hd : DiskIn wk p d Y Ad As Ar cd cs cr) (hf : Fits d.n d.row) {k : Nat} (hk : k < d.row.length) :
    ∃ g, Ar = some ⟨g, 0, none⟩ ∧ g < wk.heap.size ∧ wk.rangeAt g (k * 65) (wrCells d.row[k]) := by
  obtain ⟨g, hg⟩ := owns_pos hd.row (by omega)
  obtain ⟨g', cur, hgg, hb, _⟩ := owns_form hd.row hg
  cases hgg
  refine ⟨g, hg, hb.lt, ?_⟩
  have h := hb.range (k * 65) 65
  have e : ((rowCells d.row ++ cur).drop (k * 65)).take 65 = wrCells d.row[k] := by
    rw [← rowCells_at d.row k hk hf]
    have hl := rowCells_length d.row hf
    rw [List.drop_append_of_le_length (by omega), List.take_append_of_le_length (by rw [List.length_drop]; omega)]
  rw [e] at h
  exact h
theorem Run.step (h : Run w wk F p d X Y Ad As Ar cd cs cr) (hF : ∀ k, w.heap.size ≤ k → F k) (hf : ∀ k, Foot p Ad As Ar k → F k) (o : Obj) {e : Wr} (hl : X.length = d.n * 64) (he : e.1 < d.n) (he2 : e.2.length = 64) {g : Nat} (hg : Ad = some ⟨g, 0, none⟩) :
    Run w ((wk.alloc o).drew.setCells g (e.1 * 64) (cb e.2)) F p d (put X e) Y Ad As Ar cd cs cr := by
  obtain ⟨g', cur, hgg, hb, hbl, hnc, hcm⟩ := owns_form h.disk.dur hg
  cases hgg
  have hd1 : DiskIn (wk.alloc o).drew p { d with dur := X } Y Ad As Ar cd cs cr := (h.disk.alloc o).drew
  have hb1 : Blk (wk.alloc o).drew g 47 (cb X ++ cur) := (hb.alloc o).drew
  have hfar : ∀ k, k ≠ g → ((wk.alloc o).drew.setCells g (e.1 * 64) (cb e.2)).heap[k]? = (wk.alloc o).drew.heap[k]? := fun k hk => by
    have : ∀ (vs : List Value) (o : Nat) (W : World), (W.setCells g o vs).heap[k]? = W.heap[k]? := by
      intro vs
      induction vs with
      | nil => intro o W; rfl
      | cons v r ih => intro o W; rw [World.setCells, ih]; exact Below.heap_setCell W ⟨g, o, none⟩ v k hk
    exact this _ _ _
  have hcl : (cb e.2).length = 64 := by rw [cb_length, he2]
  have hXl : (cb X).length = d.n * 64 := by rw [cb_length, hl]
  have hb2 : Blk ((wk.alloc o).drew.setCells g (e.1 * 64) (cb e.2)) g 47 (cb (put X e) ++ cur) := by
    have := hb1.setN (cb e.2) (e.1 * 64) (by rw [List.length_append, hXl, hcl]; omega)
    rw [over_append _ _ _ _ (by rw [hXl, hcl]; omega), ← cb_over] at this
    exact this
  have hpl : (put X e).length = d.n * 64 := (over_length _ _ _ (by omega)).trans hl
  refine ⟨⟨(hfar p (by have := hd1.ne_d _ hg; exact this.symm)).trans hd1.blk, ?_, ?_, ?_, hd1.apart⟩, ((h.only.alloc hF o).drew).setCells g _ _ (hf g (.inr (.inl ⟨_, hg, rfl⟩)))⟩
  · rw [hg]
    exact owns_mk hb2 (by rw [cb_length, hpl]) (by rw [List.length_append, cb_length, hpl, ← hbl, List.length_append, hXl]) hnc hcm
  · exact owns_far hd1.seen fun a ha => hfar _ (fun e => hd1.apart _ a hg ha e.symm)
  · exact owns_far hd1.row fun a ha => hfar _ (fun e => hd1.ne_rd a _ ha hg e)
theorem dur_at (hd : DiskIn wk p d Y Ad As Ar cd cs cr) {e : Wr} (hl : d.dur.length = d.n * 64) (he : e.1 < d.n) :
    ∃ g, Ad = some ⟨g, 0, none⟩ ∧ g < wk.heap.size ∧ g ≠ p ∧ wk.there g (e.1 * 64) 64 := by
  obtain ⟨g, hg⟩ := owns_pos hd.dur (by omega)
  obtain ⟨g', cur, hgg, hb, hbl, hnc, _⟩ := owns_form hd.dur hg
  cases hgg
  exact ⟨g, hg, hb.lt, hd.ne_d _ hg, hb.there _ _ (by rw [List.length_append, cb_length, hl]; omega)⟩
end

/-- What the region that copies a write's sector reads, and where it stores. -/
def Ready (p gd n cd B : Nat) (e : Wr) (w' : World) : Prop :=
  w'.cell? ⟨p, 1, none⟩ = some (.slice (some ⟨gd, 0, none⟩) n cd) ∧ w'.cell? ⟨B, 0, none⟩ = some (.int .i64 e.1) ∧ w'.rangeAt B 1 (cb e.2) ∧ w'.there gd (e.1 * 64) 64
theorem Ready.mk {wr : World} {p gd n cd : Nat} {e : Wr} (h1 : wr.cell? ⟨p, 1, none⟩ = some (.slice (some ⟨gd, 0, none⟩) n cd)) (h2 : wr.there gd (e.1 * 64) 64) :
    Ready p gd n cd wr.heap.size e (wr.alloc (.cells (wrCells e).toArray 53)) := by
  have hb : Blk (wr.alloc (.cells (wrCells e).toArray 53)) wr.heap.size 53 (wrCells e) := Blk.new wr 53 _
  refine ⟨?_, hb.cell 0, fun j v hv => ?_, World.there_alloc h2 _⟩
  · rw [World.cell?_alloc_lt _ _ _ (World.block_lt_of_cell? wr _ h1)]; exact h1
  · rw [hb.cell, Nat.add_comm]
    simpa [wrCells] using hv
theorem Ready.stored {w' : World} {p gd n cd B : Nat} {e : Wr} (h : Ready p gd n cd B e w') (hp : gd ≠ p) (hB : gd ≠ B) (vs : List Value) : Ready p gd n cd B e (w'.setCells gd (e.1 * 64) vs) := by
  obtain ⟨h1, h2, h3, h4⟩ := h
  refine ⟨?_, ?_, ?_, World.there_setCells h4 _ _ _⟩
  · rw [World.cell?_setCells_out gd vs _ _ ⟨p, 1, none⟩ (fun e _ => absurd e (Ne.symm hp))]; exact h1
  · rw [World.cell?_setCells_out gd vs _ _ ⟨B, 0, none⟩ (fun e _ => absurd e (Ne.symm hB))]; exact h2
  · exact World.rangeAt_setCells_apart h3 _ _ _ (.inl (Ne.symm hB))

set_option maxRecDepth 100000 in
set_option maxHeartbeats 1600000 in
theorem Sync_c (w : World) (F : Nat → Prop) (hF : ∀ k, w.heap.size ≤ k → F k) (p : Nat) (d : Dsk) (h : Holds w F p d) (ho : d.ops < 4611686018427387904) (hr : d.row.length ≤ 4294967296) :
    Calls Tryd.prog 19 #[.pointer (some ⟨p, 0, none⟩)] w fun e w' => e = .returned (.int .i64 d.sync.2) ∧ Holds w' F p d.sync.1 ∧ Only F w w' := by
  have Hh := Lib.hid h
  obtain ⟨hw, Ad, As, Ar, cd, cs, cr, hd, hf⟩ := h
  have c7 : w.cell? ⟨p, 7, none⟩ = some (.bool d.down) := hd.blk.cell 7
  clear hd hf
  by_cases hdn : d.down = true
  · have E : Hid (d.sync = (d, 10)) := by show _ = _; simp [Dsk.sync, hdn]
    rw [hdn] at c7
    clear hdn hw
    go_enter Tryd.func19, Tryd.ntmps19
    go_wp2
    go_ret
    rw [E.out]
    exact ⟨rfl, Hh.out, Only.refl _ _⟩
  · have hdn' : d.down = false := by simpa using hdn
    rw [hdn'] at c7
    have c7' := c7
    clear hdn
    have Hop := Lib.hid (op_c w F p d Hh.out ho)
    by_cases hop : d.op.2 = 0
    · have E : Hid (d.sync = ({ d.op.1 with dur := d.see, row := [] }, 0)) := by show _ = _; simp [Dsk.sync, hdn', hop]
      have Hop2 : Hid (Calls Tryd.prog 34 #[.pointer (some ⟨p, 0, none⟩)] w fun e w' => e = .returned (.int .i64 0) ∧ Holds w' F p d.op.1 ∧ Only F w w') := by
        have := Hop.out; rw [hop] at this; exact this
      have Esee : Hid (d.op.1.see = d.see ∧ d.op.1.row = d.row ∧ d.op.1.n = d.n ∧ d.op.1.dur = d.dur) := by
        refine ⟨d.op_see, ?_, ?_, ?_⟩ <;> (unfold Dsk.op; split <;> (try split) <;> rfl)
      have hWF : d.op.1.WF := hw.op
      clear hdn' hop hw Hop
      generalize hD : d.op.1 = D at E Hop2 Esee hWF
      have HW := Lib.hid hWF
      have Hr : Hid (D.row.length ≤ 4294967296) := by show _ ≤ _; rw [Esee.out.2.1]; exact hr
      clear hD hWF c7 Hh
      have hc7 : w.cell? ⟨p, 7, none⟩ = some (.bool false) := c7'
      go_enter Tryd.func19, Tryd.ntmps19
      go_wp2_with (go_at_call 34; refine Hop2.out.mono ?_; rintro e w1 ⟨rfl, hh1, ho1⟩; have H1 := Lib.hid hh1; have O1 := Lib.hid ho1; clear hh1 ho1; obtain ⟨_, Ad, As, Ar, cd, cs, cr, hd, hf⟩ := H1.out; have k3 : w1.cell? ⟨p, 3, none⟩ = some (.slice Ar D.row.length cr) := hd.blk.cell 3; have HD := Lib.hid hd; have HFT := Lib.hid hf; clear hd hf)
      go_loopw [20] (fun i wr => ∃ k : Nat, k ≤ D.row.length ∧ i = .int .i64 k ∧ Run w1 wr F p D (look D.dur (D.row.take k)) D.see Ad As Ar cd cs cr) (fun i _ => D.row.length - (intOf i).toNat)
      case atStart => exact ⟨0, Nat.zero_le _, rfl, HD.out, Only.refl _ _⟩
      case round =>
        obtain ⟨k, hk, rfl, hrun⟩ := hrel
        have HR := Lib.hid hrun
        have hrb : (D.row.length : Int) ≤ 4294967296 := by have := Hr.out; omega
        clear hrun
        by_cases hlt : k < D.row.length
        · obtain ⟨e, he⟩ : ∃ e, e = D.row[k] := ⟨_, rfl⟩
          have hefit := HW.out.fits e (by rw [he]; exact List.getElem_mem hlt)
          obtain ⟨gr, rfl, hgr, hrange⟩ := row_at HR.out.disk HW.out.fits hlt
          rw [← he] at hrange
          have hXl : (look D.dur (D.row.take k)).length = D.n * 64 := look_length _ _ (HW.out.fits.take k) HW.out.len
          obtain ⟨gd, rfl, hgd, hgdp, hthere⟩ := dur_at (d := { D with dur := look D.dur (D.row.take k) }) HR.out.disk hXl hefit.1
          have HX := Lib.hid hXl
          have He := Lib.hid he
          have Hfit := Lib.hid hefit
          have Hrange := Lib.hid hrange
          have Hthere := Lib.hid hthere
          have Hgd := Lib.hid (And.intro hgd hgdp)
          have hk0 : (0 : Int) ≤ (k : Int) := Int.natCast_nonneg _
          have hk1 : (k : Int) < (D.row.length : Int) := by omega
          have ha0 : (0 : Int) ≤ (e.1 : Int) := Int.natCast_nonneg _
          have ha1 : (e.1 : Int) < (D.n : Int) := by omega
          have hsz : (Tryd.prog.info? 53).map (·.size) = some (wrCells e).length := by rw [size58, wrCells_length hefit.2]
          have Hsz := Lib.hid hsz
          clear hsz he hefit hrange hthere hXl hgd hgdp hgr
          have hz := zero58
          have Hsz' : Hid ((Tryd.prog.info? 53).map (·.size) = some (wrCells e).toArray.size ∧ Z58.size = (wrCells e).toArray.size ∧ (wrCells e).toArray.all (·.oneCell') = true) := by
            refine ⟨by rw [Hsz.out]; simp, by rw [Z58_size, List.size_toArray, wrCells_length Hfit.out.2], all_oneCell_toArray (wrCells_one e)⟩
          go_wp2_with (first | (refine wpList_load_mid rfl 53 (.tmp 22) rfl gr (k * 65) (by simp [Act.eval]) (wrCells e) _ Hrange.out Tryd.underlying53 rfl Hsz.out ?_) | (refine wpList_store_row rfl 53 (.tmp 5) (.tmp 23) rfl wr.heap.size (wrCells e).toArray (by simp [Act.eval]) (by simp [Act.eval]) 53 Z58 (heap_alloc_last wr _) Hsz'.out.1 Hsz'.out.2.1 Hsz'.out.2.2 ?_; rw [World.setRow_alloc_new]))
          go_simp
          have hu := Tryd.underlying47
          have hi : (Tryd.prog.info? 47).map (·.size) = some (cb e.2).length := by rw [size53, cb_length, Hfit.out.2]
          have hl64 : (cb e.2).length = 64 := by rw [cb_length, Hfit.out.2]
          have h1c := cb_one e.2
          have HY := Lib.hid (Ready.mk (e := e) (HR.out.disk.blk.cell 1) Hthere.out)
          have Hne : Hid (gd ≠ wr.heap.size) := by have := Hgd.out.1; exact (by omega : gd ≠ wr.heap.size)
          have HYd : Hid (Ready p gd D.n cd wr.heap.size e (wr.alloc (.cells (wrCells e).toArray 53)).drew) := HY.out
          have HYs : Hid (Ready p gd D.n cd wr.heap.size e ((wr.alloc (.cells (wrCells e).toArray 53)).drew.setCells gd (e.1 * 64) (cb e.2))) := Lib.hid (HYd.out.stored Hgd.out.2 Hne.out _)
          go_region_held3 (fun w' => w'.cell? ⟨p, 1, none⟩ = some (.slice (some ⟨gd, 0, none⟩) D.n cd) ∧ w'.cell? ⟨wr.heap.size, 0, none⟩ = some (.int .i64 e.1) ∧ w'.rangeAt wr.heap.size 1 (cb e.2) ∧ w'.there gd (e.1 * 64) 64) (first | exact HYd.out | exact HYs.out) (fail)
          have HN : Hid (Run w1 ((wr.alloc (.cells (wrCells e).toArray 53)).drew.setCells gd (e.1 * 64) (cb e.2)) F p D (look D.dur (D.row.take (k + 1))) D.see (some ⟨gd, 0, none⟩) As (some ⟨gr, 0, none⟩) cd cs cr) := by
            have hs := HR.out.step (fun k hk => hF k (Nat.le_trans O1.out.size hk)) HFT.out (.cells (wrCells e).toArray 53) HX.out Hfit.out.1 Hfit.out.2 rfl
            have e1 : look D.dur (D.row.take (k + 1)) = put (look D.dur (D.row.take k)) e := by
              rw [List.take_succ_eq_append_getElem hlt, look_append, He.out]
              rfl
            rw [e1]
            exact hs
          clear HY HYd HYs Hne hu hi hl64 h1c
          generalize (wr.alloc (.cells (wrCells e).toArray 53)).drew.setCells gd (e.1 * 64) (cb e.2) = wz at HN
          go_wp2
          go_roundw
          case rel => exact ⟨k + 1, by omega, by go_num, HN.out⟩
          case measure => simp [intOf]; omega
        · have hkm : ¬ (k : Int) < (D.row.length : Int) := by omega
          have q3 : wr.cell? ⟨p, 3, none⟩ = some (.slice Ar D.row.length cr) := HR.out.disk.blk.cell 3
          have qf : ∀ i, wr.frozen? ⟨p, i, none⟩ = false := HR.out.disk.blk.frozen
          go_wp2
          go_ret
          rw [E.out]
          have hwf := HW.out
          have hsee := Esee.out.1
          obtain rfl : k = D.row.length := by omega
          have hR := HR.out
          rw [List.take_length] at hR
          have hf := HFT.out
          refine ⟨rfl, ⟨⟨hwf.nl, hwf.lim, by show d.see.length = D.n * 64; rw [← hsee]; exact hwf.see, (fun e he => nomatch he), hwf.left⟩, Ad, As, none, cd, cs, 0, ⟨?_, ?_, ?_, World.ownsRow_nil _ _ _ _, hR.disk.apart⟩, ?_⟩, O1.out.trans (hR.only.setCell (p := ⟨p, 3, none⟩) (hf p (.inl rfl)) _)⟩
          · exact hR.disk.blk.set_ 3 (.slice none 0 0)
          · have := owns_far (w' := wr.setCell ⟨p, 3, none⟩ (.slice none 0 0)) hR.disk.dur fun a ha => Below.heap_setCell wr ⟨p, 3, none⟩ _ _ (hR.disk.ne_d a ha)
            rw [← hsee]
            exact this
          · have := owns_far (w' := wr.setCell ⟨p, 3, none⟩ (.slice none 0 0)) hR.disk.seen fun a ha => Below.heap_setCell wr ⟨p, 3, none⟩ _ _ (hR.disk.ne_s a ha)
            rw [hsee] at this
            exact this
          · rintro k (rfl | h | h | ⟨a, ha, _⟩)
            · exact hf _ (.inl rfl)
            · exact hf _ (.inr (.inl h))
            · exact hf _ (.inr (.inr (.inl h)))
            · cases ha
    · have E : Hid (d.sync = d.op) := by show _ = _; simp [Dsk.sync, hdn', hop]
      have hop' : (d.op.2 != 0) = true := by simpa using hop
      have hop10 : d.op.2 = 10 := by
        revert hop
        unfold Dsk.op
        split <;> (try split) <;> simp
      have Hop2 : Hid (Calls Tryd.prog 34 #[.pointer (some ⟨p, 0, none⟩)] w fun e w' => e = .returned (.int .i64 10) ∧ Holds w' F p d.op.1 ∧ Only F w w') := by
        have := Hop.out; rw [hop10] at this; exact this
      have E10 := Lib.hid hop10
      clear hdn' hop hop' hw Hop hop10
      go_enter Tryd.func19, Tryd.ntmps19
      go_wp2_with (go_at_call 34; refine Hop2.out.mono ?_; rintro e w1 ⟨rfl, hh1, ho1⟩; have H1 := Lib.hid hh1; have O1 := Lib.hid ho1; clear hh1 ho1)
      go_ret
      rw [E.out, E10.out]
      exact ⟨rfl, H1.out, O1.out⟩
end Go.Proofs.YtdgcplmekkancaaDoor
