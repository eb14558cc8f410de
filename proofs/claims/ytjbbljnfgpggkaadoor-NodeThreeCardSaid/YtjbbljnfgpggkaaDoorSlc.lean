/-
  slice of the document: some items, or kids, of a node.
-/
import Derived.Test.YtjbbljnfgpggkaaDoorCpy
import Derived.Test.YtjbbljnfgpggkaaDoorCut
set_option linter.unusedVariables false
namespace Go.Proofs.YtjbbljnfgpggkaaDoor
open Go.RowKit

/-- A node comes back, for good. -/
def GaveS (F : Nat → Prop) (w : World) (y : Nd) (e : Ending) (w' : World) : Prop := ∃ A n c B m d, e = .returned (.agg #[.bool y.leaf, .slice A n c, .slice B m d]) ∧ SNod F w' y y.leaf (.slice A n c) (.slice B m d) ∧ Only (w.heap.size ≤ ·) w w'
/-- Some elements of a row, as cells. -/
theorem RwC.part {α : Type} {E : El α} {w : World} {A : Option Addr} {n c lo hi : Nat} {l : List α} {C : List Value} (h : RwC E w (.slice A n c) l C) (hz : 0 < E.z) (h1 : lo < hi) (h2 : hi ≤ n) :
    Den (E.At w) ((l.drop lo).take (hi - lo)) ((C.drop (lo * E.z)).take ((hi - lo) * E.z)) ∧ ((C.drop (lo * E.z)).take ((hi - lo) * E.z)).length = (hi - lo) * E.z ∧ (∀ u ∈ (C.drop (lo * E.z)).take ((hi - lo) * E.z), u.oneCell' = true) ∧
    ∃ b off, A = some ⟨b, off, none⟩ ∧ b < w.heap.size ∧ n ≤ c ∧ ∀ j u, ((C.drop (lo * E.z)).take ((hi - lo) * E.z))[j]? = some u → w.cell? ⟨b, off + lo * E.z + j, none⟩ = some u := by
  obtain ⟨hd, A', c', e, hl, hr, _, hc, _, h1c⟩ := h
  simp only [Value.slice.injEq] at e
  obtain ⟨rfl, hn, rfl⟩ := e
  have m1 : lo * E.z + (hi - lo) * E.z = hi * E.z := by rw [← Nat.add_mul]; congr 1; omega
  have m2 := Nat.mul_le_mul_right E.z h2
  rw [hn] at m2
  have m3 : 0 < (hi - lo) * E.z := Nat.mul_pos (by omega) hz
  obtain ⟨b, off, rfl, hb, hcell⟩ := hr (by rw [hl]; omega)
  refine ⟨(hd.drop (fun _ _ => E.len) lo).take (fun _ _ => E.len) _, ?_, fun u hu => h1c u (List.mem_of_mem_drop (List.mem_of_mem_take hu)), b, off, rfl, hb, by omega, fun j u hu => ?_⟩
  · rw [List.length_take, List.length_drop, hl]
    omega
  · rw [List.getElem?_take] at hu
    split at hu
    · rw [List.getElem?_drop] at hu
      rw [Nat.add_assoc]
      exact hcell _ u hu
    · cases hu

theorem own_at1 {w : World} {B n g p : Nat} {t : TypeId} {C : List Value} (h : w.ownsRow B t 2 (.slice (some ⟨g, 0, none⟩) n p) n C) (hn : 0 < n) (hc : ∃ u0 r D, C = u0 :: .int .i64 r :: D) : (∃ (r : Int) (u0 : Value), (∃ D, C = u0 :: .int .i64 r :: D) ∧ w.cell? ⟨g, 0, none⟩ = some u0 ∧ w.cell? ⟨g, 1, none⟩ = some (.int .i64 r)) ∧ w.frozen? ⟨g, 0, none⟩ = false ∧ w.frozen? ⟨g, 1, none⟩ = false := by
  obtain ⟨u0, r, D, rfl⟩ := hc
  exact ⟨⟨r, u0, ⟨D, rfl⟩, by rw [h.cellAt _ (by omega)]; rfl, by rw [h.cellAt _ (by omega)]; rfl⟩, h.frozenAt _, h.frozenAt _⟩

set_option maxRecDepth 100000 in
set_option maxHeartbeats 12800000 in
theorem slice_leaf (w : World) (F : Nat → Prop) (A B : Option Addr) (n c m d lo hi : Nat) (x : Nd) (hF : ∀ k, F k → k < w.heap.size) (h : SNod F w x true (.slice A n c) (.slice B m d)) (hs : Small x) (h1 : lo < hi) (h2 : hi ≤ n) :
    Calls Tryd.prog 35 #[.agg #[.bool true, .slice A n c, .slice B m d], .int .i64 lo, .int .i64 hi] w (GaveS F w ⟨true, (x.its.drop lo).take (hi - lo), []⟩) := by
  have hcap := h.nod.now.2.1.cap
  have hln := h.nod.now.2.1.len
  have hn1 : n ≤ 1000 := by rw [hln]; exact hs.1
  obtain ⟨i0, hi0, hz0, hz1, hz2⟩ := info_parts info_RI
  have HI := Lib.hid (And.intro hi0 (And.intro hz0 (And.intro hz1 hz2)))
  have HF := Lib.hid hF
  obtain ⟨C, hC⟩ := h.2.1
  obtain ⟨hd0, hl0, h10, b, off, rfl, hb, hnc, hcell⟩ := RwC.part (E := itE) hC.now (by decide) h1 h2
  have HC := Lib.hid hC
  obtain ⟨X, hX⟩ : ∃ X, X = (C.drop (lo * itE.z)).take ((hi - lo) * itE.z) := ⟨_, rfl⟩
  have HDX : Hid (∀ W, Only (fun k => F k ∨ w.heap.size ≤ k) w W → Den (itE.At W) ((x.its.drop lo).take (hi - lo)) X) := fun W hW => by rw [hX]; exact (RwC.part (E := itE) (HC.out W hW) (by decide) h1 h2).1
  rw [← hX] at hl0 h10 hcell
  have HL := Lib.hid hl0
  have H1 := Lib.hid h10
  have HO0 : Only (w.heap.size ≤ ·) w (((w.alloc (.cells #[.bool true, .slice (some ⟨b, off, none⟩) n c, .slice B m d] 25)).alloc (.cells #[.bool false, .slice none 0 0, .slice none 0 0] 25)).alloc (.cells #[] 52)) := (((Only.refl _ w).alloc (fun _ h => h) _).alloc (fun _ h => h) _).alloc (fun _ h => h) _
  have HCELL : Hid (∀ j u, X[j]? = some u → (((w.alloc (.cells #[.bool true, .slice (some ⟨b, off, none⟩) n c, .slice B m d] 25)).alloc (.cells #[.bool false, .slice none 0 0, .slice none 0 0] 25)).alloc (.cells #[] 52)).cell? ((⟨b, off + lo * 4, none⟩ : Addr).add j) = some u) := fun j u hu => by
    rw [Addr.add_lit]
    exact (HO0.cell (p := ⟨b, off + lo * 4 + j, none⟩) (Nat.not_le.2 hb)).trans (hcell j u hu)
  obtain ⟨W0, hW0⟩ : ∃ W0, W0 = ((w.alloc (.cells #[.bool true, .slice (some ⟨b, off, none⟩) n c, .slice B m d] 25)).alloc (.cells #[.bool false, .slice none 0 0, .slice none 0 0] 25)) := ⟨_, rfl⟩
  have hZ : W0.heap.size = w.heap.size + 1 + 1 := by rw [hW0]; simp
  have HZ := Lib.hid hZ
  have HBR : Hid (Blk W0 (w.heap.size + 1) 25 [.bool false, .slice none 0 0, .slice none 0 0]) := Lib.hid (by
    rw [hW0]
    have := Blk.new (w.alloc (.cells #[.bool true, .slice (some ⟨b, off, none⟩) n c, .slice B m d] 25)) 25 [.bool false, .slice none 0 0, .slice none 0 0]
    simpa using this)
  have HO := Lib.hid (show Only (w.heap.size ≤ ·) w W0 by rw [hW0]; exact ((Only.refl _ w).alloc (fun _ h => h) _).alloc (fun _ h => h) _)
  have HOWN : Hid ((W0.alloc (.cells #[] 52)).ownsRow (w.heap.size + 1 + 1) 52 4 (.slice (some ⟨w.heap.size + 1 + 1, 0, none⟩) 0 0) 0 []) := Lib.hid (by
    have := World.ownsRow_made (size := 4) (base := w.heap.size + 1 + 1) (e := 52) W0 #[] 0 (by omega) (by simp [maxLen]) (by simp)
    rwa [hZ] at this)
  have j0 : ¬ c = lo := by omega
  have j1 : (0 : Int) ≤ (lo : Int) := by omega
  have j2 : (lo : Int) ≤ (hi : Int) := by omega
  have j3 : (hi : Int) ≤ (c : Int) := by omega
  have HGB : Hid (∀ w' v', (W0.alloc (.cells #[] 52)).grownBy w' (Value.slice (some ⟨w.heap.size + 1 + 1, 0, none⟩) 0 0).ownBlock → w'.ownsRow (w.heap.size + 1 + 1) 52 4 v' (0 + (hi - lo)) ([] ++ X) → Blk w' (w.heap.size + 1) 25 [.bool false, .slice none 0 0, .slice none 0 0] ∧ Only (w.heap.size ≤ ·) w w') := fun w' v' hg ho => by
    refine ⟨(hg.block (w.heap.size + 1) (by have := (HBR.out.alloc (.cells #[] 52)).lt; exact this) (fun e => by simp [Value.ownBlock] at e)).trans (HBR.out.alloc _), Only.grown (HO.out.alloc (fun _ h => h) _) hg (fun _ h => h) (fun g hg => ?_)⟩
    simp [Value.ownBlock] at hg
    omega
  have HLN := Lib.hid hln
  have HW0 := Lib.hid hW0
  clear hi0 hz0 hz1 hz2 hF hC h hs hd0 hl0 h10 hcell HO0 hX hZ hW0 hln
  rw [HW0.out] at HOWN HGB
  go_enter Tryd.func35, Tryd.ntmps35
  go_wp2_with (at_builtin; refine wpList_append_own _ rfl (.tmp 10) (.tmp 15) 22 rfl (w.heap.size + 1 + 1) 52 i0 zI 4 64 Tryd.underlying22 HI.out.1 HI.out.2.1 HI.out.2.2.1 HI.out.2.2.2 (by rfl) (by omega) (.slice (some ⟨w.heap.size + 1 + 1, 0, none⟩) 0 0) 0 [] rfl HOWN.out ⟨b, off + lo * 4, none⟩ (hi - lo) (c - lo) X rfl HL.out HCELL.out H1.out (by simp only [maxLen]; omega) (by omega) (by simp) ?_; intro v' w' ho' hg' _; (obtain ⟨hbr, hon⟩ := HGB.out _ _ hg' ho'); (rw [Nat.zero_add, List.nil_append] at ho'); (obtain ⟨P2, p2, rfl, _⟩ := raw_of_own ho'); have HBR2 := Lib.hid hbr; have HON := Lib.hid hon; have HW := Lib.hid ho'; (obtain ⟨z0, z1, z2⟩ := HBR2.out.tri); (obtain ⟨fz0, fz1, fz2⟩ := HBR2.out.melt3); clear hbr hon hg' ho')
  obtain ⟨Wf, hWf⟩ : ∃ Wf, Wf = (((w'.setCell ⟨w.heap.size + 1, 0, none⟩ (.bool true)).setCell ⟨w.heap.size + 1, 1, none⟩ (.slice P2 (hi - lo) p2)).setCell ⟨w.heap.size + 1, 2, none⟩ (.slice none 0 0)) := ⟨_, rfl⟩
  have hBf : Blk Wf (w.heap.size + 1) 25 [.bool true, .slice P2 (hi - lo) p2, .slice none 0 0] := by rw [hWf]; exact ((HBR2.out.set_ 0 _).set_ 1 _).set_ 2 _
  have hOs : Only (· = w.heap.size + 1) w' Wf := by rw [hWf]; exact (((Only.refl (· = w.heap.size + 1) _).setCell (p := ⟨w.heap.size + 1, 0, none⟩) rfl _).setCell (p := ⟨w.heap.size + 1, 1, none⟩) rfl _).setCell (p := ⟨w.heap.size + 1, 2, none⟩) rfl _
  rw [← hWf]
  clear hWf z0 z1 z2
  obtain ⟨y0, y1, y2⟩ := hBf.tri
  have hOf : Only (w.heap.size ≤ ·) w Wf := HON.out.trans (hOs.mono fun j hj => by omega)
  refine bodyPost_ret (v := .agg #[.bool true, .slice P2 (hi - lo) p2, .slice none 0 0]) (by simp [results, Tryd.results35, go_sem, y0, y1, y2]) rfl ?_
  have hwo := own_on HW.out hOs fun j hj e => by have := (World.ownsRow.lt HW.out j hj).1; omega
  have hl : ((x.its.drop lo).take (hi - lo)).length = hi - lo := by rw [List.length_take, List.length_drop, ← HLN.out]; omega
  exact ⟨P2, hi - lo, p2, none, 0, 0, rfl, ⟨rfl, ⟨X, fun W hW => ⟨HDX.out W ((hOf.mono fun _ h => .inr h).trans (hW.mono fun k hk => hk.elim .inl fun hk => .inr (Nat.le_trans hOf.size hk))), by
    have := raw_stab (World.ownsRow.mono hwo (show w.heap.size ≤ w.heap.size + 1 + 1 by omega)) H1.out HF.out W hW
    rw [hl]
    exact this⟩⟩, SRw.nil_ _ _⟩, hOf⟩

set_option maxRecDepth 100000 in
set_option maxHeartbeats 12800000 in
theorem slice_low (w : World) (F : Nat → Prop) (A B : Option Addr) (n c m d lo hi : Nat) (x : Nd) (hF : ∀ k, F k → k < w.heap.size) (h : SNod F w x false (.slice A n c) (.slice B m d)) (hs : Small x) (h1 : lo < hi) (h2 : hi ≤ m) (h0 : lo = 0) :
    Calls Tryd.prog 35 #[.agg #[.bool false, .slice A n c, .slice B m d], .int .i64 lo, .int .i64 hi] w (GaveS F w ⟨false, [], x.kds.take hi⟩) := by
  have hcap := h.nod.now.2.2.cap
  have hln := h.nod.now.2.2.len
  have hn1 : m ≤ 1000 := by rw [hln]; exact hs.2.1
  obtain ⟨i0, hi0, hz0, hz1, hz2⟩ := info_parts info_RK
  have HI := Lib.hid (And.intro hi0 (And.intro hz0 (And.intro hz1 hz2)))
  have HF := Lib.hid hF
  obtain ⟨C, hC⟩ := h.2.2
  obtain ⟨hd0, hl0, h10, b, off, rfl, hb, hnc, hcell⟩ := RwC.part (E := kdE) hC.now (by decide) h1 h2
  have HC := Lib.hid hC
  obtain ⟨X, hX⟩ : ∃ X, X = (C.drop (lo * kdE.z)).take ((hi - lo) * kdE.z) := ⟨_, rfl⟩
  have HDX : Hid (∀ W, Only (fun k => F k ∨ w.heap.size ≤ k) w W → Den (kdE.At W) ((x.kds.drop lo).take (hi - lo)) X) := fun W hW => by rw [hX]; exact (RwC.part (E := kdE) (HC.out W hW) (by decide) h1 h2).1
  rw [← hX] at hl0 h10 hcell
  have HL := Lib.hid hl0
  have H1 := Lib.hid h10
  have HO0 : Only (w.heap.size ≤ ·) w (((w.alloc (.cells #[.bool false, .slice A n c, .slice (some ⟨b, off, none⟩) m d] 25)).alloc (.cells #[.bool false, .slice none 0 0, .slice none 0 0] 25)).alloc (.cells #[] 29)) := (((Only.refl _ w).alloc (fun _ h => h) _).alloc (fun _ h => h) _).alloc (fun _ h => h) _
  have HCELL : Hid (∀ j u, X[j]? = some u → (((w.alloc (.cells #[.bool false, .slice A n c, .slice (some ⟨b, off, none⟩) m d] 25)).alloc (.cells #[.bool false, .slice none 0 0, .slice none 0 0] 25)).alloc (.cells #[] 29)).cell? ((⟨b, off + lo * 2, none⟩ : Addr).add j) = some u) := fun j u hu => by
    rw [Addr.add_lit]
    exact (HO0.cell (p := ⟨b, off + lo * 2 + j, none⟩) (Nat.not_le.2 hb)).trans (hcell j u hu)
  obtain ⟨W0, hW0⟩ : ∃ W0, W0 = ((w.alloc (.cells #[.bool false, .slice A n c, .slice (some ⟨b, off, none⟩) m d] 25)).alloc (.cells #[.bool false, .slice none 0 0, .slice none 0 0] 25)) := ⟨_, rfl⟩
  have hZ : W0.heap.size = w.heap.size + 1 + 1 := by rw [hW0]; simp
  have HZ := Lib.hid hZ
  have HBR : Hid (Blk W0 (w.heap.size + 1) 25 [.bool false, .slice none 0 0, .slice none 0 0]) := Lib.hid (by
    rw [hW0]
    have := Blk.new (w.alloc (.cells #[.bool false, .slice A n c, .slice (some ⟨b, off, none⟩) m d] 25)) 25 [.bool false, .slice none 0 0, .slice none 0 0]
    simpa using this)
  have HO := Lib.hid (show Only (w.heap.size ≤ ·) w W0 by rw [hW0]; exact ((Only.refl _ w).alloc (fun _ h => h) _).alloc (fun _ h => h) _)
  have HOWN : Hid ((W0.alloc (.cells #[] 29)).ownsRow (w.heap.size + 1 + 1) 29 2 (.slice (some ⟨w.heap.size + 1 + 1, 0, none⟩) 0 0) 0 []) := Lib.hid (by
    have := World.ownsRow_made (size := 2) (base := w.heap.size + 1 + 1) (e := 29) W0 #[] 0 (by omega) (by simp [maxLen]) (by simp)
    rwa [hZ] at this)
  have j0 : ¬ d = lo := by omega
  have j1 : (0 : Int) ≤ (lo : Int) := by omega
  have j2 : (lo : Int) ≤ (hi : Int) := by omega
  have j3 : (hi : Int) ≤ (d : Int) := by omega
  have HGB : Hid (∀ w' v', (W0.alloc (.cells #[] 29)).grownBy w' (Value.slice (some ⟨w.heap.size + 1 + 1, 0, none⟩) 0 0).ownBlock → w'.ownsRow (w.heap.size + 1 + 1) 29 2 v' (0 + (hi - lo)) ([] ++ X) → Blk w' (w.heap.size + 1) 25 [.bool false, .slice none 0 0, .slice none 0 0] ∧ Only (w.heap.size ≤ ·) w w') := fun w' v' hg ho => by
    refine ⟨(hg.block (w.heap.size + 1) (by have := (HBR.out.alloc (.cells #[] 29)).lt; exact this) (fun e => by simp [Value.ownBlock] at e)).trans (HBR.out.alloc _), Only.grown (HO.out.alloc (fun _ h => h) _) hg (fun _ h => h) (fun g hg => ?_)⟩
    simp [Value.ownBlock] at hg
    omega
  have HLN := Lib.hid hln
  have HW0 := Lib.hid hW0
  clear hi0 hz0 hz1 hz2 hF hC h hs hd0 hl0 h10 hcell HO0 hX hZ hW0 hln
  rw [HW0.out] at HOWN HGB
  have HL0 := Lib.hid h0
  have j9 : ¬ (0 : Int) < (lo : Int) := by omega
  clear h0
  go_enter Tryd.func35, Tryd.ntmps35
  go_wp2_with (at_builtin; refine wpList_append_own _ rfl (.tmp 18) (.tmp 23) 23 rfl (w.heap.size + 1 + 1) 29 i0 zK 2 32 Tryd.underlying23 HI.out.1 HI.out.2.1 HI.out.2.2.1 HI.out.2.2.2 (by rfl) (by omega) (.slice (some ⟨w.heap.size + 1 + 1, 0, none⟩) 0 0) 0 [] rfl HOWN.out ⟨b, off + lo * 2, none⟩ (hi - lo) (d - lo) X rfl HL.out HCELL.out H1.out (by simp only [maxLen]; omega) (by omega) (by simp) ?_; intro v' w' ho' hg' _; (obtain ⟨hbr, hon⟩ := HGB.out _ _ hg' ho'); (rw [Nat.zero_add, List.nil_append] at ho'); (obtain ⟨P2, p2, rfl, _⟩ := raw_of_own ho'); have HBR2 := Lib.hid hbr; have HON := Lib.hid hon; have HW := Lib.hid ho'; (obtain ⟨z0, z1, z2⟩ := HBR2.out.tri); (obtain ⟨fz0, fz1, fz2⟩ := HBR2.out.melt3); clear hbr hon hg' ho')
  obtain ⟨Wf, hWf⟩ : ∃ Wf, Wf = (((w'.setCell ⟨w.heap.size + 1, 0, none⟩ (.bool false)).setCell ⟨w.heap.size + 1, 1, none⟩ (.slice none 0 0)).setCell ⟨w.heap.size + 1, 2, none⟩ (.slice P2 (hi - lo) p2)) := ⟨_, rfl⟩
  have hBf : Blk Wf (w.heap.size + 1) 25 [.bool false, .slice none 0 0, .slice P2 (hi - lo) p2] := by rw [hWf]; exact ((HBR2.out.set_ 0 _).set_ 1 _).set_ 2 _
  have hOs : Only (· = w.heap.size + 1) w' Wf := by rw [hWf]; exact (((Only.refl (· = w.heap.size + 1) _).setCell (p := ⟨w.heap.size + 1, 0, none⟩) rfl _).setCell (p := ⟨w.heap.size + 1, 1, none⟩) rfl _).setCell (p := ⟨w.heap.size + 1, 2, none⟩) rfl _
  rw [← hWf]
  clear hWf z0 z1 z2
  obtain ⟨y0, y1, y2⟩ := hBf.tri
  have hOf : Only (w.heap.size ≤ ·) w Wf := HON.out.trans (hOs.mono fun j hj => by omega)
  refine bodyPost_ret (v := .agg #[.bool false, .slice none 0 0, .slice P2 (hi - lo) p2]) (by simp [results, Tryd.results35, go_sem, y0, y1, y2]) rfl ?_
  have hwo := own_on HW.out hOs fun j hj e => by have := (World.ownsRow.lt HW.out j hj).1; omega
  have hl : (x.kds.take hi).length = hi - lo := by rw [List.length_take, ← HLN.out]; have := HL0.out; omega
  have hrow : (x.kds.drop lo).take (hi - lo) = x.kds.take hi := by rw [HL0.out]; simp
  exact ⟨none, 0, 0, P2, hi - lo, p2, rfl, ⟨rfl, SRw.nil_ _ _, ⟨X, fun W hW => ⟨by rw [← hrow]; exact HDX.out W ((hOf.mono fun _ h => .inr h).trans (hW.mono fun k hk => hk.elim .inl fun hk => .inr (Nat.le_trans hOf.size hk))), by
    have := raw_stab (World.ownsRow.mono hwo (show w.heap.size ≤ w.heap.size + 1 + 1 by omega)) H1.out HF.out W hW
    rw [hl]
    exact this⟩⟩⟩, hOf⟩

set_option maxRecDepth 100000 in
set_option maxHeartbeats 12800000 in
theorem slice_kids (w : World) (F : Nat → Prop) (A B : Option Addr) (n c m d lo hi : Nat) (x : Nd) (hF : ∀ k, F k → k < w.heap.size) (h : SNod F w x false (.slice A n c) (.slice B m d)) (hs : Small x) (h1 : lo < hi) (h2 : hi ≤ m) (h0 : 0 < lo) :
    Calls Tryd.prog 35 #[.agg #[.bool false, .slice A n c, .slice B m d], .int .i64 lo, .int .i64 hi] w (GaveS F w ⟨false, [], headK [] ((x.kds.drop lo).take (hi - lo))⟩) := by
  have hcap := h.nod.now.2.2.cap
  have hln := h.nod.now.2.2.len
  have hn1 : m ≤ 1000 := by rw [hln]; exact hs.2.1
  obtain ⟨i0, hi0, hz0, hz1, hz2⟩ := info_parts info_RK
  have HI := Lib.hid (And.intro hi0 (And.intro hz0 (And.intro hz1 hz2)))
  have HF := Lib.hid hF
  obtain ⟨C, hC⟩ := h.2.2
  obtain ⟨hd0, hl0, h10, b, off, rfl, hb, hnc, hcell⟩ := RwC.part (E := kdE) hC.now (by decide) h1 h2
  have HC := Lib.hid hC
  obtain ⟨X, hX⟩ : ∃ X, X = (C.drop (lo * kdE.z)).take ((hi - lo) * kdE.z) := ⟨_, rfl⟩
  have HDX : Hid (∀ W, Only (fun k => F k ∨ w.heap.size ≤ k) w W → Den (kdE.At W) ((x.kds.drop lo).take (hi - lo)) X) := fun W hW => by rw [hX]; exact (RwC.part (E := kdE) (HC.out W hW) (by decide) h1 h2).1
  rw [← hX] at hl0 h10 hcell
  have HL := Lib.hid hl0
  have H1 := Lib.hid h10
  have HO0 : Only (w.heap.size ≤ ·) w (((w.alloc (.cells #[.bool false, .slice A n c, .slice (some ⟨b, off, none⟩) m d] 25)).alloc (.cells #[.bool false, .slice none 0 0, .slice none 0 0] 25)).alloc (.cells #[] 29)) := (((Only.refl _ w).alloc (fun _ h => h) _).alloc (fun _ h => h) _).alloc (fun _ h => h) _
  have HCELL : Hid (∀ j u, X[j]? = some u → (((w.alloc (.cells #[.bool false, .slice A n c, .slice (some ⟨b, off, none⟩) m d] 25)).alloc (.cells #[.bool false, .slice none 0 0, .slice none 0 0] 25)).alloc (.cells #[] 29)).cell? ((⟨b, off + lo * 2, none⟩ : Addr).add j) = some u) := fun j u hu => by
    rw [Addr.add_lit]
    exact (HO0.cell (p := ⟨b, off + lo * 2 + j, none⟩) (Nat.not_le.2 hb)).trans (hcell j u hu)
  obtain ⟨W0, hW0⟩ : ∃ W0, W0 = ((w.alloc (.cells #[.bool false, .slice A n c, .slice (some ⟨b, off, none⟩) m d] 25)).alloc (.cells #[.bool false, .slice none 0 0, .slice none 0 0] 25)) := ⟨_, rfl⟩
  have hZ : W0.heap.size = w.heap.size + 1 + 1 := by rw [hW0]; simp
  have HZ := Lib.hid hZ
  have HBR : Hid (Blk W0 (w.heap.size + 1) 25 [.bool false, .slice none 0 0, .slice none 0 0]) := Lib.hid (by
    rw [hW0]
    have := Blk.new (w.alloc (.cells #[.bool false, .slice A n c, .slice (some ⟨b, off, none⟩) m d] 25)) 25 [.bool false, .slice none 0 0, .slice none 0 0]
    simpa using this)
  have HO := Lib.hid (show Only (w.heap.size ≤ ·) w W0 by rw [hW0]; exact ((Only.refl _ w).alloc (fun _ h => h) _).alloc (fun _ h => h) _)
  have HOWN : Hid ((W0.alloc (.cells #[] 29)).ownsRow (w.heap.size + 1 + 1) 29 2 (.slice (some ⟨w.heap.size + 1 + 1, 0, none⟩) 0 0) 0 []) := Lib.hid (by
    have := World.ownsRow_made (size := 2) (base := w.heap.size + 1 + 1) (e := 29) W0 #[] 0 (by omega) (by simp [maxLen]) (by simp)
    rwa [hZ] at this)
  have j0 : ¬ d = lo := by omega
  have j1 : (0 : Int) ≤ (lo : Int) := by omega
  have j2 : (lo : Int) ≤ (hi : Int) := by omega
  have j3 : (hi : Int) ≤ (d : Int) := by omega
  have HGB : Hid (∀ w' v', (W0.alloc (.cells #[] 29)).grownBy w' (Value.slice (some ⟨w.heap.size + 1 + 1, 0, none⟩) 0 0).ownBlock → w'.ownsRow (w.heap.size + 1 + 1) 29 2 v' (0 + (hi - lo)) ([] ++ X) → Blk w' (w.heap.size + 1) 25 [.bool false, .slice none 0 0, .slice none 0 0] ∧ Only (w.heap.size ≤ ·) w w') := fun w' v' hg ho => by
    refine ⟨(hg.block (w.heap.size + 1) (by have := (HBR.out.alloc (.cells #[] 29)).lt; exact this) (fun e => by simp [Value.ownBlock] at e)).trans (HBR.out.alloc _), Only.grown (HO.out.alloc (fun _ h => h) _) hg (fun _ h => h) (fun g hg => ?_)⟩
    simp [Value.ownBlock] at hg
    omega
  have HLN := Lib.hid hln
  have HW0 := Lib.hid hW0
  clear hi0 hz0 hz1 hz2 hF hC h hs hd0 hl0 h10 hcell HO0 hX hZ hW0 hln
  rw [HW0.out] at HOWN HGB
  have j9 : (0 : Int) < (lo : Int) := by omega
  have j8 : (0 : Int) < ((hi - lo : Nat) : Int) := by omega
  have HK0 : Hid (∃ u0 r D, X = u0 :: .int .i64 r :: D) := Lib.hid (by
    have hd := HDX.out w (Only.refl _ _)
    obtain ⟨y, ys, hy⟩ : ∃ y ys, (x.kds.drop lo).take (hi - lo) = y :: ys := by
      cases hq : (x.kds.drop lo).take (hi - lo) with
      | nil =>
        have : ((x.kds.drop lo).take (hi - lo)).length = hi - lo := by rw [List.length_take, List.length_drop, ← HLN.out]; omega
        rw [hq] at this
        simp at this
        omega
      | cons y ys => exact ⟨y, ys, rfl⟩
    rw [hy] at hd
    obtain ⟨cs, D, e, ⟨P, p, e2, _⟩, _⟩ := hd
    exact ⟨.slice P y.1.length p, y.2, D, by rw [e, e2]; rfl⟩)
  clear h0
  go_enter Tryd.func35, Tryd.ntmps35
  go_wp2_with (at_builtin; refine wpList_append_own _ rfl (.tmp 18) (.tmp 23) 23 rfl (w.heap.size + 1 + 1) 29 i0 zK 2 32 Tryd.underlying23 HI.out.1 HI.out.2.1 HI.out.2.2.1 HI.out.2.2.2 (by rfl) (by omega) (.slice (some ⟨w.heap.size + 1 + 1, 0, none⟩) 0 0) 0 [] rfl HOWN.out ⟨b, off + lo * 2, none⟩ (hi - lo) (d - lo) X rfl HL.out HCELL.out H1.out (by simp only [maxLen]; omega) (by omega) (by simp) ?_; intro v' w' ho' hg' _; (obtain ⟨hbr, hon⟩ := HGB.out _ _ hg' ho'); (rw [Nat.zero_add, List.nil_append] at ho'); (obtain ⟨gg, p2, rfl, hgb⟩ : ∃ gg p2, v' = .slice (some ⟨gg, 0, none⟩) (hi - lo) p2 ∧ w.heap.size + 1 + 1 ≤ gg := own_form ho' (by omega)); have hx1 := own_at1 ho' (by omega) HK0.out; (obtain ⟨⟨rr, u0, hX0, hx0c, hx1c⟩, hfr0, hfr1⟩ := hx1); have HX0 := Lib.hid hX0; have HBR2 := Lib.hid hbr; have HON := Lib.hid hon; have HW := Lib.hid ho'; (obtain ⟨z0, z1, z2⟩ := HBR2.out.tri); (obtain ⟨fz0, fz1, fz2⟩ := HBR2.out.melt3); clear hbr hon hg' ho')
  obtain ⟨W1, hW1⟩ : ∃ W1, W1 = ((w'.setCell ⟨gg, 0, none⟩ (.slice none 0 0)).setCell ⟨gg, 1, none⟩ (.int .i64 rr)) := ⟨_, rfl⟩
  have hO1 : Only (· = gg) w' W1 := by rw [hW1]; exact ((Only.refl (· = gg) _).setCell (p := ⟨gg, 0, none⟩) rfl _).setCell (p := ⟨gg, 1, none⟩) rfl _
  have hw1 : W1.ownsRow (w.heap.size + 1 + 1) 29 2 (.slice (some ⟨gg, 0, none⟩) (hi - lo) p2) (hi - lo) ((X.set 0 (.slice none 0 0)).set 1 (.int .i64 rr)) := by rw [hW1]; exact ((HW.out.stored 0 (.slice none 0 0)).1.stored 1 (.int .i64 rr)).1
  rw [← hW1]
  clear hW1 hx0c hx1c
  replace HBR2 := Lib.hid (HBR2.out.only hO1 fun e => by omega)
  replace HON : Hid (Only (w.heap.size ≤ ·) w W1) := Lib.hid (HON.out.trans (hO1.mono fun k hk => by omega))
  obtain ⟨Wf, hWf⟩ : ∃ Wf, Wf = (((W1.setCell ⟨w.heap.size + 1, 0, none⟩ (.bool false)).setCell ⟨w.heap.size + 1, 1, none⟩ (.slice none 0 0)).setCell ⟨w.heap.size + 1, 2, none⟩ (.slice (some ⟨gg, 0, none⟩) (hi - lo) p2)) := ⟨_, rfl⟩
  have hBf : Blk Wf (w.heap.size + 1) 25 [.bool false, .slice none 0 0, .slice (some ⟨gg, 0, none⟩) (hi - lo) p2] := by rw [hWf]; exact ((HBR2.out.set_ 0 _).set_ 1 _).set_ 2 _
  have hOs : Only (· = w.heap.size + 1) W1 Wf := by rw [hWf]; exact (((Only.refl (· = w.heap.size + 1) _).setCell (p := ⟨w.heap.size + 1, 0, none⟩) rfl _).setCell (p := ⟨w.heap.size + 1, 1, none⟩) rfl _).setCell (p := ⟨w.heap.size + 1, 2, none⟩) rfl _
  rw [← hWf]
  clear hWf z0 z1 z2
  obtain ⟨y0, y1, y2⟩ := hBf.tri
  have hOf : Only (w.heap.size ≤ ·) w Wf := HON.out.trans (hOs.mono fun j hj => by omega)
  refine bodyPost_ret (v := .agg #[.bool false, .slice none 0 0, .slice (some ⟨gg, 0, none⟩) (hi - lo) p2]) (by simp [results, Tryd.results35, go_sem, y0, y1, y2]) rfl ?_
  have hwo := own_on hw1 hOs fun j hj e => by have := (World.ownsRow.lt hw1 j hj).1; omega
  have hl : (headK [] ((x.kds.drop lo).take (hi - lo))).length = hi - lo := by rw [headK_length, List.length_take, List.length_drop, ← HLN.out]; omega
  obtain ⟨D, hXD⟩ := HX0.out
  have hXX : (X.set 0 (.slice none 0 0)).set 1 (.int .i64 rr) = X.set 0 (.slice none 0 0) := by rw [hXD]; rfl
  rw [hXX] at hwo
  have h1s : ∀ u ∈ X.set 0 (.slice none 0 0), u.oneCell' = true := fun u hu => by
    rcases List.mem_or_eq_of_mem_set hu with hu | rfl
    · exact H1.out u hu
    · rfl
  refine ⟨none, 0, 0, some ⟨gg, 0, none⟩, hi - lo, p2, rfl, ⟨rfl, SRw.nil_ _ _, ⟨X.set 0 (.slice none 0 0), fun W hW => ⟨?_, ?_⟩⟩⟩, hOf⟩
  · have hd := HDX.out W ((hOf.mono fun _ h => .inr h).trans (hW.mono fun k hk => hk.elim .inl fun hk => .inr (Nat.le_trans hOf.size hk)))
    cases hq : (x.kds.drop lo).take (hi - lo) with
    | nil =>
      rw [hq] at hl
      simp [headK] at hl
      omega
    | cons y ys =>
      rw [hq] at hd
      exact kd_cons hd (Src.nil_ W)
  · rw [hl]
    exact raw_stab (World.ownsRow.mono hwo (show w.heap.size ≤ w.heap.size + 1 + 1 by omega)) h1s HF.out W hW
end Go.Proofs.YtjbbljnfgpggkaaDoor
