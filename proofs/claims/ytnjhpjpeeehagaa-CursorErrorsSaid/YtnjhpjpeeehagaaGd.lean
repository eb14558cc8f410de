/-
  Cak Cup Cuq Cud Cuf Cug Cuh: as one text.
-/
import Derived.Test.YtnjhpjpeeehagaaTak
import Derived.Shelf.Abstract
import Derived.Test.YtnjhpjpeeehagaaTtv
import Derived.Test.YtnjhpjpeeehagaaTpt
import Derived.Test.YtnjhpjpeeehagaaTgt
import Derived.Test.YtnjhpjpeeehagaaTra
/-
  ask, of any reader.
-/
set_option linter.unusedVariables false
namespace Go.Proofs.Ytnjhpjpeeehagaa
open Go.RowKit

/-- A world behind another one: blocks that are newer may have changed, and those of which Ex speaks. -/
abbrev Lat (Ex : Nat → Prop) (w0 w : World) : Prop := Only (fun j => Ex j ∨ w0.heap.size ≤ j) w0 w
theorem lat_new {Ex : Nat → Prop} {w0 w w' : World} (h : Lat Ex w0 w) (ho : Only (w.heap.size ≤ ·) w w') : Lat Ex w0 w' := h.trans (ho.mono fun k hk => .inr (Nat.le_trans h.size hk))
theorem lat_of {w0 w : World} (h : Only (w0.heap.size ≤ ·) w0 w) (Ex : Nat → Prop) : Lat Ex w0 w := h.mono fun _ h => .inr h
/-- A reader: whatever is done to new blocks, it tells the nodes of a list; else an error of its own. -/
structure Rdr (Ex : Nat → Prop) (w0 : World) (F : Nat) (caps : Array Value) (l : List Nm) (E : Int → Int) : Prop where
  enters : ∀ args w, (callFunc F args).run Try.prog w = .ok (.enter F args) w
  call : ∀ W, Lat Ex w0 W → ∀ r, Calls Try.prog F (#[.int .i64 r] ++ caps) W (NodeSays W (nodeP l r) (E r))
  err : ∀ r, E r = 10 ∨ E r = 11
  small : FewN l
theorem src_rdr {Ex : Nat → Prop} {w : World} {bl : Nat} {A : Option Addr} {n c : Nat} {l : List Nm} (hb : ∀ W, Lat Ex w W → Blk W bl 22 [.slice A n c]) (h : ∀ W, Lat Ex w W → Nms W (.slice A n c) l) (hf : FewN l) : Rdr Ex w 26 #[.pointer (some ⟨bl, 0, none⟩)] l (fun _ => 11) :=
  ⟨fun _ _ => rfl, fun W hW r => src_c W bl A n c r l (hb W hW) (h W hW) hf, fun _ => .inr rfl, hf⟩
set_option maxRecDepth 100000 in
theorem askR_boxes (w : World) (Ex : Nat → Prop) (w0 : World) (F : Nat) (caps : Array Value) (E : Int → Int) (r : Int) (l : List Nm) (rd : Rdr Ex w0 F caps l E) (hw0 : Lat Ex w0 w) :
    Calls Try.prog F (#[.int .i64 r] ++ caps) ((w.alloc (.cells #[.bool false, .slice none 0 0, .slice none 0 0] 55)).alloc (.cells #[.int .i64 0] 40)) fun e W' => ∃ f P p pc Q q qc er, e = .returned (.tuple #[.agg #[.bool f, .slice P p pc, .slice Q q qc], .int .i64 er]) ∧ er = (if (nodeP l r).isSome then 0 else E r) ∧ Nod W' ((nodeP l r).getD ⟨false, [], []⟩) f (.slice P p pc) (.slice Q q qc) ∧ Only (w.heap.size ≤ ·) w W' ∧ Blk W' w.heap.size 55 [.bool false, .slice none 0 0, .slice none 0 0] ∧ Blk W' (w.heap.size + 1) 40 [.int .i64 0] := by
  have ho : Only (w.heap.size ≤ ·) w ((w.alloc (.cells #[.bool false, .slice none 0 0, .slice none 0 0] 55)).alloc (.cells #[.int .i64 0] 40)) := ((Only.refl _ w).alloc (fun _ h => h) _).alloc (fun _ h => h) _
  have h4 : Blk ((w.alloc (.cells #[.bool false, .slice none 0 0, .slice none 0 0] 55)).alloc (.cells #[.int .i64 0] 40)) w.heap.size 55 [.bool false, .slice none 0 0, .slice none 0 0] := (Blk.new w 55 [.bool false, .slice none 0 0, .slice none 0 0]).alloc _
  have h5 : Blk ((w.alloc (.cells #[.bool false, .slice none 0 0, .slice none 0 0] 55)).alloc (.cells #[.int .i64 0] 40)) (w.heap.size + 1) 40 [.int .i64 0] := by
    have := Blk.new (w.alloc (.cells #[.bool false, .slice none 0 0, .slice none 0 0] 55)) 40 [.int .i64 0]
    simpa using this
  refine (rd.call _ (lat_new hw0 ho) r).mono ?_
  rintro e W' ⟨⟨f, P, p, pc, Q, q, qc, er, h1, h2, h3⟩, hw⟩
  exact ⟨f, P, p, pc, Q, q, qc, er, h1, h2, h3, on_new ho hw, h4.later hw, h5.later hw⟩
set_option maxRecDepth 100000 in
set_option maxHeartbeats 3200000 in
theorem askR_c (w : World) (Ex : Nat → Prop) (w0 : World) (F : Nat) (caps : Array Value) (E : Int → Int) (r : Int) (l : List Nm) (rd : Rdr Ex w0 F caps l E) (hw0 : Lat Ex w0 w) :
    Calls Try.prog 48 #[.func (.func F) #[] caps, .int .i64 r] w (NodeSaysK w (nodeP l r) (E r)) := by
  have hmf : ∀ (fn : Fn) (first cap : Array Value) (w : World), (Instr.makeFunc fn first cap).run Try.prog w = .ok (.func fn first cap) w := fun _ _ _ _ => rfl
  have HC := Lib.hid (askR_boxes w Ex w0 F caps E r l rd hw0)
  have eg := rd.enters
  have HSM := Lib.hid (rd.small.get r)
  have HER := rd.err r
  clear rd hw0
  cases hno : nodeP l r with
  | none =>
    rcases HER with her0 | her0
    · go_enter_defers Try.func48, Try.ntmps48
      go_upto_region 3 with (go_at_fn F; refine HC.out.mono ?_; rintro e W1 ⟨f, P, p, pc, Q, q, qc, er, rfl, her, hnd, ho1, h4, h5⟩; have HND := Lib.hid hnd; have HO1 := Lib.hid ho1; have H4 := Lib.hid h4; have H5 := Lib.hid h5; rw [hno] at her; simp only [Option.isSome_none, Bool.false_eq_true, if_false] at her; rw [her0] at her; subst her; (obtain ⟨k0, k1, k2⟩ := h4.tri); (obtain ⟨f0, f1, f2⟩ := h4.melt3); have k5 := h5.cell 0; have f5 := h5.frozen 0; clear hnd ho1 h4 h5)
      obtain ⟨W2, hW2⟩ : ∃ W, W = (((W1.setCell ⟨w.heap.size, 0, none⟩ (.bool f)).setCell ⟨w.heap.size, 1, none⟩ (.slice P p pc)).setCell ⟨w.heap.size, 2, none⟩ (.slice Q q qc)).setCell ⟨w.heap.size + 1, 0, none⟩ (.int .i64 10) := ⟨_, rfl⟩
      rw [← hW2]
      have HO2 : Hid (Only (fun j => j = w.heap.size ∨ j = w.heap.size + 1) W1 W2) := Lib.hid (by rw [hW2]; exact ((((Only.refl _ W1).setCell (p := ⟨w.heap.size, 0, none⟩) (.inl rfl) _).setCell (p := ⟨w.heap.size, 1, none⟩) (.inl rfl) _).setCell (p := ⟨w.heap.size, 2, none⟩) (.inl rfl) _).setCell (p := ⟨w.heap.size + 1, 0, none⟩) (.inr rfl) _)
      have HG4 : Hid (Blk W2 w.heap.size 55 [.bool f, .slice P p pc, .slice Q q qc]) := Lib.hid (by rw [hW2]; exact ((((H4.out.set_ 0 _).set_ 1 _).set_ 2 _).far (p := ⟨w.heap.size + 1, 0, none⟩) (by simp) _))
      have HG5 : Hid (Blk W2 (w.heap.size + 1) 40 [.int .i64 10]) := Lib.hid (by rw [hW2]; exact (((H5.out.far (p := ⟨w.heap.size, 0, none⟩) (by simp) _).far (p := ⟨w.heap.size, 1, none⟩) (by simp) _).far (p := ⟨w.heap.size, 2, none⟩) (by simp) _).set_ 0 _)
      have HD2 : Hid (Nod W2 _ f (.slice P p pc) (.slice Q q qc)) := Lib.hid (HND.out.keep2 H4.out H5.out (by rw [hW2]))
      clear k0 k1 k2 k5 f0 f1 f2 f5 hW2
      rw [hno] at HD2
      obtain ⟨k0, k1, k2⟩ := HG4.out.tri
      obtain ⟨f0, f1, f2⟩ := HG4.out.melt3
      have k5 := HG5.out.cell 0
      have f5 := HG5.out.frozen 0
      go_wp2_with (fail)
      go_region
      all_goals go_wp2
      all_goals
        refine leaves_cons (f := 53) (args := #[.pointer (some ⟨w.heap.size, 0, none⟩), .pointer (some ⟨w.heap.size + 1, 0, none⟩)]) (by simp) (by simp [go_sem]) ?_
        refine (ask1_idle _ _ _).mono ?_
        rintro e u' w'' ⟨rfl, rfl, rfl⟩
        simp [Leaves, settle, results, Try.results48, go_sem, k0, k1, k2, k5]
        exact ⟨⟨false, none, 0, 0, none, 0, 0, 10, rfl, (by rw [her0]; rfl), NodK.none_ _ _ _⟩, (((((HO1.out.trans (HO2.out.mono fun j hj => by rcases hj with rfl | rfl <;> omega)).setCell (p := ⟨w.heap.size, 0, none⟩) (Nat.le_refl _) _).setCell (p := ⟨w.heap.size, 1, none⟩) (Nat.le_refl _) _).setCell (p := ⟨w.heap.size, 2, none⟩) (Nat.le_refl _) _).setCell (p := ⟨w.heap.size + 1, 0, none⟩) (Nat.le_succ _) _).drew⟩
    · go_enter_defers Try.func48, Try.ntmps48
      go_upto_region 3 with (go_at_fn F; refine HC.out.mono ?_; rintro e W1 ⟨f, P, p, pc, Q, q, qc, er, rfl, her, hnd, ho1, h4, h5⟩; have HND := Lib.hid hnd; have HO1 := Lib.hid ho1; have H4 := Lib.hid h4; have H5 := Lib.hid h5; rw [hno] at her; simp only [Option.isSome_none, Bool.false_eq_true, if_false] at her; rw [her0] at her; subst her; (obtain ⟨k0, k1, k2⟩ := h4.tri); (obtain ⟨f0, f1, f2⟩ := h4.melt3); have k5 := h5.cell 0; have f5 := h5.frozen 0; clear hnd ho1 h4 h5)
      obtain ⟨W2, hW2⟩ : ∃ W, W = (((W1.setCell ⟨w.heap.size, 0, none⟩ (.bool f)).setCell ⟨w.heap.size, 1, none⟩ (.slice P p pc)).setCell ⟨w.heap.size, 2, none⟩ (.slice Q q qc)).setCell ⟨w.heap.size + 1, 0, none⟩ (.int .i64 11) := ⟨_, rfl⟩
      rw [← hW2]
      have HO2 : Hid (Only (fun j => j = w.heap.size ∨ j = w.heap.size + 1) W1 W2) := Lib.hid (by rw [hW2]; exact ((((Only.refl _ W1).setCell (p := ⟨w.heap.size, 0, none⟩) (.inl rfl) _).setCell (p := ⟨w.heap.size, 1, none⟩) (.inl rfl) _).setCell (p := ⟨w.heap.size, 2, none⟩) (.inl rfl) _).setCell (p := ⟨w.heap.size + 1, 0, none⟩) (.inr rfl) _)
      have HG4 : Hid (Blk W2 w.heap.size 55 [.bool f, .slice P p pc, .slice Q q qc]) := Lib.hid (by rw [hW2]; exact ((((H4.out.set_ 0 _).set_ 1 _).set_ 2 _).far (p := ⟨w.heap.size + 1, 0, none⟩) (by simp) _))
      have HG5 : Hid (Blk W2 (w.heap.size + 1) 40 [.int .i64 11]) := Lib.hid (by rw [hW2]; exact (((H5.out.far (p := ⟨w.heap.size, 0, none⟩) (by simp) _).far (p := ⟨w.heap.size, 1, none⟩) (by simp) _).far (p := ⟨w.heap.size, 2, none⟩) (by simp) _).set_ 0 _)
      have HD2 : Hid (Nod W2 _ f (.slice P p pc) (.slice Q q qc)) := Lib.hid (HND.out.keep2 H4.out H5.out (by rw [hW2]))
      clear k0 k1 k2 k5 f0 f1 f2 f5 hW2
      rw [hno] at HD2
      obtain ⟨k0, k1, k2⟩ := HG4.out.tri
      obtain ⟨f0, f1, f2⟩ := HG4.out.melt3
      have k5 := HG5.out.cell 0
      have f5 := HG5.out.frozen 0
      go_wp2_with (fail)
      go_region
      all_goals go_wp2
      all_goals
        refine leaves_cons (f := 53) (args := #[.pointer (some ⟨w.heap.size, 0, none⟩), .pointer (some ⟨w.heap.size + 1, 0, none⟩)]) (by simp) (by simp [go_sem]) ?_
        refine (ask1_idle _ _ _).mono ?_
        rintro e u' w'' ⟨rfl, rfl, rfl⟩
        simp [Leaves, settle, results, Try.results48, go_sem, k0, k1, k2, k5]
        exact ⟨⟨false, none, 0, 0, none, 0, 0, 11, rfl, (by rw [her0]; rfl), NodK.none_ _ _ _⟩, (((((HO1.out.trans (HO2.out.mono fun j hj => by rcases hj with rfl | rfl <;> omega)).setCell (p := ⟨w.heap.size, 0, none⟩) (Nat.le_refl _) _).setCell (p := ⟨w.heap.size, 1, none⟩) (Nat.le_refl _) _).setCell (p := ⟨w.heap.size, 2, none⟩) (Nat.le_refl _) _).setCell (p := ⟨w.heap.size + 1, 0, none⟩) (Nat.le_succ _) _).drew⟩
  | some x =>
    go_enter_defers Try.func48, Try.ntmps48
    go_upto_region 3 with (go_at_fn F; refine HC.out.mono ?_; rintro e W1 ⟨f, P, p, pc, Q, q, qc, er, rfl, her, hnd, ho1, h4, h5⟩; have HND := Lib.hid hnd; have HO1 := Lib.hid ho1; have H4 := Lib.hid h4; have H5 := Lib.hid h5; rw [hno] at her; simp only [Option.isSome_some, if_true] at her; subst her; (obtain ⟨k0, k1, k2⟩ := h4.tri); (obtain ⟨f0, f1, f2⟩ := h4.melt3); have k5 := h5.cell 0; have f5 := h5.frozen 0; clear hnd ho1 h4 h5)
    obtain ⟨W2, hW2⟩ : ∃ W, W = (((W1.setCell ⟨w.heap.size, 0, none⟩ (.bool f)).setCell ⟨w.heap.size, 1, none⟩ (.slice P p pc)).setCell ⟨w.heap.size, 2, none⟩ (.slice Q q qc)).setCell ⟨w.heap.size + 1, 0, none⟩ (.int .i64 0) := ⟨_, rfl⟩
    rw [← hW2]
    have HO2 : Hid (Only (fun j => j = w.heap.size ∨ j = w.heap.size + 1) W1 W2) := Lib.hid (by rw [hW2]; exact ((((Only.refl _ W1).setCell (p := ⟨w.heap.size, 0, none⟩) (.inl rfl) _).setCell (p := ⟨w.heap.size, 1, none⟩) (.inl rfl) _).setCell (p := ⟨w.heap.size, 2, none⟩) (.inl rfl) _).setCell (p := ⟨w.heap.size + 1, 0, none⟩) (.inr rfl) _)
    have HG4 : Hid (Blk W2 w.heap.size 55 [.bool f, .slice P p pc, .slice Q q qc]) := Lib.hid (by rw [hW2]; exact ((((H4.out.set_ 0 _).set_ 1 _).set_ 2 _).far (p := ⟨w.heap.size + 1, 0, none⟩) (by simp) _))
    have HG5 : Hid (Blk W2 (w.heap.size + 1) 40 [.int .i64 0]) := Lib.hid (by rw [hW2]; exact (((H5.out.far (p := ⟨w.heap.size, 0, none⟩) (by simp) _).far (p := ⟨w.heap.size, 1, none⟩) (by simp) _).far (p := ⟨w.heap.size, 2, none⟩) (by simp) _).set_ 0 _)
    have HD2 : Hid (Nod W2 _ f (.slice P p pc) (.slice Q q qc)) := Lib.hid (HND.out.keep2 H4.out H5.out (by rw [hW2]))
    clear k0 k1 k2 k5 f0 f1 f2 f5 hW2
    rw [hno] at HD2 HSM
    obtain ⟨k0, k1, k2⟩ := HG4.out.tri
    obtain ⟨f0, f1, f2⟩ := HG4.out.melt3
    have k5 := HG5.out.cell 0
    have f5 := HG5.out.frozen 0
    go_wp2_with (go_at_call 54; (with_reducible refine (copied_c W2 P Q p pc q qc f _ HD2.out HSM.out).mono ?_); rintro e W3 ⟨X, x1, xc, Y, y1, yc, rfl, hnd, ho3⟩; have HN3 := Lib.hid hnd; have HG43 := Lib.hid (HG4.out.later ho3); have HG53 := Lib.hid (HG5.out.later ho3); have HO3 := Lib.hid ho3; clear k0 k1 k2 k5 f0 f1 f2 f5; (obtain ⟨k0, k1, k2⟩ := HG43.out.tri); (obtain ⟨f0, f1, f2⟩ := HG43.out.melt3); have k5 := HG53.out.cell 0; have f5 := HG53.out.frozen 0; clear hnd ho3)
    obtain ⟨W4, hW4⟩ : ∃ W, W = (((W3.setCell ⟨w.heap.size, 0, none⟩ (.bool x.leaf)).setCell ⟨w.heap.size, 1, none⟩ (.slice X x1 xc)).setCell ⟨w.heap.size, 2, none⟩ (.slice Y y1 yc)).setCell ⟨w.heap.size + 1, 0, none⟩ (.int .i64 0) := ⟨_, rfl⟩
    rw [← hW4]
    have HO4 : Hid (Only (fun j => j = w.heap.size ∨ j = w.heap.size + 1) W3 W4) := Lib.hid (by rw [hW4]; exact ((((Only.refl _ W3).setCell (p := ⟨w.heap.size, 0, none⟩) (.inl rfl) _).setCell (p := ⟨w.heap.size, 1, none⟩) (.inl rfl) _).setCell (p := ⟨w.heap.size, 2, none⟩) (.inl rfl) _).setCell (p := ⟨w.heap.size + 1, 0, none⟩) (.inr rfl) _)
    have HG44 : Hid (Blk W4 w.heap.size 55 [.bool x.leaf, .slice X x1 xc, .slice Y y1 yc]) := Lib.hid (by rw [hW4]; exact ((((HG43.out.set_ 0 _).set_ 1 _).set_ 2 _).far (p := ⟨w.heap.size + 1, 0, none⟩) (by simp) _))
    have HG54 : Hid (Blk W4 (w.heap.size + 1) 40 [.int .i64 0]) := Lib.hid (by rw [hW4]; exact (((HG53.out.far (p := ⟨w.heap.size, 0, none⟩) (by simp) _).far (p := ⟨w.heap.size, 1, none⟩) (by simp) _).far (p := ⟨w.heap.size, 2, none⟩) (by simp) _).set_ 0 _)
    have HN4 : Hid (NodK w.heap.size none W4 x x.leaf (.slice X x1 xc) (.slice Y y1 yc)) := Lib.hid (SNod.step HN3.out (HO4.out.mono fun j hj => .inl (.inl (by have h1 := HG5.out.lt; rcases hj with rfl | rfl <;> omega))) fun j hj => by
      rcases hj with hj | hj
      · exact .inl (.inl (by have h1 := HG5.out.lt; omega))
      · cases hj)
    clear k0 k1 k2 k5 f0 f1 f2 f5 hW4
    obtain ⟨k0, k1, k2⟩ := HG44.out.tri
    have k5 := HG54.out.cell 0
    refine leaves_cons (f := 53) (args := #[.pointer (some ⟨w.heap.size, 0, none⟩), .pointer (some ⟨w.heap.size + 1, 0, none⟩)]) (by simp) (by simp [go_sem]) ?_
    refine (ask1_idle _ _ _).mono ?_
    rintro e u' w'' ⟨rfl, rfl, rfl⟩
    simp [Leaves, settle, results, Try.results48, go_sem, k0, k1, k2, k5]
    exact ⟨⟨x.leaf, X, x1, xc, Y, y1, yc, 0, rfl, rfl, HN4.out⟩, ((HO1.out.trans (HO2.out.mono fun j hj => by rcases hj with rfl | rfl <;> omega)).trans (HO3.out.mono fun j hj => Nat.le_trans (Nat.le_trans HO1.out.size HO2.out.size) hj)).trans (HO4.out.mono fun j hj => by rcases hj with rfl | rfl <;> omega)⟩
end Go.Proofs.Ytnjhpjpeeehagaa

/-
  Ways in a tree that is told whole, and the places to which they lead: plain data. No memory here.
-/
set_option linter.unusedVariables false
namespace Go.Proofs.Ytnjhpjpeeehagaa

/-- The segments of a node's kids. -/
def KS (l : List Nm) (h : Nat) (x : Nd) (sp : Sn) (seg : List It) (segs : List (List It)) : Prop := segs.length = x.kds.length ∧ seg = segs.flatten ∧ ∀ j s, segs[j]? = some s → ∃ r, SubT l true h (kd x.kds j).2 (underP sp x.kds j) s r
/-- A way, and the place to which it leads: it may lead beside the items of its leaf. -/
def PthT (l : List Nm) : Nat → Int → Sn → List It → List Sp → Int → Prop
  | 0, _, _, _, _, _ => False
  | h + 1, ref, sp, seg, p, n => ∃ x, nodeP l ref = some x ∧
    ((h = 0 ∧ x.leaf = true ∧ seg = x.its ∧ p = [(ref, x, n)]) ∨
     (x.leaf = false ∧ ∃ (segs : List (List It)) (k : Nat) (s : List It) (rest : List Sp) (m : Int), KS l h x sp seg segs ∧ segs[k]? = some s ∧ p = (ref, x, (k : Int)) :: rest ∧ PthT l h (kd x.kds k).2 (underP sp x.kds k) s rest m ∧ n = ((segs.take k).flatten.length : Int) + m))
theorem PthT.len {l : List Nm} : ∀ {h : Nat} {ref : Int} {sp : Sn} {seg : List It} {p : List Sp} {n : Int}, PthT l h ref sp seg p n → p.length = h
  | 0, _, _, _, _, _, h => h.elim
  | h + 1, ref, sp, seg, p, n, ⟨x, hx, .inl ⟨h0, _, _, e⟩⟩ => by rw [e, h0]; rfl
  | h + 1, ref, sp, seg, p, n, ⟨x, hx, .inr ⟨_, segs, k, s, rest, m, _, _, e, hr, _⟩⟩ => by rw [e, List.length_cons, hr.len]
theorem flat_take {α : Type} {L : List (List α)} {k : Nat} {s : List α} (h : L[k]? = some s) : (L.take (k + 1)).flatten.length = (L.take k).flatten.length + s.length := by
  rw [List.take_add_one, h, List.flatten_append, List.length_append]
  simp
theorem flat_get {α : Type} : ∀ {L : List (List α)} {k : Nat} {s : List α} {j : Nat}, L[k]? = some s → j < s.length → L.flatten[(L.take k).flatten.length + j]? = s[j]?
  | [], k, s, j, h, hj => by simp at h
  | t :: L, 0, s, j, h, hj => by
    simp at h
    subst h
    simp [List.getElem?_append_left hj]
  | t :: L, k + 1, s, j, h, hj => by
    have h1 : L[k]? = some s := by simpa using h
    rw [List.take_succ_cons, List.flatten_cons, List.flatten_cons, List.length_append, Nat.add_assoc, List.getElem?_append_right (by omega), Nat.add_sub_cancel_left]
    exact flat_get h1 hj
theorem flats_len {α : Type} {L : List (List α)} {k : Nat} {s : List α} (h : L[k]? = some s) : (L.take k).flatten.length + s.length ≤ L.flatten.length := by
  rw [← flat_take h]
  conv => rhs; rw [← List.take_append_drop (k + 1) L]
  rw [List.flatten_append, List.length_append]
  omega
/-- What stands where a way leads. -/
theorem PthT.item {l : List Nm} : ∀ {h : Nat} {ref : Int} {sp : Sn} {seg : List It} {p : List Sp} {n : Int}, PthT l h ref sp seg p n → ∃ (r : Int) (x : Nd) (K : Int), p.getLast? = some (r, x, K) ∧ x.leaf = true ∧ (0 ≤ K ∧ K < x.its.length → 0 ≤ n ∧ n < seg.length ∧ seg[n.toNat]? = x.its[K.toNat]?)
  | 0, _, _, _, _, _, h => h.elim
  | h + 1, ref, sp, seg, p, n, ⟨x, hx, .inl ⟨h0, h1, e1, e⟩⟩ => ⟨ref, x, n, by rw [e]; rfl, h1, fun hk => by rw [e1]; exact ⟨hk.1, hk.2, rfl⟩⟩
  | h + 1, ref, sp, seg, p, n, ⟨x, hx, .inr ⟨h1, segs, k, s, rest, m, hK, hs, e, hr, en⟩⟩ => by
    obtain ⟨r, y, K, g1, g2, g3⟩ := hr.item
    refine ⟨r, y, K, by rw [e, List.getLast?_cons, g1]; rfl, g2, fun hk => ?_⟩
    obtain ⟨a1, a2, a3⟩ := g3 hk
    have h4 := flats_len hs
    have h5 := flat_get (j := m.toNat) hs (by omega)
    rw [hK.2.1]
    refine ⟨by omega, by omega, ?_⟩
    rw [← a3, ← h5]
    congr 1
    omega
/-- A way that leads so many items on. -/
def shift (d : Int) : List Sp → List Sp
  | [] => []
  | [s] => [(s.1, s.2.1, s.2.2 + d)]
  | s :: t :: r => s :: shift d (t :: r)
theorem shift_cons {d : Int} {s : Sp} {r : List Sp} (h : r ≠ []) : shift d (s :: r) = s :: shift d r := by
  cases r with
  | nil => exact absurd rfl h
  | cons t r => rfl
theorem PthT.ne {l : List Nm} {h : Nat} {ref : Int} {sp : Sn} {seg : List It} {p : List Sp} {n : Int} (hp : PthT l h ref sp seg p n) : p ≠ [] := by
  intro e
  have h1 := hp.len
  rw [e] at h1
  cases h with
  | zero => exact hp
  | succ h => simp at h1
theorem PthT.shift {l : List Nm} (d : Int) : ∀ {h : Nat} {ref : Int} {sp : Sn} {seg : List It} {p : List Sp} {n : Int}, PthT l h ref sp seg p n → PthT l h ref sp seg (shift d p) (n + d)
  | 0, _, _, _, _, _, h => h.elim
  | h + 1, ref, sp, seg, p, n, ⟨x, hx, .inl ⟨h0, h1, e1, e⟩⟩ => ⟨x, hx, .inl ⟨h0, h1, e1, by rw [e]; rfl⟩⟩
  | h + 1, ref, sp, seg, p, n, ⟨x, hx, .inr ⟨h1, segs, k, s, rest, m, hK, hs, e, hr, en⟩⟩ => by
    refine ⟨x, hx, .inr ⟨h1, segs, k, s, Go.Proofs.Ytnjhpjpeeehagaa.shift d rest, m + d, hK, hs, ?_, hr.shift d, by rw [en]; omega⟩⟩
    rw [e, shift_cons hr.ne]
theorem kids_ks {l : List Nm} {h : Nat} {x : Nd} {sp : Sn} {seg : List It} {rs : List Int} (hr : KidsR (SubT l true h) x.kds sp 0 x.kds.length seg rs) : ∃ segs, KS l h x sp seg segs := by
  obtain ⟨segs, g1, g2, g3⟩ := hr.list
  exact ⟨segs, g1, g2, fun j s hs => by have h1 := g3 j s hs; rwa [Nat.zero_add] at h1⟩
/-- The first way leads to the first item, the last one to the last. -/
theorem SubT.edge_at {l : List Nm} (last : Bool) : ∀ {h : Nat} {ne : Bool} {ref : Int} {sp : Sn} {seg : List It} {refs : List Int} {left : Nat}, SubT l ne h ref sp seg refs → h ≤ left →
    ∃ path, downP l (chE last) left ref = (0, path) ∧ PthT l h ref sp seg path ((if last = true then seg.length - 1 else 0 : Nat) : Int)
  | 0, _, _, _, _, _, _, h, _ => h.elim
  | h + 1, ne, ref, sp, seg, refs, left, hT, hl => by
    obtain ⟨left, rfl⟩ : ∃ k, left = k + 1 := ⟨left - 1, by omega⟩
    obtain ⟨x, hx, ⟨h0, h1, h2, h3, h4, e1, _⟩ | ⟨h1, h2, h3, h4, rs, h5, _⟩⟩ := hT
    · subst e1 h0
      refine ⟨_, down_leaf hx h1, x, hx, .inl ⟨rfl, h1, rfl, ?_⟩⟩
      unfold chE
      cases last
      · rfl
      · rw [if_neg (by decide), if_pos h1, if_pos rfl]
    · obtain ⟨segs, hK⟩ := kids_ks h5
      obtain ⟨k, hk, hke⟩ : ∃ k, k < x.kds.length ∧ chE last x = k ∧ (k = if last = true then x.kds.length - 1 else 0) := by
        refine ⟨chE last x, ?_, rfl, ?_⟩
        · unfold chE
          cases last
          · rw [if_pos rfl]; omega
          · rw [if_neg (by decide), if_neg (by rw [h1]; decide)]; omega
        · unfold chE
          cases last
          · rfl
          · rw [if_neg (by decide), if_neg (by rw [h1]; decide), if_pos rfl]
      obtain ⟨s, hs⟩ : ∃ s, segs[k]? = some s := ⟨_, List.getElem?_eq_getElem (by rw [hK.1]; exact hk)⟩
      obtain ⟨r, hr⟩ := hK.2.2 k s hs
      obtain ⟨path, d1, d2⟩ := SubT.edge_at last hr (show h ≤ left by omega)
      have hkr : kidRef x (chE last x) = (kd x.kds k).2 := by unfold kidRef; rw [hke.1, kd_get hk]; rfl
      refine ⟨(ref, x, (chE last x : Int)) :: path, ?_, x, hx, .inr ⟨h1, segs, k, s, path, _, hK, hs, by rw [hke.1], d2, ?_⟩⟩
      · rw [downP, hx]
        simp only
        rw [if_neg (fun e => by rw [e.2] at h3; simp at h3), if_neg (by rw [h1]; decide), hkr, d1, if_pos rfl]
      · have hsn : s ≠ [] := SubT.some_ hr
        have hsl : 0 < s.length := List.length_pos_iff.2 hsn
        cases last with
        | false =>
          have e0 : k = 0 := hke.2
          subst e0
          simp
        | true =>
          have e0 : k = x.kds.length - 1 := by have := hke.2; rwa [if_pos rfl] at this
          have hfl : (segs.take k).flatten.length + s.length = seg.length := by
            rw [← flat_take hs, List.take_of_length_le (by rw [hK.1]; omega), hK.2.1]
          rw [if_pos rfl, if_pos rfl]
          omega
/-- To the next leaf on one side. -/
def asideP (l : List Nm) (side : Int) : List Sp → Option (Int × List Sp)
  | [] => none
  | [_] => none
  | s :: t :: r => match asideP l side (t :: r) with
    | some q => some (q.1, s :: q.2)
    | none => if 0 ≤ s.2.2 + side ∧ s.2.2 + side < s.2.1.kds.length then some ((downP l (chE (decide (side = -1))) 12 (kidRef s.2.1 (s.2.2 + side).toNat)).1, (s.1, s.2.1, s.2.2 + side) :: (downP l (chE (decide (side = -1))) 12 (kidRef s.2.1 (s.2.2 + side).toNat)).2) else none
theorem aside_cons {l : List Nm} {side : Int} {s : Sp} {r : List Sp} (h : r ≠ []) : asideP l side (s :: r) = match asideP l side r with
    | some q => some (q.1, s :: q.2)
    | none => if 0 ≤ s.2.2 + side ∧ s.2.2 + side < s.2.1.kds.length then some ((downP l (chE (decide (side = -1))) 12 (kidRef s.2.1 (s.2.2 + side).toNat)).1, (s.1, s.2.1, s.2.2 + side) :: (downP l (chE (decide (side = -1))) 12 (kidRef s.2.1 (s.2.2 + side).toNat)).2) else none := by
  cases r with
  | nil => exact absurd rfl h
  | cons t r => rfl
/-- Does a way lead beside its leaf, on that side? -/
def Off (side : Int) (p : List Sp) : Prop := ∃ (r : Int) (x : Nd) (K : Int), p.getLast? = some (r, x, K) ∧ K = if side = 1 then (x.its.length : Int) else -1
theorem PthT.aside {l : List Nm} (side : Int) (hsd : side = 1 ∨ side = -1) : ∀ {h : Nat} {ref : Int} {sp : Sn} {seg : List It} {p : List Sp} {n : Int}, PthT l h ref sp seg p n → Off side p → h ≤ 12 →
    (asideP l side p = none ∧ n = if side = 1 then (seg.length : Int) else -1) ∨ ∃ p', asideP l side p = some (0, p') ∧ PthT l h ref sp seg p' n ∧ 0 ≤ n ∧ n < seg.length
  | 0, _, _, _, _, _, h, _, _ => h.elim
  | h + 1, ref, sp, seg, p, n, ⟨x, hx, .inl ⟨h0, h1, e1, e⟩⟩, ⟨r, y, K, g1, g2⟩, hh => by
    rw [e] at g1
    have g3 : (ref, x, n) = (r, y, K) := by simpa using g1
    cases g3
    refine .inl ⟨by rw [e]; rfl, ?_⟩
    rw [g2, e1]
  | h + 1, ref, sp, seg, p, n, ⟨x, hx, .inr ⟨h1, segs, k, s, rest, m, hK, hs, e, hr, en⟩⟩, hO, hh => by
    have hO2 : Off side rest := by
      obtain ⟨r, y, K, g1, g2⟩ := hO
      refine ⟨r, y, K, ?_, g2⟩
      rw [e, List.getLast?_cons] at g1
      obtain ⟨z, hz⟩ : ∃ z, rest.getLast? = some z := ⟨_, List.getLast?_eq_some_getLast hr.ne⟩
      rw [hz] at g1 ⊢
      exact g1
    have hle := flats_len hs
    have hks : k < x.kds.length := by have := (List.getElem?_eq_some_iff.1 hs).1; rw [hK.1] at this; exact this
    rw [e, aside_cons hr.ne]
    rcases PthT.aside side hsd hr hO2 (by omega) with ⟨a1, a2⟩ | ⟨p', a1, a2, a3, a4⟩
    · rw [a1]
      simp only
      by_cases hin : 0 ≤ (k : Int) + side ∧ (k : Int) + side < x.kds.length
      · rw [if_pos hin]
        obtain ⟨j, hj⟩ : ∃ j : Nat, (k : Int) + side = (j : Int) := ⟨((k : Int) + side).toNat, by omega⟩
        obtain ⟨t, ht⟩ : ∃ t, segs[j]? = some t := ⟨_, List.getElem?_eq_getElem (by rw [hK.1]; omega)⟩
        obtain ⟨r, hT⟩ := hK.2.2 j t ht
        obtain ⟨path, d1, d2⟩ := SubT.edge_at (decide (side = -1)) hT (show h ≤ 12 by omega)
        have hkr : kidRef x ((k : Int) + side).toNat = (kd x.kds j).2 := by unfold kidRef; rw [hj, Int.toNat_natCast, kd_get (by omega)]; rfl
        have htn : t ≠ [] := SubT.some_ hT
        have htl : 0 < t.length := List.length_pos_iff.2 htn
        have hjl := flats_len ht
        refine .inr ⟨(ref, x, (j : Int)) :: path, by rw [hkr, d1, hj], ⟨x, hx, .inr ⟨h1, segs, j, t, path, _, hK, ht, rfl, d2, ?_⟩⟩, ?_⟩
        · rcases hsd with rfl | rfl
          · obtain rfl : j = k + 1 := by omega
            rw [en, a2, flat_take hs]
            simp
          · obtain rfl : k = j + 1 := by omega
            have h6 := flat_take ht
            rw [if_neg (by decide)] at a2
            rw [en, a2, if_pos (by decide)]
            omega
        · rw [hK.2.1]
          rcases hsd with rfl | rfl
          · obtain rfl : j = k + 1 := by omega
            have h6 := flat_take hs
            rw [if_pos rfl] at a2
            omega
          · obtain rfl : k = j + 1 := by omega
            have h6 := flat_take ht
            rw [if_neg (by decide)] at a2
            omega
      · rw [if_neg hin]
        refine .inl ⟨rfl, ?_⟩
        rcases hsd with rfl | rfl
        · rw [if_pos rfl] at a2 ⊢
          have e9 : k + 1 = segs.length := by rw [hK.1]; omega
          have h6 := flat_take hs
          rw [List.take_of_length_le (by omega)] at h6
          rw [hK.2.1, h6, en, a2]
          simp
        · rw [if_neg (by decide)] at a2 ⊢
          obtain rfl : k = 0 := by omega
          rw [en, a2]
          simp
    · rw [a1]
      refine .inr ⟨(ref, x, (k : Int)) :: p', rfl, ⟨x, hx, .inr ⟨h1, segs, k, s, p', m, hK, hs, rfl, a2, en⟩⟩, ?_⟩
      rw [hK.2.1]
      omega
end Go.Proofs.Ytnjhpjpeeehagaa

/-
  Where a key leads: plain data. No memory here.
-/
set_option linter.unusedVariables false
namespace Go.Proofs.Ytnjhpjpeeehagaa

theorem flat_parts {α : Type} {L : List (List α)} {k : Nat} {s : List α} (h : L[k]? = some s) : L.flatten = (L.take k).flatten ++ (s ++ (L.drop (k + 1)).flatten) := by
  conv => lhs; rw [← List.take_append_drop (k + 1) L]
  rw [List.flatten_append, List.take_add_one, h, List.flatten_append, List.append_assoc]
  simp
theorem SubT.seek {l : List Nm} {key : Bytes} : ∀ {h : Nat} {ne : Bool} {ref : Int} {sp : Sn} {seg : List It} {refs : List Int} {left : Nat}, SubT l ne h ref sp seg refs → InS sp key → h ≤ left →
    ∃ path, downP l (chP key) left ref = (0, path) ∧ PthT l h ref sp seg path (findP seg key : Nat)
  | 0, _, _, _, _, _, _, h, _, _ => h.elim
  | h + 1, ne, ref, sp, seg, refs, left, hT, hk, hl => by
    obtain ⟨left, rfl⟩ : ∃ k, left = k + 1 := ⟨left - 1, by omega⟩
    obtain ⟨x, hx, ⟨h0, h1, h2, h3, h4, e1, _⟩ | ⟨h1, h2, h3, h4, rs, h5, _⟩⟩ := hT
    · subst e1 h0
      refine ⟨_, down_leaf hx h1, x, hx, .inl ⟨rfl, h1, rfl, ?_⟩⟩
      unfold chP
      rw [if_pos h1]
    · obtain ⟨segs, hK⟩ := kids_ks h5
      have hKR := keysR_of h4
      obtain ⟨k, hkk⟩ : ∃ k, chP key x = k := ⟨_, rfl⟩
      have hks : k = sideN x.kds key x.kds.length := by rw [← hkk]; unfold chP; rw [if_neg (by rw [h1]; decide)]
      have hlt : k < x.kds.length := by rw [hks]; exact sideN_le x.kds key x.kds.length (by omega)
      have hun : InS (underP sp x.kds k) key := by rw [hks]; exact side_under (ks := x.kds) (by omega) hk
      obtain ⟨sp1, sp2⟩ := side_spec x.kds key x.kds.length (by omega) (Nat.le_refl _)
      rw [← hks] at sp1 sp2
      obtain ⟨s, hs⟩ : ∃ s, segs[k]? = some s := ⟨_, List.getElem?_eq_getElem (by rw [hK.1]; exact hlt)⟩
      obtain ⟨r, hr⟩ := hK.2.2 k s hs
      obtain ⟨path, d1, d2⟩ := SubT.seek hr hun (show h ≤ left by omega)
      have hkr : kidRef x k = (kd x.kds k).2 := by unfold kidRef; rw [kd_get hlt]; rfl
      refine ⟨(ref, x, (k : Int)) :: path, ?_, x, hx, .inr ⟨h1, segs, k, s, path, _, hK, hs, rfl, d2, ?_⟩⟩
      · rw [downP, hx]
        simp only
        rw [if_neg (fun e => by rw [e.2] at h3; simp at h3), if_neg (by rw [h1]; decide), hkk, hkr, d1, if_pos rfl]
      · have hb : findP (segs.take k).flatten key = (segs.take k).flatten.length := by
          unfold findP
          rw [List.countP_eq_length]
          intro y hy
          obtain ⟨t, ht, hyt⟩ := List.mem_flatten.1 hy
          obtain ⟨j, hj⟩ := List.getElem?_of_mem ht
          have hjk : j < k := by
            have := (List.getElem?_eq_some_iff.1 hj).1
            rw [List.length_take] at this
            omega
          rw [List.getElem?_take_of_lt hjk] at hj
          obtain ⟨r', hr'⟩ := hK.2.2 j t hj
          have hin := (hr'.sorted.1 y hyt).2
          rw [under_2, if_pos (by omega)] at hin
          have h6 : cmp y.1 (kd x.kds (j + 1)).1 < 0 := hin _ rfl
          have h7 : cmp (kd x.kds k).1 key ≤ 0 := sp1.resolve_left (by omega)
          have h8 : cmp y.1 (kd x.kds k).1 < 0 := by
            rcases Nat.lt_or_ge (j + 1) k with h9 | h9
            · exact cmp_lt h6 (hKR.2 (j + 1) k (by omega) h9 hlt)
            · obtain rfl : k = j + 1 := by omega
              exact h6
          exact decide_eq_true (cmp_lt_le h8 h7)
        have hc : findP (segs.drop (k + 1)).flatten key = 0 := by
          unfold findP
          rw [List.countP_eq_zero]
          intro y hy
          obtain ⟨t, ht, hyt⟩ := List.mem_flatten.1 hy
          obtain ⟨j, hj⟩ := List.getElem?_of_mem ht
          rw [List.getElem?_drop] at hj
          have hjl : k + 1 + j < x.kds.length := by have := (List.getElem?_eq_some_iff.1 hj).1; rw [hK.1] at this; exact this
          obtain ⟨r', hr'⟩ := hK.2.2 _ t hj
          have hin := (hr'.sorted.1 y hyt).1
          rw [under_1, if_pos (by omega)] at hin
          have h7 := sp2 (k + 1 + j) (by omega) hjl
          rw [decide_eq_true_eq]
          intro h8
          exact h7 (Int.le_of_lt (cmp_le_lt hin h8))
        have e : findP seg key = findP (segs.take k).flatten key + (findP s key + findP (segs.drop (k + 1)).flatten key) := by
          rw [hK.2.1, flat_parts hs]
          unfold findP
          rw [List.countP_append, List.countP_append]
        rw [e, hb, hc]
        omega
/-- What the document's place behind a call is. -/
def atP (n : Int) (len : Nat) : Int := if 0 ≤ n ∧ n < len then n else -1
end Go.Proofs.Ytnjhpjpeeehagaa

/-
  The way down, in a row of the call's own.
-/
set_option linter.unusedVariables false
namespace Go.Proofs.Ytnjhpjpeeehagaa
open Go.RowKit

def DownOwn (w : World) (r : Int × List Sp) (e : Ending) (w' : World) : Prop :=
  (∃ A n c er path B C, e = .returned (.tuple #[.slice A n c, .int .i64 er]) ∧ (er, path) = r ∧ n = path.length ∧ w.heap.size ≤ B ∧ w'.ownsRow B 106 5 (.slice A n c) n C ∧ Den (spEk.K B (Value.slice A n c).ownBlock w') path C) ∧ Only (w.heap.size ≤ ·) w w'
/-- The way down of a reader that tells an error of its own. -/
def downX (l : List Nm) (E : Int → Int) (ch : Nd → Nat) : Nat → Int → Int × List Sp
  | 0, _ => (130, [])
  | k + 1, ref => match nodeP l ref with
    | none => (E ref, [])
    | some x => if x.leaf = false ∧ x.kds = [] then (131, []) else if x.leaf = true then (0, [(ref, x, (ch x : Int))]) else
        if (downX l E ch k (kidRef x (ch x))).1 = 0 then (0, (ref, x, (ch x : Int)) :: (downX l E ch k (kidRef x (ch x))).2) else ((downX l E ch k (kidRef x (ch x))).1, [])
section
variable {l : List Nm} {E : Int → Int} {ch : Nd → Nat} {k : Nat} {ref : Int} {x : Nd}
theorem downX_none (h : nodeP l ref = none) : downX l E ch (k + 1) ref = (E ref, []) := by rw [downX, h]
theorem downX_bare (h : nodeP l ref = some x) (h1 : x.leaf = false) (h2 : x.kds = []) : downX l E ch (k + 1) ref = (131, []) := by
  rw [downX, h]
  simp only
  rw [if_pos ⟨h1, h2⟩]
theorem downX_leaf (h : nodeP l ref = some x) (h1 : x.leaf = true) : downX l E ch (k + 1) ref = (0, [(ref, x, (ch x : Int))]) := by
  rw [downX, h]
  simp only
  rw [if_neg (fun h => by rw [h1] at h; cases h.1), if_pos h1]
theorem downX_kid (a : List Sp) (h : nodeP l ref = some x) (h1 : x.leaf = false) (h2 : x.kds ≠ []) : joinP a (downX l E ch (k + 1) ref) = joinP (a ++ [(ref, x, (ch x : Int))]) (downX l E ch k (kidRef x (ch x))) := by
  rw [downX, h]
  simp only
  rw [if_neg (fun h => h2 h.2), if_neg (fun h => by rw [h1] at h; cases h)]
  unfold joinP
  by_cases hq : (downX l E ch k (kidRef x (ch x))).1 = 0
  · rw [if_pos hq, if_pos hq, if_pos rfl]
    simp
  · rw [if_neg hq, if_neg hq, if_neg hq]
theorem downX_11 : ∀ (k : Nat) (r : Int), downX l (fun _ => 11) ch k r = downP l ch k r
  | 0, _ => rfl
  | k + 1, r => by
    rw [downX, downP]
    cases nodeP l r with
    | none => rfl
    | some x => simp only [downX_11 k]
theorem downX_err : ∀ (k : Nat) (r : Int), (downX l E ch k r).1 ≠ 0 → (downX l E ch k r).2 = []
  | 0, r, _ => rfl
  | k + 1, r, h => by
    rw [downX] at h ⊢
    cases hno : nodeP l r with
    | none => rfl
    | some x =>
      rw [hno] at h
      simp only at h ⊢
      split at h
      · rw [if_pos (by assumption)]
      · rw [if_neg (by assumption)]
        split at h
        · exact absurd rfl h
        · rw [if_neg (by assumption)]
          split at h
          · exact absurd rfl h
          · rw [if_neg (by assumption)]
theorem joinX_nil (k : Nat) (r : Int) : joinP [] (downX l E ch k r) = downX l E ch k r := by
  unfold joinP
  by_cases h : (downX l E ch k r).1 = 0
  · rw [if_pos h, List.nil_append, ← h]
  · rw [if_neg h, ← downX_err k r h]
theorem downX_len : ∀ (k : Nat) (r : Int), (downX l E ch k r).2.length ≤ k
  | 0, r => Nat.le_refl _
  | k + 1, r => by
    rw [downX]
    cases nodeP l r with
    | none => simp
    | some x =>
      simp only
      split
      · simp
      · split
        · simp
        · split
          · have h1 := downX_len k (kidRef x (ch x))
            simp only [List.length_cons]
            omega
          · simp
end
/-- Where a node is taken from a list, the way is the same, or tells its error. -/
theorem down_hole {l l' : List Nm} {E : Int → Int} {ch : Nd → Nat} (hN : ∀ r, nodeP l' r = nodeP l r ∨ nodeP l' r = none) (hE : ∀ r x, nodeP l' r = none → nodeP l r = some x → E r = 10) :
    ∀ (k : Nat) (r : Int), (downP l ch k r).1 = 0 → downX l' E ch k r = downP l ch k r ∨ downX l' E ch k r = (10, [])
  | 0, r, h => absurd h (by show ¬ (130 : Int) = 0; decide)
  | k + 1, r, h => by
    rw [downP] at h
    cases hx : nodeP l r with
    | none =>
      rw [hx] at h
      exact absurd h (by show ¬ (11 : Int) = 0; decide)
    | some x =>
      rw [hx] at h
      rcases hN r with h1 | h1
      · rw [hx] at h1
        rw [downX, h1, downP, hx]
        simp only at h ⊢
        by_cases c1 : x.leaf = false ∧ x.kds = []
        · rw [if_pos c1] at h
          exact absurd h (by show ¬ (131 : Int) = 0; decide)
        · rw [if_neg c1] at h
          rw [if_neg c1, if_neg c1]
          by_cases c2 : x.leaf = true
          · rw [if_pos c2, if_pos c2]
            exact .inl rfl
          · rw [if_neg c2] at h
            rw [if_neg c2, if_neg c2]
            by_cases c3 : (downP l ch k (kidRef x (ch x))).1 = 0
            · rcases down_hole hN hE k _ c3 with h4 | h4
              · rw [h4]
                exact .inl rfl
              · rw [h4]
                exact .inr rfl
            · rw [if_neg c3] at h
              exact absurd h c3
      · rw [downX_none h1, hE r x h1 hx]
        exact .inr rfl
set_option maxRecDepth 100000 in
set_option maxHeartbeats 25600000 in
theorem down_o (w : World) (Ex : Nat → Prop) (w0 : World) (RF : Nat) (rcaps : Array Value) (E : Int → Int) (root : Int) (l : List Nm) (rd : Rdr Ex w0 RF rcaps l E) (hw0 : Lat Ex w0 w) (F : Nat) (caps : Array Value) (ch : Nd → Nat) {ok : Nd → Prop} (hc : Chs w F caps ch ok) (hok : ∀ ref x, Vis l root ref → nodeP l ref = some x → ok x) :
    Calls Try.prog 40 #[.func (.func RF) #[] rcaps, .int .i64 root, .func (.func F) #[] caps] w (DownOwn w (downX l E ch 12 root)) := by
  obtain ⟨i1, hi0, hz0, hz1, hz2⟩ := info_parts info_S
  have HI1 := Lib.hid (And.intro hi0 (And.intro hz0 (And.intro hz1 hz2)))
  clear hi0 hz0 hz1 hz2
  have eg := hc.enters
  have HRD := Lib.hid rd
  have HW0 := Lib.hid hw0
  have egr := rd.enters
  have HCH := Lib.hid hc
  have HOK := Lib.hid hok
  have hfn := func_nil RF rcaps
  clear rd hw0 hc hok
  go_enter Try.func40, Try.ntmps40
  go_wp2_with (fail)
  go_loopg [8, 9] 12 (fun gk pv rv wr => ∃ (k : Nat) (ref : Int) (acc : List Sp) (C : List Value) (A : Option Addr) (c : Nat), gk = 12 - k ∧ k ≤ 12 ∧ pv = .slice A k c ∧ rv = .int .i64 ref ∧ Hid (k = acc.length) ∧ Hid (wr.ownsRow w.heap.size 106 5 (.slice A k c) k C) ∧ Hid (Den (spEk.K w.heap.size (Value.slice A k c).ownBlock wr) acc C) ∧ Hid (downX l E ch 12 root = joinP acc (downX l E ch (12 - k) ref)) ∧ Hid (Vis l root ref) ∧ Hid (Only (w.heap.size ≤ ·) w wr))
  case atStart => exact ⟨0, root, [], [], none, 0, rfl, by omega, rfl, rfl, Lib.hid rfl, Lib.hid (World.ownsRow_nil _ _ _ _), Lib.hid rfl, Lib.hid (joinX_nil 12 root).symm, Lib.hid Vis.root, Lib.hid (Only.refl _ _)⟩
  case round =>
    obtain ⟨k, ref, acc, C, A, c, rfl, hk, rfl, rfl, HKL, HROW, HDEN, HD, HVI, HO⟩ := hrel
    by_cases hlt : k < 12
    · have hlt' : (k : Int) < 12 := by omega
      obtain ⟨kf, hkf⟩ : ∃ kf, 12 - k = kf + 1 := ⟨11 - k, by omega⟩
      rw [hkf] at HD
      have HKF := Lib.hid hkf
      clear hkf
      cases hno : nodeP l ref with
      | none =>
        rw [downX_none hno] at HD
        rcases HRD.out.err ref with her0 | her0
        all_goals
          rw [her0] at HD
          go_wp2_with (go_at_call 48; ((with_reducible refine (askR_c _ Ex w0 RF rcaps E ref l HRD.out (lat_new HW0.out HO.out)).mono ?_); rintro e w2 ⟨⟨f, P, p, pc, Q, q, qc, er, rfl, her, hnk⟩, ho⟩; rw [hno] at her hnk; rw [her0] at her; simp only [Option.isSome_none, Bool.false_eq_true, if_false] at her; subst her; have HNK := Lib.hid hnk; have HO2 := Lib.hid ho; replace HO := Lib.hid (on_new HO.out ho); clear hnk ho))
          go_ret2
          exact ⟨⟨none, 0, 0, _, [], w.heap.size, [], rfl, HD.out.symm, rfl, Nat.le_refl _, World.ownsRow_nil _ _ _ _, rfl⟩, HO.out.alloc (fun _ h => h) _⟩
      | some x =>
        have HOO := HO
        have HSM : Hid (Sml x) := Lib.hid (by have := HRD.out.small.get ref; rw [hno] at this; exact this)
        go_upto_region 7 with (go_at_call 48; ((with_reducible refine (askR_c _ Ex w0 RF rcaps E ref l HRD.out (lat_new HW0.out HO.out)).mono ?_); rintro e w2 ⟨⟨f, P, p, pc, Q, q, qc, er, rfl, her, hnk⟩, ho⟩; rw [hno] at her hnk; simp only [Option.isSome_some, if_true] at her; subst her; have HNK := Lib.hid hnk; have HO2 := Lib.hid ho; replace HO := Lib.hid (on_new HO.out ho); clear hnk ho))
        have HLF : Hid (f = x.leaf) := Lib.hid HNK.out.now.1
        obtain rfl := HLF.out
        obtain ⟨lf, hlf⟩ : ∃ b, b = x.leaf := ⟨_, rfl⟩
        have HLE := Lib.hid hlf
        rw [← hlf] at HNK ⊢
        have HQL : Hid (q = x.kds.length) := Lib.hid HNK.out.now.2.2.len
        obtain ⟨w3, hw3⟩ : ∃ x, x = w2.alloc (.cells #[.bool lf, .slice P p pc, .slice Q q qc] 55) := ⟨_, rfl⟩
        obtain ⟨b3, hb3⟩ : ∃ x, x = w2.heap.size := ⟨_, rfl⟩
        have Hb3 : Hid (Blk w3 b3 55 [.bool lf, .slice P p pc, .slice Q q qc]) := Lib.hid (by rw [hw3, hb3]; exact Blk.new w2 _ [.bool lf, .slice P p pc, .slice Q q qc])
        have HXb3 : Hid (Only (w2.heap.size ≤ ·) w2 w3) := Lib.hid (by rw [hw3]; exact (Only.refl _ w2).alloc (fun _ h => h) _)
        have HEQb3 : Hid (w3 = w2.alloc (.cells #[.bool lf, .slice P p pc, .slice Q q qc] 55) ∧ b3 = w2.heap.size) := Lib.hid ⟨hw3, hb3⟩
        clear hw3 hb3
        have HNK3 := Lib.hid (HNK.out.later HXb3.out)
        have HR3 := Lib.hid (own_later (own_later HROW.out HO2.out) HXb3.out)
        replace HO := Lib.hid (on_new HO.out HXb3.out)
        rw [← HEQb3.out.1, ← HEQb3.out.2]
        obtain ⟨q0, q1, q2⟩ := Hb3.out.tri
        by_cases hbare : x.leaf = false ∧ x.kds = []
        · rw [downX_bare hno hbare.1 hbare.2] at HD
          obtain rfl : lf = false := hlf.trans hbare.1
          obtain rfl : q = 0 := by rw [HQL.out, hbare.2]; rfl
          clear hlf hbare
          go_wp2_with (fail)
          go_ret2
          exact ⟨⟨none, 0, 0, 131, [], w.heap.size, [], rfl, HD.out.symm, rfl, Nat.le_refl _, World.ownsRow_nil _ _ _ _, rfl⟩, HO.out⟩
        · have hor : x.leaf = true ∨ x.kds ≠ [] := by
            cases hl : x.leaf with
            | true => exact .inl rfl
            | false => exact .inr fun h => hbare ⟨hl, h⟩
          have HCC := Lib.hid (HCH.out.call w3 HO.out x lf P p pc Q q qc HNK3.out.now HSM.out hor (HOK.out ref x HVI.out hno))
          obtain ⟨kk, hkk⟩ : ∃ kk, kk = ch x := ⟨_, rfl⟩
          rw [← hkk] at HCC
          have HKK := Lib.hid hkk
          have HB0 := Lib.hid HNK3.out
          cases lf with
          | true =>
            have hlx : x.leaf = true := hlf.symm
            rw [downX_leaf hno hlx, ← hkk] at HD
            clear hkk hlf hor hbare
            have HO0 := HOO
            go_wp2_with (first
              | (go_at_fn F; refine HCC.out.mono ?_; rintro e w4 ⟨rfl, ho⟩; have HB4 := Lib.hid (Hb3.out.later ho); have HNK4 := Lib.hid (HNK3.out.later ho); have HR4 := Lib.hid (own_later HR3.out ho); have HO4 := Lib.hid (on_new HO.out ho); have HX4 : Hid (Only (wr.heap.size ≤ ·) wr w4) := Lib.hid (on_new (on_new HO2.out HXb3.out) ho); have HBL4 : Hid (Blk (w4.alloc (.cells #[.int .i64 ref, .bool true, .slice P p pc, .slice Q q qc, .int .i64 (kk : Int)] 106)) w4.heap.size 106 [.int .i64 ref, .bool true, .slice P p pc, .slice Q q qc, .int .i64 (kk : Int)]) := Lib.hid (Blk.new w4 _ _); clear q0 q1 q2; (obtain ⟨q0, q1, q2⟩ := HB4.out.tri); clear ho)
              | (at_builtin; (refine wpList_append_at rfl (.tmp 40) (.tmp 45) 73 rfl w.heap.size 106 i1 zS 5 72 Try.underlying73 HI1.out.1 HI1.out.2.1 HI1.out.2.2.1 HI1.out.2.2.2 (by rfl) (by omega) (.slice A k c) k C rfl (World.ownsRow.alloc HR4.out _) ⟨w4.heap.size, 0, none⟩ 1 1 [.int .i64 ref, .bool true, .slice P p pc, .slice Q q qc, .int .i64 (kk : Int)] rfl rfl (fun j u hu => by rw [Addr.add_lit, HBL4.out.cell, Nat.zero_add]; exact hu) (by simp [Value.oneCell']) (by simp only [maxLen]; omega) (by omega) (by have := HO4.out.size; simp; omega) ?_; intro v' w' ho' hg' hat'; (obtain ⟨R2, t2, rfl, _⟩ := raw_of_own ho'); have HGD := Lib.hid (grow_den (Y := spEk) (x := (ref, x, (kk : Int))) (ob0 := none) HROW.out HDEN.out HO0.out.size HX4.out ⟨true, _, _, rfl, HNK4.out⟩ hg' hat'); have HROW2 := Lib.hid ho'; have HOF : Hid (Only (w.heap.size ≤ ·) w w') := Lib.hid (HO0.out.trans (HGD.out.2.1.mono fun j hj => hj.elim (fun h => (World.ownsRow.lt HROW.out j h).1) fun h => Nat.le_trans HO0.out.size h)); have HNF : Hid (Nod w' x true (.slice P p pc) (.slice Q q qc)) := Lib.hid (HNK4.out.at_ w' (HGD.out.2.2.mono fun j hj => hj.elim (fun h => .inl (World.ownsRow.lt HROW.out j h).2) fun h => .inr (.inr h))); have HB3F : Hid (Blk w' b3 55 [.bool true, .slice P p pc, .slice Q q qc]) := Lib.hid ((HB4.out.alloc (.cells #[.int .i64 ref, .bool true, .slice P p pc, .slice Q q qc, .int .i64 (kk : Int)] 106)).grown hg' (own_ne HR4.out HB4.out (by decide))); (obtain ⟨q0, q1, q2⟩ := HB3F.out.tri);  clear ho' hg' hat')))
            have HSP : Hid (Sps w' (.slice R2 (k + 1) t2) (acc ++ [(ref, x, (kk : Int))])) := Lib.hid (Own.rw_ (E := spE) (t := 106) (B := w.heap.size) ⟨by rw [List.length_append, ← HKL.out]; rfl, _, HGD.out.1.mono fun y ds hy => spEk.el hy, HROW2.out⟩)
            go_ret2
            exact ⟨⟨_, _, _, 0, _, w.heap.size, _, rfl, HD.out.symm, by rw [List.length_append, ← HKL.out]; rfl, Nat.le_refl _, HROW2.out, HGD.out.1⟩, HOF.out⟩
          | false =>
            have hlx : x.leaf = false := hlf.symm
            have hkx : x.kds ≠ [] := hor.resolve_left (fun h => by rw [hlx] at h; cases h)
            rw [downX_kid acc hno hlx hkx, ← hkk] at HD
            have hkl : kk < q := by rw [hkk, HQL.out]; exact HCH.out.small x hlx hkx
            have HQ0 : Hid (q ≤ 1000) := Lib.hid (by rw [HQL.out]; exact HSM.out.2.1)
            clear hkk hlf hor hbare
            have HXN := Lib.hid (And.intro hno hlx)
            have HO0 := HOO
            have hkl' : (kk : Int) < (q : Int) := by omega
            go_wp2_with (first
              | (go_at_fn F; refine HCC.out.mono ?_; rintro e w4 ⟨rfl, ho⟩; have HB4 := Lib.hid (Hb3.out.later ho); have HNK4 := Lib.hid (HNK3.out.later ho); have HR4 := Lib.hid (own_later HR3.out ho); have HO4 := Lib.hid (on_new HO.out ho); have HX4 : Hid (Only (wr.heap.size ≤ ·) wr w4) := Lib.hid (on_new (on_new HO2.out HXb3.out) ho); have HBL4 : Hid (Blk (w4.alloc (.cells #[.int .i64 ref, .bool false, .slice P p pc, .slice Q q qc, .int .i64 (kk : Int)] 106)) w4.heap.size 106 [.int .i64 ref, .bool false, .slice P p pc, .slice Q q qc, .int .i64 (kk : Int)]) := Lib.hid (Blk.new w4 _ _); clear q0 q1 q2; (obtain ⟨q0, q1, q2⟩ := HB4.out.tri); clear ho)
              | (at_builtin; (refine wpList_append_at rfl (.tmp 40) (.tmp 45) 73 rfl w.heap.size 106 i1 zS 5 72 Try.underlying73 HI1.out.1 HI1.out.2.1 HI1.out.2.2.1 HI1.out.2.2.2 (by rfl) (by omega) (.slice A k c) k C rfl (World.ownsRow.alloc HR4.out _) ⟨w4.heap.size, 0, none⟩ 1 1 [.int .i64 ref, .bool false, .slice P p pc, .slice Q q qc, .int .i64 (kk : Int)] rfl rfl (fun j u hu => by rw [Addr.add_lit, HBL4.out.cell, Nat.zero_add]; exact hu) (by simp [Value.oneCell']) (by simp only [maxLen]; omega) (by omega) (by have := HO4.out.size; simp; omega) ?_; intro v' w' ho' hg' hat'; (obtain ⟨R2, t2, rfl, _⟩ := raw_of_own ho'); have HGD := Lib.hid (grow_den (Y := spEk) (x := (ref, x, (kk : Int))) (ob0 := none) HROW.out HDEN.out HO0.out.size HX4.out ⟨false, _, _, rfl, HNK4.out⟩ hg' hat'); have HROW2 := Lib.hid ho'; have HOF : Hid (Only (w.heap.size ≤ ·) w w') := Lib.hid (HO0.out.trans (HGD.out.2.1.mono fun j hj => hj.elim (fun h => (World.ownsRow.lt HROW.out j h).1) fun h => Nat.le_trans HO0.out.size h)); have HNF : Hid (Nod w' x false (.slice P p pc) (.slice Q q qc)) := Lib.hid (HNK4.out.at_ w' (HGD.out.2.2.mono fun j hj => hj.elim (fun h => .inl (World.ownsRow.lt HROW.out j h).2) fun h => .inr (.inr h))); have HB3F : Hid (Blk w' b3 55 [.bool false, .slice P p pc, .slice Q q qc]) := Lib.hid ((HB4.out.alloc (.cells #[.int .i64 ref, .bool false, .slice P p pc, .slice Q q qc, .int .i64 (kk : Int)] 106)).grown hg' (own_ne HR4.out HB4.out (by decide))); (obtain ⟨q0, q1, q2⟩ := HB3F.out.tri); obtain ⟨kb, ko, ky, KP, kp, hQ, hkb, hky, z0, z1, zs⟩ := kds_at HNF.out.2.2 hkl; have HKY := Lib.hid hky; obtain ⟨kyk, kyr⟩ := ky; simp only at z0 z1; have HKR : Hid (kidRef x kk = kyr) := Lib.hid (by unfold kidRef; rw [hky]; rfl); subst hQ; clear hky zs; clear ho' hg' hat')))
            have HKL2 : Hid (k + 1 = (acc ++ [(ref, x, (kk : Int))]).length) := Lib.hid (by rw [List.length_append, ← HKL.out]; rfl)
            have HDEN2 := Lib.hid HGD.out.1
            have HDD : Hid (downX l E ch 12 root = joinP (acc ++ [(ref, x, (kk : Int))]) (downX l E ch (12 - (k + 1)) kyr)) := Lib.hid (by rw [HD.out, HKR.out, show 12 - (k + 1) = kf by have := HKF.out; omega])
            have HVI2 : Hid (Vis l root kyr) := Lib.hid (Vis.kid (y := (kyk, kyr)) HVI.out HXN.out.1 HXN.out.2 (List.mem_of_getElem? HKY.out))
            go_roundg (12 - (k + 1))
            case measure => omega
            case rel => exact ⟨k + 1, _, _, _, _, _, rfl, by omega, rfl, rfl, HKL2, HROW2, HDEN2, HDD, HVI2, HOF⟩
    · obtain rfl : k = 12 := by omega
      have HE : Hid (downX l E ch 12 root = (130, [])) := Lib.hid (by rw [HD.out]; rfl)
      go_wp2_with (fail)
      go_ret2
      exact ⟨⟨none, 0, 0, 130, [], w.heap.size, [], rfl, HE.out.symm, rfl, Nat.le_refl _, World.ownsRow_nil _ _ _ _, rfl⟩, HO.out⟩
set_option maxRecDepth 100000 in
theorem Path_o (w : World) (Ex : Nat → Prop) (w0 : World) (RF : Nat) (rcaps : Array Value) (E : Int → Int) (root : Int) (l : List Nm) (rd : Rdr Ex w0 RF rcaps l E) (hw0 : Lat Ex w0 w) (K : Option Addr) (kn kc : Nat) (key : Bytes) (hv : Src w (.slice K kn kc) key) (hok : ∀ ref x, Vis l root ref → nodeP l ref = some x → okP x) :
    Calls Try.prog 33 #[.func (.func RF) #[] rcaps, .int .i64 root, .slice K kn kc] w (DownOwn w (downX l E (chP key) 12 root)) := by
  have hmf : ∀ (fn : Fn) (first cap : Array Value) (w : World), (Instr.makeFunc fn first cap).run Try.prog w = .ok (.func fn first cap) w := fun _ _ _ _ => rfl
  obtain ⟨w1, hw1⟩ : ∃ w1, w1 = w.alloc (.cells #[.slice K kn kc] 34) := ⟨_, rfl⟩
  obtain ⟨b1, hb1⟩ : ∃ b1, b1 = w.heap.size := ⟨_, rfl⟩
  have hk : Blk w1 b1 34 [.slice K kn kc] := by rw [hw1, hb1]; exact Blk.new w _ [.slice K kn kc]
  have ho : Only (w.heap.size ≤ ·) w w1 := by rw [hw1]; exact (Only.refl _ w).alloc (fun _ h => h) _
  have HO := Lib.hid ho
  have HD := Lib.hid (down_o w1 Ex w0 RF rcaps E root l rd (lat_new hw0 ho) 44 #[.pointer (some ⟨b1, 0, none⟩)] (chP key) (ok := okP)
    ⟨fun _ _ => rfl, fun W hW x f A n c B m d hN hs _ hok => path1_c W f A B n c m d b1 x K kn kc key hN hs (hk.later hW) ((hv.later ho).later hW) hok, fun x h1 h2 => by
      unfold chP
      rw [if_neg (fun h => by rw [h1] at h; cases h)]
      exact sideN_le _ _ _ (List.length_pos_iff.2 h2)⟩ hok)
  have HEQ : Hid (w1 = w.alloc (.cells #[.slice K kn kc] 34) ∧ b1 = w.heap.size) := Lib.hid ⟨hw1, hb1⟩
  clear hw1 hb1 hk ho hv hok
  go_enter Try.func33, Try.ntmps33
  go_upto_region 1 with (fail)
  rw [← HEQ.out.1, ← HEQ.out.2]
  go_wp2_with (go_at_call 40; (with_reducible refine HD.out.mono ?_); rintro e w2 ⟨⟨A, n, c, er, path, B, C, rfl, he, hl, hB, hown, hden⟩, ho⟩; have HE := Lib.hid he; have HP := Lib.hid (And.intro hl (And.intro (Nat.le_trans HO.out.size hB) (And.intro hown hden))); have HO2 := Lib.hid (on_new HO.out ho); clear he hl hB hown hden ho)
  go_ret2
  exact ⟨⟨A, n, c, er, path, B, C, rfl, HE.out, HP.out.1, HP.out.2.1, HP.out.2.2.1, HP.out.2.2.2⟩, HO2.out⟩
set_option maxRecDepth 100000 in
theorem Edge_o (w : World) (Ex : Nat → Prop) (w0 : World) (RF : Nat) (rcaps : Array Value) (E : Int → Int) (root : Int) (l : List Nm) (rd : Rdr Ex w0 RF rcaps l E) (hw0 : Lat Ex w0 w) (last : Bool) :
    Calls Try.prog 30 #[.func (.func RF) #[] rcaps, .int .i64 root, .bool last] w (DownOwn w (downX l E (chE last) 12 root)) := by
  have hmf : ∀ (fn : Fn) (first cap : Array Value) (w : World), (Instr.makeFunc fn first cap).run Try.prog w = .ok (.func fn first cap) w := fun _ _ _ _ => rfl
  obtain ⟨w1, hw1⟩ : ∃ w1, w1 = w.alloc (.cells #[.bool last] 4) := ⟨_, rfl⟩
  obtain ⟨b1, hb1⟩ : ∃ b1, b1 = w.heap.size := ⟨_, rfl⟩
  have hk : Blk w1 b1 4 [.bool last] := by rw [hw1, hb1]; exact Blk.new w _ [.bool last]
  have ho : Only (w.heap.size ≤ ·) w w1 := by rw [hw1]; exact (Only.refl _ w).alloc (fun _ h => h) _
  have HO := Lib.hid ho
  have HD := Lib.hid (down_o w1 Ex w0 RF rcaps E root l rd (lat_new hw0 ho) 41 #[.pointer (some ⟨b1, 0, none⟩)] (chE last) (ok := fun _ => True)
    ⟨fun _ _ => rfl, fun W hW x f A n c B m d hN hs hor _ => edge1_c W f A B n c m d b1 x last hN hs (hk.later hW) hor, fun x h1 h2 => by
      have := List.length_pos_iff.2 h2
      unfold chE
      split
      · exact this
      · rw [if_neg (fun h => by rw [h1] at h; cases h)]
        omega⟩ (fun _ _ _ _ => trivial))
  have HEQ : Hid (w1 = w.alloc (.cells #[.bool last] 4) ∧ b1 = w.heap.size) := Lib.hid ⟨hw1, hb1⟩
  clear hw1 hb1 hk ho
  go_enter Try.func30, Try.ntmps30
  go_upto_region 1 with (fail)
  rw [← HEQ.out.1, ← HEQ.out.2]
  go_wp2_with (go_at_call 40; (with_reducible refine HD.out.mono ?_); rintro e w2 ⟨⟨A, n, c, er, path, B, C, rfl, he, hl, hB, hown, hden⟩, ho⟩; have HE := Lib.hid he; have HP := Lib.hid (And.intro hl (And.intro (Nat.le_trans HO.out.size hB) (And.intro hown hden))); have HO2 := Lib.hid (on_new HO.out ho); clear he hl hB hown hden ho)
  go_ret2
  exact ⟨⟨A, n, c, er, path, B, C, rfl, HE.out, HP.out.1, HP.out.2.1, HP.out.2.2.1, HP.out.2.2.2⟩, HO2.out⟩
end Go.Proofs.Ytnjhpjpeeehagaa

/-
  found: the item to which a way leads.
-/
set_option linter.unusedVariables false
namespace Go.Proofs.Ytnjhpjpeeehagaa
open Go.RowKit

theorem blk5 {w : World} {q : Nat} {t : TypeId} {a b c d e : Value} (h : Blk w q t [a, b, c, d, e]) : w.cell? ⟨q, 0, none⟩ = some a ∧ w.cell? ⟨q, 1, none⟩ = some b ∧ w.cell? ⟨q, 2, none⟩ = some c ∧ w.cell? ⟨q, 3, none⟩ = some d ∧ w.cell? ⟨q, 4, none⟩ = some e := ⟨h.cell 0, h.cell 1, h.cell 2, h.cell 3, h.cell 4⟩
theorem it_set {W : World} {q : Nat} {a b c d a' b' c' d' : Value} (h : Blk W q 39 [a, b, c, d]) : Blk ((((W.setCell ⟨q, 0, none⟩ a').setCell ⟨q, 1, none⟩ b').setCell ⟨q, 2, none⟩ c').setCell ⟨q, 3, none⟩ d') q 39 [a', b', c', d'] ∧ Only (fun k => k = q) W ((((W.setCell ⟨q, 0, none⟩ a').setCell ⟨q, 1, none⟩ b').setCell ⟨q, 2, none⟩ c').setCell ⟨q, 3, none⟩ d') :=
  ⟨(((h.set_ 0 a').set_ 1 b').set_ 2 c').set_ 3 d', ((((Only.refl (fun k => k = q) W).setCell (p := ⟨q, 0, none⟩) rfl _).setCell (p := ⟨q, 1, none⟩) rfl _).setCell (p := ⟨q, 2, none⟩) rfl _).setCell (p := ⟨q, 3, none⟩) rfl _⟩
set_option maxRecDepth 100000 in
set_option maxHeartbeats 6400000 in
theorem found_no (w : World) (A : Option Addr) (n c : Nat) (p : List Sp) (h : Sps w (.slice A n c) p) (hn : n = p.length) (hn2 : n ≤ 1000) (sr : Int) (x : Nd) (KX : Int) (hl : p.getLast? = some (sr, x, KX)) (hK : KX < 0 ∨ (x.its.length : Int) ≤ KX) : Calls Try.prog 42 #[.slice A n c] w (Told w (.tuple #[.agg #[.slice none 0 0, .slice none 0 0, .int .i64 0, .int .i64 0], .bool false])) := by
  obtain ⟨m, hnm⟩ : ∃ m, n = m + 1 := ⟨n - 1, by have h1 := List.length_pos_iff.2 (fun e : p = [] => by rw [e] at hl; cases hl); omega⟩
  have c1 : wrap64 ((n : Int) - 1) = (m : Nat) := by rw [IntWalk.wrap64_in _ (by omega)]; omega
  have c2 : m < n := by omega
  have hpm : p[m]? = some (sr, x, KX) := by rw [List.getLast?_eq_getElem?, ← hn, hnm] at hl; exact hl
  clear hnm
  obtain ⟨w1, hw1⟩ : ∃ W0, W0 = w.alloc (.cells #[.slice none 0 0, .slice none 0 0, .int .i64 0, .int .i64 0] 39) := ⟨_, rfl⟩
  have HOw1 : Hid (Only (w.heap.size ≤ ·) w w1) := Lib.hid (by rw [hw1]; exact (Only.refl _ w).alloc (fun _ h => h) _)
  have HB2 : Hid (Blk w1 w.heap.size 39 [.slice none 0 0, .slice none 0 0, .int .i64 0, .int .i64 0]) := Lib.hid (by rw [hw1]; exact Blk.new w _ _)
  have HEw1 := Lib.hid hw1
  clear hw1
  obtain ⟨bq, off, s0, Q, R, s, q, t, r9, rfl, hb0, hx0, k0, k1, k2, k3, k4, hnd⟩ := sps_at (Rw.later h HOw1.out) c2
  rw [hpm] at hx0
  obtain rfl := Option.some.inj hx0
  obtain ⟨lf, hlf⟩ : ∃ z, z = x.leaf := ⟨_, rfl⟩
  simp only at k0 k1 k4 hnd
  rw [← hlf] at k1
  have hsl : s = x.its.length := hnd.2.1.len
  obtain ⟨w2, hw2⟩ : ∃ W0, W0 = w1.alloc (.cells #[.int .i64 sr, .bool lf, .slice Q s q, .slice R t r9, .int .i64 KX] 106) := ⟨_, rfl⟩
  have HOw2 : Hid (Only (w1.heap.size ≤ ·) w1 w2) := Lib.hid (by rw [hw2]; exact (Only.refl _ w1).alloc (fun _ h => h) _)
  have HB4 : Hid (Blk w2 w1.heap.size 106 [.int .i64 sr, .bool lf, .slice Q s q, .slice R t r9, .int .i64 KX]) := Lib.hid (by rw [hw2]; exact Blk.new w1 _ _)
  have HEw2 := Lib.hid hw2
  clear hw2
  have hk9 : KX < 0 ∨ (s : Int) ≤ KX := by rw [hsl]; exact hK
  have HX2 := Lib.hid (on_new HOw1.out HOw2.out)
  obtain ⟨i0, i1, i2, i3, i4⟩ := blk5 HB4.out
  have HB2' := Lib.hid (HB2.out.only HOw2.out (Nat.not_le.2 HB2.out.lt))
  obtain ⟨r0, r1, r2, r3⟩ := HB2'.out.four
  have f0 := HB2'.out.frozen 0
  have f1 := HB2'.out.frozen 1
  have f2 := HB2'.out.frozen 2
  have f3 := HB2'.out.frozen 3
  clear h hl hn hn2 hK hpm hb0 hnd hlf hsl
  go_enter Try.func42, Try.ntmps42
  go_upto_region 1 with (fail)
  rw [← HEw1.out]
  go_upto_region 2 with (fail)
  rw [← HEw2.out]
  clear k0 k1 k2 k3 k4 c1 c2 HEw1 HEw2
  rcases hk9 with hk9 | hk9
  · go_wp2
    have hk := it_set (a' := .slice none 0 0) (b' := .slice none 0 0) (c' := .int .i64 0) (d' := .int .i64 0) HB2'.out
    refine bodyPost_ret (results_cell2 rfl rfl rfl (load_item hk.1)) rfl ?_
    exact ⟨rfl, HX2.out.trans (hk.2.mono fun k e => Nat.le_of_eq (show k = w.heap.size from e).symm)⟩
  · by_cases hk8 : KX < 0
    · clear hk9
      go_wp2
      have hk := it_set (a' := .slice none 0 0) (b' := .slice none 0 0) (c' := .int .i64 0) (d' := .int .i64 0) HB2'.out
      refine bodyPost_ret (results_cell2 rfl rfl rfl (load_item hk.1)) rfl ?_
      exact ⟨rfl, HX2.out.trans (hk.2.mono fun k e => Nat.le_of_eq (show k = w.heap.size from e).symm)⟩
    · go_wp2
      have hk := it_set (a' := .slice none 0 0) (b' := .slice none 0 0) (c' := .int .i64 0) (d' := .int .i64 0) HB2'.out
      refine bodyPost_ret (results_cell2 rfl rfl rfl (load_item hk.1)) rfl ?_
      exact ⟨rfl, HX2.out.trans (hk.2.mono fun k e => Nat.le_of_eq (show k = w.heap.size from e).symm)⟩
set_option maxRecDepth 100000 in
set_option maxHeartbeats 12800000 in
theorem found_yes (w : World) (A : Option Addr) (n c : Nat) (p : List Sp) (h : Sps w (.slice A n c) p) (hn : n = p.length) (hn2 : n ≤ 1000) (sr : Int) (x : Nd) (K : Nat) (hl : p.getLast? = some (sr, x, (K : Int))) (y : It) (hy : x.its[K]? = some y) (hs : Sml x) : Calls Try.prog 42 #[.slice A n c] w fun e w' => ∃ v u, e = .returned (.tuple #[.agg #[v, u, .int .i64 y.2.2.1, .int .i64 y.2.2.2], .bool true]) ∧ New w' w.heap.size v y.1 ∧ New w' w.heap.size u y.2.1 ∧ Only (w.heap.size ≤ ·) w w' := by
  obtain ⟨m, hnm⟩ : ∃ m, n = m + 1 := ⟨n - 1, by have h1 := List.length_pos_iff.2 (fun e : p = [] => by rw [e] at hl; cases hl); omega⟩
  have c1 : wrap64 ((n : Int) - 1) = (m : Nat) := by rw [IntWalk.wrap64_in _ (by omega)]; omega
  have c2 : m < n := by omega
  have hpm : p[m]? = some (sr, x, (K : Int)) := by rw [List.getLast?_eq_getElem?, ← hn, hnm] at hl; exact hl
  clear hnm
  obtain ⟨w1, hw1⟩ : ∃ W0, W0 = w.alloc (.cells #[.slice none 0 0, .slice none 0 0, .int .i64 0, .int .i64 0] 39) := ⟨_, rfl⟩
  have HOw1 : Hid (Only (w.heap.size ≤ ·) w w1) := Lib.hid (by rw [hw1]; exact (Only.refl _ w).alloc (fun _ h => h) _)
  have HB2 : Hid (Blk w1 w.heap.size 39 [.slice none 0 0, .slice none 0 0, .int .i64 0, .int .i64 0]) := Lib.hid (by rw [hw1]; exact Blk.new w _ _)
  have HEw1 := Lib.hid hw1
  clear hw1
  obtain ⟨bq, off, s0, Q, R, s, q, t, r9, rfl, hb0, hx0, k0, k1, k2, k3, k4, hnd⟩ := sps_at (Rw.later h HOw1.out) c2
  rw [hpm] at hx0
  obtain rfl := Option.some.inj hx0
  obtain ⟨lf, hlf⟩ : ∃ z, z = x.leaf := ⟨_, rfl⟩
  simp only at k0 k1 k4 hnd
  rw [← hlf] at k1
  have hsl : s = x.its.length := hnd.2.1.len
  obtain ⟨w2, hw2⟩ : ∃ W0, W0 = w1.alloc (.cells #[.int .i64 sr, .bool lf, .slice Q s q, .slice R t r9, .int .i64 (K : Int)] 106) := ⟨_, rfl⟩
  have HOw2 : Hid (Only (w1.heap.size ≤ ·) w1 w2) := Lib.hid (by rw [hw2]; exact (Only.refl _ w1).alloc (fun _ h => h) _)
  have HB4 : Hid (Blk w2 w1.heap.size 106 [.int .i64 sr, .bool lf, .slice Q s q, .slice R t r9, .int .i64 (K : Int)]) := Lib.hid (by rw [hw2]; exact Blk.new w1 _ _)
  have HEw2 := Lib.hid hw2
  clear hw2
  have HX2 := Lib.hid (on_new HOw1.out HOw2.out)
  have hKs : K < s := by rw [hsl]; exact (List.getElem?_eq_some_iff.1 hy).1
  have hsm := hs.2.2.1 y (List.mem_of_getElem? hy)
  obtain ⟨ib, io, y0, P, U, pc, uc, rfl, _, hy0, e0, e1, e2, e3, hks, hus⟩ := its_at (hnd.later HOw2.out).2.1 hKs
  rw [hy] at hy0
  obtain rfl := Option.some.inj hy0
  obtain ⟨ky, hky⟩ : ∃ z, z = y.1 := ⟨_, rfl⟩
  obtain ⟨vy, hvy⟩ : ∃ z, z = y.2.1 := ⟨_, rfl⟩
  obtain ⟨i2, hi2⟩ : ∃ z, z = y.2.2.1 := ⟨_, rfl⟩
  obtain ⟨i3, hi3⟩ : ∃ z, z = y.2.2.2 := ⟨_, rfl⟩
  rw [← hky] at e0 hks
  rw [← hvy] at e1 hus
  rw [← hi2] at e2
  rw [← hi3] at e3
  rw [← hky, ← hvy] at hsm
  rw [← hky, ← hvy, ← hi2, ← hi3]
  obtain ⟨w3, hw3⟩ : ∃ W0, W0 = w2.alloc (.cells #[.slice P ky.length pc, .slice U vy.length uc, .int .i64 i2, .int .i64 i3] 39) := ⟨_, rfl⟩
  have HOw3 : Hid (Only (w2.heap.size ≤ ·) w2 w3) := Lib.hid (by rw [hw3]; exact (Only.refl _ w2).alloc (fun _ h => h) _)
  have HB5 : Hid (Blk w3 w2.heap.size 39 [.slice P ky.length pc, .slice U vy.length uc, .int .i64 i2, .int .i64 i3]) := Lib.hid (by rw [hw3]; exact Blk.new w2 _ _)
  have HEw3 := Lib.hid hw3
  clear hw3
  have HKS := Lib.hid (hks.later HOw3.out)
  have HUS := Lib.hid (hus.later HOw3.out)
  have HLEN := Lib.hid hsm
  have c4 : ¬ (K : Int) < 0 := by omega
  have c5 : (K : Int) < (s : Int) := by omega
  have c6 : ¬ (s : Int) ≤ (K : Int) := by omega
  obtain ⟨i0, i1, i2_, i3_, i4⟩ := blk5 HB4.out
  clear h hl hn hn2 hpm hb0 hnd hlf hsl hy hs hsm hks hus hky hvy hi2 hi3 hy0
  go_enter Try.func42, Try.ntmps42
  go_upto_region 1 with (fail)
  rw [← HEw1.out]
  go_upto_region 2 with (fail)
  rw [← HEw2.out]
  clear k0 k1 k2 k3 k4 c1 c2 HEw1 HEw2
  go_upto_region 5 with (fail)
  rw [← HEw3.out]
  clear HEw3 i0 i1 i2_ i3_ i4 e0 e1 e2 e3
  generalize hb5 : w2.heap.size = b5 at HB5 ⊢
  have HB5L : Hid (∀ k, w3.heap.size ≤ k → k ≠ b5) := Lib.hid (fun k hk e => by have h1 := HB5.out.lt; omega)
  have HW2 : Hid (w2.heap.size = b5) := Lib.hid hb5
  clear hb5
  go_cut [] from 32 to 40 (fun wz => ∃ (G2 : Option Addr) (g2 : Nat) (G5 : Option Addr) (g5 : Nat), Hid (New wz w3.heap.size (.slice G2 ky.length g2) ky) ∧ Hid (New wz w3.heap.size (.slice G5 vy.length g5) vy) ∧ Hid (Blk wz b5 39 [.slice G2 ky.length g2, .slice G5 vy.length g5, .int .i64 i2, .int .i64 i3]) ∧ Hid (Only (fun k => k = b5 ∨ w3.heap.size ≤ k) w3 wz))
  case first =>
    have HXwy : Hid (Only (w3.heap.size ≤ ·) w3 w3.drew) := Lib.hid (Only.refl _ w3).drew
    replace HB5 : Hid (Blk w3.drew b5 39 [.slice P ky.length pc, .slice U vy.length uc, .int .i64 i2, .int .i64 i3]) := Lib.hid (Blk.drew HB5.out)
    refine wp_region_list (B := [false, false, false, false, false, false, false, false, false, false]) (S := (fun _ : World => True)) (by kernel_rfl) (by kernel_rfl) (by kernel_rfl) trivial (fun hsel hHeld => ?_)
    generalize hwz : World.drew _ = wy at HXwy HB5 hHeld ⊢
    clear hwz
    refine oneA 0 32 hsel (h := ?_)
    simp only [Act.put, List.setIfInBounds_toArray, List.set_cons_zero, List.set_cons_succ]
    refine oneA 3 35 hsel (h := ?_)
    simp only [Act.put, List.setIfInBounds_toArray, List.set_cons_zero, List.set_cons_succ]
    refine wpAnyL_ready (rs := [1, 4]) (by kernel_rfl) (by kernel_rfl) (by simp) ?_
    refine AllReadyL.cons (o := ?_) ?_ (fun K hK => ?_) (AllReadyL.cons (o := ?_) ?_ (fun K hK => ?_) AllReadyL.nil)
    case refine_2 => (simp only [List.getElem?_cons_succ, List.getElem?_cons_zero]; rfl)
    case refine_5 => (simp only [List.getElem?_cons_succ, List.getElem?_cons_zero]; rfl)
    case refine_3 =>
      obtain ⟨r0, r1, r2, r3⟩ := HB5.out.four
      go_simp
      clear r0 r1 r2 r3
      clear hHeld
      refine hK.out _ _ trivial (fun hHeld => ?_)
      clear hK K
      try simp only [List.set_cons_zero, List.set_cons_succ]
      refine wpAnyL_ready (rs := [2, 4]) (by kernel_rfl) (by kernel_rfl) (by simp) ?_
      refine AllReadyL.cons (o := ?_) ?_ (fun K hK => ?_) (AllReadyL.cons (o := ?_) ?_ (fun K hK => ?_) AllReadyL.nil)
      case refine_2 => (simp only [List.getElem?_cons_succ, List.getElem?_cons_zero]; rfl)
      case refine_5 => (simp only [List.getElem?_cons_succ, List.getElem?_cons_zero]; rfl)
      case refine_3 =>
        go_simp
        (go_at_call 34; (with_reducible refine (Clone_c _ _ ky (HKS.out.later HXwy.out) HLEN.out.1).mono ?_); rintro e wyx ⟨v2, rfl, hv, ho⟩; (obtain ⟨G2, g2, rfl, hn2⟩ := New.form hv); have HNK : Hid (New wyx w3.heap.size (.slice G2 ky.length g2) ky) := Lib.hid (hn2.mono HXwy.out.size); have HXwyx := Lib.hid (on_new HXwy.out ho); (replace HB5 := Lib.hid (HB5.out.only ho (Nat.not_le.2 HB5.out.lt))); clear hv ho hn2)
        go_wp2_with (fail)
        clear hHeld
        refine hK.out _ _ trivial (fun hHeld => ?_)
        clear hK K
        try simp only [List.set_cons_zero, List.set_cons_succ]
        refine wpAnyL_ready (rs := [4]) (by kernel_rfl) (by kernel_rfl) (by simp) ?_
        refine AllReadyL.cons (o := ?_) ?_ (fun K hK => ?_) AllReadyL.nil
        case refine_2 => (simp only [List.getElem?_cons_succ, List.getElem?_cons_zero]; rfl)
        obtain ⟨r0, r1, r2, r3⟩ := HB5.out.four
        go_simp
        clear r0 r1 r2 r3
        clear hHeld
        refine hK.out _ _ trivial (fun hHeld => ?_)
        clear hK K
        try simp only [List.set_cons_zero, List.set_cons_succ]
        refine oneA 6 38 hsel (h := ?_)
        simp only [Act.put, List.setIfInBounds_toArray, List.set_cons_zero, List.set_cons_succ]
        refine wpAnyL_ready (rs := [5]) (by kernel_rfl) (by kernel_rfl) (by simp) ?_
        refine AllReadyL.cons (o := ?_) ?_ (fun K hK => ?_) AllReadyL.nil
        case refine_2 => (simp only [List.getElem?_cons_succ, List.getElem?_cons_zero]; rfl)
        go_simp
        (go_at_call 34; (with_reducible refine (Clone_c _ _ vy (HUS.out.later HXwyx.out) HLEN.out.2).mono ?_); rintro e wyxx ⟨v5, rfl, hv, ho⟩; (obtain ⟨G5, g5, rfl, hn5⟩ := New.form hv); have HNU : Hid (New wyxx w3.heap.size (.slice G5 vy.length g5) vy) := Lib.hid (hn5.mono HXwyx.out.size); have HXwyxx := Lib.hid (on_new HXwyx.out ho); (replace HB5 := Lib.hid (HB5.out.only ho (Nat.not_le.2 HB5.out.lt))); (replace HNK := Lib.hid (HNK.out.later ho)); clear hv ho hn5)
        go_wp2_with (fail)
        clear hHeld
        refine hK.out _ _ trivial (fun hHeld => ?_)
        clear hK K
        try simp only [List.set_cons_zero, List.set_cons_succ]
        refine wpAnyL_ready (rs := [7]) (by kernel_rfl) (by kernel_rfl) (by simp) ?_
        refine AllReadyL.cons (o := ?_) ?_ (fun K hK => ?_) AllReadyL.nil
        case refine_2 => (simp only [List.getElem?_cons_succ, List.getElem?_cons_zero]; rfl)
        obtain ⟨r0, r1, r2, r3⟩ := HB5.out.four
        have f0 := HB5.out.frozen 0
        go_simp
        clear r0 r1 r2 r3 f0
        have HS7 : Hid (Only (fun k => k = b5) wyxx (wyxx.setCell ⟨b5, 0, none⟩ (.slice G2 ky.length g2))) := Lib.hid ((Only.refl (fun k => k = b5) wyxx).setCell (p := ⟨b5, 0, none⟩) rfl _)
        replace HB5 : Hid (Blk (wyxx.setCell ⟨b5, 0, none⟩ (.slice G2 ky.length g2)) b5 39 [.slice G2 ky.length g2, .slice U vy.length uc, .int .i64 i2, .int .i64 i3]) := Lib.hid (HB5.out.set_ 0 (.slice G2 ky.length g2))
        generalize hwz : wyxx.setCell ⟨b5, 0, none⟩ (.slice G2 ky.length g2) = wyxxx at HS7 HB5 ⊢
        clear hwz
        clear hHeld
        refine hK.out _ _ trivial (fun hHeld => ?_)
        clear hK K
        try simp only [List.set_cons_zero, List.set_cons_succ]
        refine oneA 8 39 hsel (h := ?_)
        simp only [Act.put, List.setIfInBounds_toArray, List.set_cons_zero, List.set_cons_succ]
        refine wpAnyL_ready (rs := [9]) (by kernel_rfl) (by kernel_rfl) (by simp) ?_
        refine AllReadyL.cons (o := ?_) ?_ (fun K hK => ?_) AllReadyL.nil
        case refine_2 => (simp only [List.getElem?_cons_succ, List.getElem?_cons_zero]; rfl)
        obtain ⟨r0, r1, r2, r3⟩ := HB5.out.four
        have f1 := HB5.out.frozen 1
        go_simp
        clear r0 r1 r2 r3 f1
        have HS9 : Hid (Only (fun k => k = b5) wyxxx (wyxxx.setCell ⟨b5, 1, none⟩ (.slice G5 vy.length g5))) := Lib.hid ((Only.refl (fun k => k = b5) wyxxx).setCell (p := ⟨b5, 1, none⟩) rfl _)
        replace HB5 : Hid (Blk (wyxxx.setCell ⟨b5, 1, none⟩ (.slice G5 vy.length g5)) b5 39 [.slice G2 ky.length g2, .slice G5 vy.length g5, .int .i64 i2, .int .i64 i3]) := Lib.hid (HB5.out.set_ 1 (.slice G5 vy.length g5))
        generalize hwz : wyxxx.setCell ⟨b5, 1, none⟩ (.slice G5 vy.length g5) = wyxxxx at HS9 HB5 ⊢
        clear hwz
        clear hHeld
        refine hK.out _ _ trivial (fun hHeld => ?_)
        clear hK K
        try simp only [List.set_cons_zero, List.set_cons_succ]
        refine wpAnyL_done (by kernel_rfl) (by kernel_rfl) ?_ _
        clear hsel hHeld
        go_wp2_with (fail)
        refine Met.intro ?_
        go_step
        (repeat apply Exists.intro)
        refine ⟨?relf124579, rfl⟩
        exact ⟨G2, g2, G5, g5, Lib.hid (HNK.out.keep (HS7.out.trans HS9.out) (fun k hk _ e => HB5L.out k hk e)), Lib.hid (HNU.out.keep (HS7.out.trans HS9.out) (fun k hk _ e => HB5L.out k hk e)), HB5, Lib.hid ((HXwyxx.out.mono fun k h => .inr h).trans ((HS7.out.trans HS9.out).mono fun k h => .inl h))⟩
      case refine_6 =>
        obtain ⟨r0, r1, r2, r3⟩ := HB5.out.four
        go_simp
        clear r0 r1 r2 r3
        clear hHeld
        refine hK.out _ _ trivial (fun hHeld => ?_)
        clear hK K
        try simp only [List.set_cons_zero, List.set_cons_succ]
        refine wpAnyL_ready (rs := [2]) (by kernel_rfl) (by kernel_rfl) (by simp) ?_
        refine AllReadyL.cons (o := ?_) ?_ (fun K hK => ?_) AllReadyL.nil
        case refine_2 => (simp only [List.getElem?_cons_succ, List.getElem?_cons_zero]; rfl)
        go_simp
        (go_at_call 34; (with_reducible refine (Clone_c _ _ ky (HKS.out.later HXwy.out) HLEN.out.1).mono ?_); rintro e wyx ⟨v2, rfl, hv, ho⟩; (obtain ⟨G2, g2, rfl, hn2⟩ := New.form hv); have HNK : Hid (New wyx w3.heap.size (.slice G2 ky.length g2) ky) := Lib.hid (hn2.mono HXwy.out.size); have HXwyx := Lib.hid (on_new HXwy.out ho); (replace HB5 := Lib.hid (HB5.out.only ho (Nat.not_le.2 HB5.out.lt))); clear hv ho hn2)
        go_wp2_with (fail)
        clear hHeld
        refine hK.out _ _ trivial (fun hHeld => ?_)
        clear hK K
        try simp only [List.set_cons_zero, List.set_cons_succ]
        refine oneA 6 38 hsel (h := ?_)
        simp only [Act.put, List.setIfInBounds_toArray, List.set_cons_zero, List.set_cons_succ]
        refine wpAnyL_ready (rs := [5]) (by kernel_rfl) (by kernel_rfl) (by simp) ?_
        refine AllReadyL.cons (o := ?_) ?_ (fun K hK => ?_) AllReadyL.nil
        case refine_2 => (simp only [List.getElem?_cons_succ, List.getElem?_cons_zero]; rfl)
        go_simp
        (go_at_call 34; (with_reducible refine (Clone_c _ _ vy (HUS.out.later HXwyx.out) HLEN.out.2).mono ?_); rintro e wyxx ⟨v5, rfl, hv, ho⟩; (obtain ⟨G5, g5, rfl, hn5⟩ := New.form hv); have HNU : Hid (New wyxx w3.heap.size (.slice G5 vy.length g5) vy) := Lib.hid (hn5.mono HXwyx.out.size); have HXwyxx := Lib.hid (on_new HXwyx.out ho); (replace HB5 := Lib.hid (HB5.out.only ho (Nat.not_le.2 HB5.out.lt))); (replace HNK := Lib.hid (HNK.out.later ho)); clear hv ho hn5)
        go_wp2_with (fail)
        clear hHeld
        refine hK.out _ _ trivial (fun hHeld => ?_)
        clear hK K
        try simp only [List.set_cons_zero, List.set_cons_succ]
        refine wpAnyL_ready (rs := [7]) (by kernel_rfl) (by kernel_rfl) (by simp) ?_
        refine AllReadyL.cons (o := ?_) ?_ (fun K hK => ?_) AllReadyL.nil
        case refine_2 => (simp only [List.getElem?_cons_succ, List.getElem?_cons_zero]; rfl)
        obtain ⟨r0, r1, r2, r3⟩ := HB5.out.four
        have f0 := HB5.out.frozen 0
        go_simp
        clear r0 r1 r2 r3 f0
        have HS7 : Hid (Only (fun k => k = b5) wyxx (wyxx.setCell ⟨b5, 0, none⟩ (.slice G2 ky.length g2))) := Lib.hid ((Only.refl (fun k => k = b5) wyxx).setCell (p := ⟨b5, 0, none⟩) rfl _)
        replace HB5 : Hid (Blk (wyxx.setCell ⟨b5, 0, none⟩ (.slice G2 ky.length g2)) b5 39 [.slice G2 ky.length g2, .slice U vy.length uc, .int .i64 i2, .int .i64 i3]) := Lib.hid (HB5.out.set_ 0 (.slice G2 ky.length g2))
        generalize hwz : wyxx.setCell ⟨b5, 0, none⟩ (.slice G2 ky.length g2) = wyxxx at HS7 HB5 ⊢
        clear hwz
        clear hHeld
        refine hK.out _ _ trivial (fun hHeld => ?_)
        clear hK K
        try simp only [List.set_cons_zero, List.set_cons_succ]
        refine oneA 8 39 hsel (h := ?_)
        simp only [Act.put, List.setIfInBounds_toArray, List.set_cons_zero, List.set_cons_succ]
        refine wpAnyL_ready (rs := [9]) (by kernel_rfl) (by kernel_rfl) (by simp) ?_
        refine AllReadyL.cons (o := ?_) ?_ (fun K hK => ?_) AllReadyL.nil
        case refine_2 => (simp only [List.getElem?_cons_succ, List.getElem?_cons_zero]; rfl)
        obtain ⟨r0, r1, r2, r3⟩ := HB5.out.four
        have f1 := HB5.out.frozen 1
        go_simp
        clear r0 r1 r2 r3 f1
        have HS9 : Hid (Only (fun k => k = b5) wyxxx (wyxxx.setCell ⟨b5, 1, none⟩ (.slice G5 vy.length g5))) := Lib.hid ((Only.refl (fun k => k = b5) wyxxx).setCell (p := ⟨b5, 1, none⟩) rfl _)
        replace HB5 : Hid (Blk (wyxxx.setCell ⟨b5, 1, none⟩ (.slice G5 vy.length g5)) b5 39 [.slice G2 ky.length g2, .slice G5 vy.length g5, .int .i64 i2, .int .i64 i3]) := Lib.hid (HB5.out.set_ 1 (.slice G5 vy.length g5))
        generalize hwz : wyxxx.setCell ⟨b5, 1, none⟩ (.slice G5 vy.length g5) = wyxxxx at HS9 HB5 ⊢
        clear hwz
        clear hHeld
        refine hK.out _ _ trivial (fun hHeld => ?_)
        clear hK K
        try simp only [List.set_cons_zero, List.set_cons_succ]
        refine wpAnyL_done (by kernel_rfl) (by kernel_rfl) ?_ _
        clear hsel hHeld
        go_wp2_with (fail)
        refine Met.intro ?_
        go_step
        (repeat apply Exists.intro)
        refine ⟨?relf142579, rfl⟩
        exact ⟨G2, g2, G5, g5, Lib.hid (HNK.out.keep (HS7.out.trans HS9.out) (fun k hk _ e => HB5L.out k hk e)), Lib.hid (HNU.out.keep (HS7.out.trans HS9.out) (fun k hk _ e => HB5L.out k hk e)), HB5, Lib.hid ((HXwyxx.out.mono fun k h => .inr h).trans ((HS7.out.trans HS9.out).mono fun k h => .inl h))⟩
    case refine_6 =>
      obtain ⟨r0, r1, r2, r3⟩ := HB5.out.four
      go_simp
      clear r0 r1 r2 r3
      clear hHeld
      refine hK.out _ _ trivial (fun hHeld => ?_)
      clear hK K
      try simp only [List.set_cons_zero, List.set_cons_succ]
      refine wpAnyL_ready (rs := [1]) (by kernel_rfl) (by kernel_rfl) (by simp) ?_
      refine AllReadyL.cons (o := ?_) ?_ (fun K hK => ?_) AllReadyL.nil
      case refine_2 => (simp only [List.getElem?_cons_succ, List.getElem?_cons_zero]; rfl)
      obtain ⟨r0, r1, r2, r3⟩ := HB5.out.four
      go_simp
      clear r0 r1 r2 r3
      clear hHeld
      refine hK.out _ _ trivial (fun hHeld => ?_)
      clear hK K
      try simp only [List.set_cons_zero, List.set_cons_succ]
      refine wpAnyL_ready (rs := [2]) (by kernel_rfl) (by kernel_rfl) (by simp) ?_
      refine AllReadyL.cons (o := ?_) ?_ (fun K hK => ?_) AllReadyL.nil
      case refine_2 => (simp only [List.getElem?_cons_succ, List.getElem?_cons_zero]; rfl)
      go_simp
      (go_at_call 34; (with_reducible refine (Clone_c _ _ ky (HKS.out.later HXwy.out) HLEN.out.1).mono ?_); rintro e wyx ⟨v2, rfl, hv, ho⟩; (obtain ⟨G2, g2, rfl, hn2⟩ := New.form hv); have HNK : Hid (New wyx w3.heap.size (.slice G2 ky.length g2) ky) := Lib.hid (hn2.mono HXwy.out.size); have HXwyx := Lib.hid (on_new HXwy.out ho); (replace HB5 := Lib.hid (HB5.out.only ho (Nat.not_le.2 HB5.out.lt))); clear hv ho hn2)
      go_wp2_with (fail)
      clear hHeld
      refine hK.out _ _ trivial (fun hHeld => ?_)
      clear hK K
      try simp only [List.set_cons_zero, List.set_cons_succ]
      refine oneA 6 38 hsel (h := ?_)
      simp only [Act.put, List.setIfInBounds_toArray, List.set_cons_zero, List.set_cons_succ]
      refine wpAnyL_ready (rs := [5]) (by kernel_rfl) (by kernel_rfl) (by simp) ?_
      refine AllReadyL.cons (o := ?_) ?_ (fun K hK => ?_) AllReadyL.nil
      case refine_2 => (simp only [List.getElem?_cons_succ, List.getElem?_cons_zero]; rfl)
      go_simp
      (go_at_call 34; (with_reducible refine (Clone_c _ _ vy (HUS.out.later HXwyx.out) HLEN.out.2).mono ?_); rintro e wyxx ⟨v5, rfl, hv, ho⟩; (obtain ⟨G5, g5, rfl, hn5⟩ := New.form hv); have HNU : Hid (New wyxx w3.heap.size (.slice G5 vy.length g5) vy) := Lib.hid (hn5.mono HXwyx.out.size); have HXwyxx := Lib.hid (on_new HXwyx.out ho); (replace HB5 := Lib.hid (HB5.out.only ho (Nat.not_le.2 HB5.out.lt))); (replace HNK := Lib.hid (HNK.out.later ho)); clear hv ho hn5)
      go_wp2_with (fail)
      clear hHeld
      refine hK.out _ _ trivial (fun hHeld => ?_)
      clear hK K
      try simp only [List.set_cons_zero, List.set_cons_succ]
      refine wpAnyL_ready (rs := [7]) (by kernel_rfl) (by kernel_rfl) (by simp) ?_
      refine AllReadyL.cons (o := ?_) ?_ (fun K hK => ?_) AllReadyL.nil
      case refine_2 => (simp only [List.getElem?_cons_succ, List.getElem?_cons_zero]; rfl)
      obtain ⟨r0, r1, r2, r3⟩ := HB5.out.four
      have f0 := HB5.out.frozen 0
      go_simp
      clear r0 r1 r2 r3 f0
      have HS7 : Hid (Only (fun k => k = b5) wyxx (wyxx.setCell ⟨b5, 0, none⟩ (.slice G2 ky.length g2))) := Lib.hid ((Only.refl (fun k => k = b5) wyxx).setCell (p := ⟨b5, 0, none⟩) rfl _)
      replace HB5 : Hid (Blk (wyxx.setCell ⟨b5, 0, none⟩ (.slice G2 ky.length g2)) b5 39 [.slice G2 ky.length g2, .slice U vy.length uc, .int .i64 i2, .int .i64 i3]) := Lib.hid (HB5.out.set_ 0 (.slice G2 ky.length g2))
      generalize hwz : wyxx.setCell ⟨b5, 0, none⟩ (.slice G2 ky.length g2) = wyxxx at HS7 HB5 ⊢
      clear hwz
      clear hHeld
      refine hK.out _ _ trivial (fun hHeld => ?_)
      clear hK K
      try simp only [List.set_cons_zero, List.set_cons_succ]
      refine oneA 8 39 hsel (h := ?_)
      simp only [Act.put, List.setIfInBounds_toArray, List.set_cons_zero, List.set_cons_succ]
      refine wpAnyL_ready (rs := [9]) (by kernel_rfl) (by kernel_rfl) (by simp) ?_
      refine AllReadyL.cons (o := ?_) ?_ (fun K hK => ?_) AllReadyL.nil
      case refine_2 => (simp only [List.getElem?_cons_succ, List.getElem?_cons_zero]; rfl)
      obtain ⟨r0, r1, r2, r3⟩ := HB5.out.four
      have f1 := HB5.out.frozen 1
      go_simp
      clear r0 r1 r2 r3 f1
      have HS9 : Hid (Only (fun k => k = b5) wyxxx (wyxxx.setCell ⟨b5, 1, none⟩ (.slice G5 vy.length g5))) := Lib.hid ((Only.refl (fun k => k = b5) wyxxx).setCell (p := ⟨b5, 1, none⟩) rfl _)
      replace HB5 : Hid (Blk (wyxxx.setCell ⟨b5, 1, none⟩ (.slice G5 vy.length g5)) b5 39 [.slice G2 ky.length g2, .slice G5 vy.length g5, .int .i64 i2, .int .i64 i3]) := Lib.hid (HB5.out.set_ 1 (.slice G5 vy.length g5))
      generalize hwz : wyxxx.setCell ⟨b5, 1, none⟩ (.slice G5 vy.length g5) = wyxxxx at HS9 HB5 ⊢
      clear hwz
      clear hHeld
      refine hK.out _ _ trivial (fun hHeld => ?_)
      clear hK K
      try simp only [List.set_cons_zero, List.set_cons_succ]
      refine wpAnyL_done (by kernel_rfl) (by kernel_rfl) ?_ _
      clear hsel hHeld
      go_wp2_with (fail)
      refine Met.intro ?_
      go_step
      (repeat apply Exists.intro)
      refine ⟨?relf412579, rfl⟩
      exact ⟨G2, g2, G5, g5, Lib.hid (HNK.out.keep (HS7.out.trans HS9.out) (fun k hk _ e => HB5L.out k hk e)), Lib.hid (HNU.out.keep (HS7.out.trans HS9.out) (fun k hk _ e => HB5L.out k hk e)), HB5, Lib.hid ((HXwyxx.out.mono fun k h => .inr h).trans ((HS7.out.trans HS9.out).mono fun k h => .inl h))⟩
  case rest =>
    obtain ⟨G2, g2, G5, g5, HNK, HNU, HBZ, HOZ⟩ := hcut
    obtain ⟨r0, r1, r2, r3⟩ := HBZ.out.four
    have HLT := Lib.hid (And.intro HB2.out.lt (And.intro HOw2.out.size HOw3.out.size))
    have HBW : Hid (Blk wc w.heap.size 39 [.slice none 0 0, .slice none 0 0, .int .i64 0, .int .i64 0]) := Lib.hid (((HB2.out.only HOw2.out (Nat.not_le.2 HB2.out.lt)).only HOw3.out (by have h1 := HLT.out; omega)).only HOZ.out (by have h1 := HLT.out; have h2 := HW2.out; omega))
    obtain ⟨q0, q1, q2, q3⟩ := HBW.out.four
    have f0 := HBW.out.frozen 0
    have f1 := HBW.out.frozen 1
    have f2 := HBW.out.frozen 2
    have f3 := HBW.out.frozen 3
    go_wp2
    have hk := it_set (a' := .slice G2 ky.length g2) (b' := .slice G5 vy.length g5) (c' := .int .i64 i2) (d' := .int .i64 i3) HBW.out
    refine bodyPost_ret (results_cell2 rfl rfl rfl (load_item hk.1)) rfl ?_
    have hz : w.heap.size ≤ w3.heap.size := by have h1 := HLT.out; omega
    exact ⟨_, _, rfl, (HNK.out.keep hk.2 (fun k h1 _ e => by have h2 := HLT.out; have h3 : k = w.heap.size := e; omega)).mono hz, (HNU.out.keep hk.2 (fun k h1 _ e => by have h2 := HLT.out; have h3 : k = w.heap.size := e; omega)).mono hz, (((on_new HX2.out HOw3.out).trans (HOZ.out.mono fun k h1 => by have h2 := HLT.out; have h3 := HW2.out; omega)).trans (hk.2.mono fun k e => Nat.le_of_eq (show k = w.heap.size from e).symm))⟩
end Go.Proofs.Ytnjhpjpeeehagaa

/-
  A way in a row of one's own: read, written in place, cut.
-/
set_option linter.unusedVariables false
namespace Go.Proofs.Ytnjhpjpeeehagaa
open Go.RowKit

theorem own_setz {w : World} {B : Nat} {t : TypeId} {z g n cap : Nat} {xs : List Value} (h : w.ownsRow B t z (.slice (some ⟨g, 0, none⟩) n cap) n xs) (i : Nat) (u : Value) :
    (w.setCell ⟨g, i, none⟩ u).ownsRow B t z (.slice (some ⟨g, 0, none⟩) n cap) n (xs.set i u) := by
  obtain ⟨h1, h2⟩ := h
  refine ⟨by rw [List.length_set]; exact h1, ?_⟩
  rcases h2 with ⟨e, _⟩ | ⟨g', cap', cur, e, hb, hg, hn, hm, hs, ht⟩
  · cases e
  · simp only [Value.slice.injEq, Option.some.injEq, Addr.mk.injEq, and_true, true_and] at e
    obtain ⟨rfl, rfl⟩ := e
    refine .inr ⟨g, cap, (cur.toList.set i u).toArray, rfl, hb, ?_, hn, hm, by simpa using hs, ?_⟩
    · have := Blk.set_ (w := w) (g := g) (t := t) (cs := cur.toList) (by unfold Blk; simpa using hg) i u
      exact this
    · rw [← ht]
      simp [List.take_set]
theorem own_cutz {w : World} {B : Nat} {t : TypeId} {z g n m cap : Nat} {xs : List Value} (h : w.ownsRow B t z (.slice (some ⟨g, 0, none⟩) n cap) n xs) (hm : m ≤ n) : w.ownsRow B t z (.slice (some ⟨g, 0, none⟩) m cap) m (xs.take (m * z)) := by
  obtain ⟨h1, h2⟩ := h
  have hmz : m * z ≤ n * z := Nat.mul_le_mul_right _ hm
  refine ⟨by rw [List.length_take, h1]; omega, ?_⟩
  rcases h2 with ⟨e, _⟩ | ⟨g', cap', cur, e, hb, hg, hn, hcm, hs, ht⟩
  · cases e
  · simp only [Value.slice.injEq, Option.some.injEq, Addr.mk.injEq, and_true, true_and] at e
    obtain ⟨rfl, rfl⟩ := e
    refine .inr ⟨g, cap, cur, rfl, hb, hg, Nat.le_trans hm hn, hcm, hs, ?_⟩
    rw [← ht, List.take_take, Nat.min_eq_left hmz]
theorem Den.setc {α : Type} {At : α → List Value → Prop} {z : Nat} (hz : ∀ x cs, At x cs → cs.length = z) {i : Nat} {u : Value} (hi : i < z) {x y : α} (hxy : ∀ cs, At x cs → At y (cs.set i u)) : ∀ {k : Nat} {l : List α} {C : List Value}, Den At l C → l[k]? = some x → Den At (l.set k y) (C.set (k * z + i) u)
  | _, [], _, _, hx => by simp at hx
  | 0, a :: l, C, ⟨cs, D, e, h1, h2⟩, hx => by
    simp at hx
    subst hx
    refine ⟨cs.set i u, D, ?_, hxy _ h1, h2⟩
    rw [e, Nat.zero_mul, Nat.zero_add, List.set_append_left _ _ (by rw [hz _ _ h1]; exact hi)]
  | k + 1, a :: l, C, ⟨cs, D, e, h1, h2⟩, hx => by
    refine ⟨cs, D.set (k * z + i) u, ?_, h1, Den.setc hz hi hxy h2 (by simpa using hx)⟩
    have hl := hz _ _ h1
    rw [e, List.set_append_right _ _ (by rw [hl, Nat.succ_mul]; omega), hl, show (k + 1) * z + i - z = k * z + i by rw [Nat.succ_mul]; omega]
/-- A step of a way that stays whatever is done to the blocks D, to its own row, and to new ones. -/
def spD (D : Nat → Prop) (ob : Option Nat) (w : World) (x : Sp) (cs : List Value) : Prop := ∃ f v u, cs = [.int .i64 x.1, .bool f, v, u, .int .i64 x.2.2] ∧ SNod (fun j => D j ∨ ob = some j) w x.2.1 f v u
section
variable {D D' F : Nat → Prop} {B : Nat} {ob ob' : Option Nat} {w w' : World} {x : Sp} {cs : List Value}
theorem spD.el (h : spD D ob w x cs) : spE.At w x cs := by
  obtain ⟨f, v, u, e, h⟩ := h
  exact ⟨f, v, u, e, h.nod.now⟩
theorem spD.step (h : spD D ob w x cs) (ho : Only F w w') (hF : ∀ j, j < w.heap.size → F j → D j ∨ ob = some j) (hD : ∀ j, D' j → D j ∨ ob = some j ∨ w.heap.size ≤ j) (hob : ∀ g, ob' = some g → D g ∨ ob = some g ∨ w.heap.size ≤ g) : spD D' ob' w' x cs := by
  obtain ⟨f, v, u, e, h⟩ := h
  refine ⟨f, v, u, e, h.step (ho.mono fun j hj => ?_) fun j hj => ?_⟩
  · by_cases hl : j < w.heap.size
    · exact .inl (hF j hl hj)
    · exact .inr (Nat.not_lt.1 hl)
  · rcases hj with hj | hj
    · rcases hD j hj with h1 | h1 | h1
      · exact .inl (.inl h1)
      · exact .inl (.inr h1)
      · exact .inr h1
    · rcases hob j hj with h1 | h1 | h1
      · exact .inl (.inl h1)
      · exact .inl (.inr h1)
      · exact .inr h1
theorem spD.of (h : spEk.K B ob w x cs) (hD : ∀ j, D j → j < B ∨ ob = some j ∨ w.heap.size ≤ j) (hob : ∀ g, ob' = some g → g < B ∨ ob = some g ∨ w.heap.size ≤ g) : spD D ob' w x cs := by
  obtain ⟨f, v, u, e, h⟩ := h
  have h1 : spD (fun j => j < B) ob w x cs := ⟨f, v, u, e, h⟩
  exact h1.step (F := fun j => w.heap.size ≤ j) (Only.refl _ w) (fun j h2 h3 => absurd h3 (Nat.not_le.2 h2)) hD hob
end
/-- A way in a row of one's own (from block B on) which is none of the blocks D; it stays whatever is done to these, and to new ones. -/
def PathO (D : Nat → Prop) (B : Nat) (w : World) (A : Option Addr) (n c : Nat) (p : List Sp) : Prop := ∃ C, n = p.length ∧ w.ownsRow B 106 5 (.slice A n c) n C ∧ (∀ k, (Value.slice A n c).ownBlock = some k → ¬ D k) ∧ Den (spD D (Value.slice A n c).ownBlock w) p C
/-- The same, of a row as it comes from the way down. -/
def PathK (B : Nat) (w : World) (A : Option Addr) (n c : Nat) (p : List Sp) : Prop := ∃ C, n = p.length ∧ w.ownsRow B 106 5 (.slice A n c) n C ∧ Den (spEk.K B (Value.slice A n c).ownBlock w) p C
theorem d_len {D : Nat → Prop} {ob : Option Nat} {w : World} : ∀ (x : Sp) (cs : List Value), spD D ob w x cs → cs.length = 5 := fun x cs h => spE.len h.el
theorem PathK.d {D : Nat → Prop} {B B0 n c : Nat} {w : World} {A : Option Addr} {p : List Sp} (h : PathK B w A n c p) (h0 : B0 ≤ B) (hD : ∀ j, D j → j < B) : PathO D B0 w A n c p := by
  obtain ⟨C, hn, ho, hd⟩ := h
  refine ⟨C, hn, World.ownsRow.mono ho h0, fun k hk e => ?_, hd.mono fun y ds hy => spD.of hy (fun j hj => .inl (hD j hj)) fun g hg => .inr (.inl hg)⟩
  have h1 := World.ownsRow.lt ho k hk
  have h2 := hD k e
  omega
section
variable {D D' : Nat → Prop} {B n c : Nat} {w w' : World} {A : Option Addr} {p : List Sp}
theorem PathO.sps (h : PathO D B w A n c p) : Sps w (.slice A n c) p := by
  obtain ⟨C, hn, ho, _, hd⟩ := h
  exact Own.rw_ (E := spE) (t := 106) (B := B) ⟨hn, _, hd.mono fun y ds hy => hy.el, ho⟩
theorem PathO.step (h : PathO D B w A n c p) (ho : Only (fun k => D k ∨ w.heap.size ≤ k) w w') (hD : ∀ j, D' j → D j ∨ w.heap.size ≤ j) : PathO D' B w' A n c p := by
  obtain ⟨C, hn, ho1, hne, hd⟩ := h
  have hl := World.ownsRow.lt ho1
  refine ⟨C, hn, own_on ho1 ho (fun k hk e => ?_), fun k hk e => ?_, hd.mono fun y ds hy => hy.step ho (fun j h1 h2 => .inl (h2.resolve_right (Nat.not_le.2 h1))) (fun j hj => (hD j hj).imp id .inr) (fun g hg => .inr (.inl hg))⟩
  · rcases e with e | e
    · exact hne k hk e
    · have := hl k hk
      omega
  · rcases hD k e with e | e
    · exact hne k hk e
    · have := hl k hk
      omega
theorem PathO.later (h : PathO D B w A n c p) (ho : Only (w.heap.size ≤ ·) w w') : PathO D B w' A n c p := h.step (ho.mono fun _ h => .inr h) fun _ h => .inl h
/-- Its row is some block's, from its start on. -/
theorem PathO.at_ (h : PathO D B w A n c p) (hn : 0 < n) : ∃ g, A = some ⟨g, 0, none⟩ ∧ B ≤ g ∧ g < w.heap.size ∧ ¬ D g := by
  obtain ⟨C, _, ho, hne, _⟩ := h
  obtain ⟨g, p', e, _⟩ := own_form ho hn
  simp only [Value.slice.injEq] at e
  obtain ⟨rfl, _, _⟩ := e
  exact ⟨g, rfl, (World.ownsRow.lt ho g rfl).1, (World.ownsRow.lt ho g rfl).2, hne g rfl⟩
theorem PathO.cut (h : PathO D B w A n c p) {m : Nat} (hm : m ≤ n) (h0 : 0 < n) : PathO D B w A m c (p.take m) := by
  obtain ⟨g, rfl, _⟩ := h.at_ h0
  obtain ⟨C, hn, ho, hne, hd⟩ := h
  exact ⟨_, by rw [List.length_take]; omega, own_cutz ho hm, hne, Den.take d_len m hd⟩
/-- A step's place, written anew. -/
theorem PathO.setK {g : Nat} (h : PathO D B w (some ⟨g, 0, none⟩) n c p) {k : Nat} {s : Sp} (hs : p[k]? = some s) (d : Int) : PathO D B (w.setCell ⟨g, k * 5 + 4, none⟩ (.int .i64 d)) (some ⟨g, 0, none⟩) n c (p.set k (s.1, s.2.1, d)) ∧ Only (fun j => j = g) w (w.setCell ⟨g, k * 5 + 4, none⟩ (.int .i64 d)) := by
  obtain ⟨C, hn, ho, hne, hd⟩ := h
  have hO : Only (fun j => j = g) w (w.setCell ⟨g, k * 5 + 4, none⟩ (.int .i64 d)) := (Only.refl (fun j => j = g) w).setCell (p := ⟨g, k * 5 + 4, none⟩) rfl _
  refine ⟨⟨_, by rw [List.length_set]; exact hn, own_setz ho _ _, hne, ?_⟩, hO⟩
  refine Den.setc (x := s) d_len (by decide) (fun cs hc => ?_) (hd.mono fun y ds hy => spD.step hy hO (fun j _ e => .inr (by rw [show j = g from e]; rfl)) (fun j hj => .inl hj) (fun z hz => .inr (.inl hz))) hs
  obtain ⟨f, v, u, rfl, hk⟩ := hc
  exact ⟨f, v, u, rfl, hk⟩
end
end Go.Proofs.Ytnjhpjpeeehagaa

/-
  aside: to the next leaf of a side.
-/
set_option linter.unusedVariables false
namespace Go.Proofs.Ytnjhpjpeeehagaa
open Go.RowKit

/-- To the next leaf on one side, of any reader. -/
def asideG (ed : Bool → Int → Int × List Sp) (side : Int) : List Sp → Option (Int × List Sp)
  | [] => none
  | [_] => none
  | s :: t :: r => match asideG ed side (t :: r) with
    | some q => some (q.1, s :: q.2)
    | none => if 0 ≤ s.2.2 + side ∧ s.2.2 + side < s.2.1.kds.length then some ((ed (decide (side = -1)) (kidRef s.2.1 (s.2.2 + side).toNat)).1, (s.1, s.2.1, s.2.2 + side) :: (ed (decide (side = -1)) (kidRef s.2.1 (s.2.2 + side).toNat)).2) else none
theorem asideG_cons {ed : Bool → Int → Int × List Sp} {side : Int} {s : Sp} {r : List Sp} (h : r ≠ []) : asideG ed side (s :: r) = match asideG ed side r with
    | some q => some (q.1, s :: q.2)
    | none => if 0 ≤ s.2.2 + side ∧ s.2.2 + side < s.2.1.kds.length then some ((ed (decide (side = -1)) (kidRef s.2.1 (s.2.2 + side).toNat)).1, (s.1, s.2.1, s.2.2 + side) :: (ed (decide (side = -1)) (kidRef s.2.1 (s.2.2 + side).toNat)).2) else none := by
  cases r with
  | nil => exact absurd rfl h
  | cons t r => rfl
/-- Where a node is taken from a list, it is the same, or tells its error. -/
theorem aside_hole {H : Prop} {l : List Nm} {ed : Bool → Int → Int × List Sp} {side : Int} (hd : ∀ lb r, (downP l (chE lb) 12 r).1 = 0 → ed lb r = downP l (chE lb) 12 r ∨ (H ∧ ed lb r = (10, []))) : ∀ p : List Sp,
    (asideP l side p = none → asideG ed side p = none) ∧ (∀ p', asideP l side p = some (0, p') → asideG ed side p = some (0, p') ∨ (H ∧ ∃ q, asideG ed side p = some (10, q)))
  | [] => ⟨fun _ => rfl, fun p' h => by cases h⟩
  | [_] => ⟨fun _ => rfl, fun p' h => by cases h⟩
  | s :: t :: r => by
    have ih := aside_hole (l := l) (side := side) hd (t :: r)
    rw [aside_cons (by simp), asideG_cons (by simp)]
    cases ha : asideP l side (t :: r) with
    | none =>
      rw [ih.1 ha]
      simp only
      by_cases c : 0 ≤ s.2.2 + side ∧ s.2.2 + side < s.2.1.kds.length
      · rw [if_pos c, if_pos c]
        refine ⟨(fun h => nomatch h), fun p' h => ?_⟩
        simp only [Option.some.injEq, Prod.mk.injEq] at h
        rcases hd _ _ h.1 with h1 | ⟨hH, h1⟩
        · rw [h1]
          exact .inl (by rw [h.1, h.2])
        · rw [h1]
          exact .inr ⟨hH, _, rfl⟩
      · rw [if_neg c, if_neg c]
        exact ⟨fun _ => rfl, fun p' h => nomatch h⟩
    | some q =>
      refine ⟨(fun h => nomatch h), fun p' h => ?_⟩
      simp only [Option.some.injEq, Prod.mk.injEq] at h
      obtain ⟨q1, q2⟩ := q
      obtain rfl : q1 = 0 := h.1
      rcases ih.2 _ ha with h1 | ⟨hH, z, h1⟩
      · rw [h1]
        exact .inl (by simp only; rw [← h.2])
      · rw [h1]
        exact .inr ⟨hH, _, rfl⟩
theorem aside_app {ed : Bool → Int → Int × List Sp} {side : Int} {q : Int × List Sp} {b : List Sp} (hb : b ≠ []) (h : asideG ed side b = some q) : ∀ a : List Sp, asideG ed side (a ++ b) = some (q.1, a ++ q.2)
  | [] => h
  | s :: a => by
    rw [List.cons_append, asideG_cons (by simp [hb]), aside_app hb h a]
    rfl
theorem cu_cell {w W : World} {a : Addr} {x : Value} (h : w.cell? a = some x) (ho : Only (w.heap.size ≤ ·) w W) : W.cell? a = some x := (ho.cell (p := a) (Nat.not_le.2 (World.block_lt_of_cell? w _ h))).trans h
def AsideSays (D : Nat → Prop) (B : Nat) (w : World) (g : Nat) (o : Option (Int × List Sp)) (e : Ending) (w' : World) : Prop :=
  Only (fun j => j = g ∨ w.heap.size ≤ j) w w' ∧ ((o = none ∧ e = .returned (.tuple #[.slice none 0 0, .int .i64 0])) ∨ ∃ er p' A' n' c', o = some (er, p') ∧ e = .returned (.tuple #[.slice A' n' c', .int .i64 (if er = 0 ∧ 12 < p'.length then 130 else er)]) ∧ (er = 0 → PathO D B w' A' n' c' p'))
theorem path_cells {D : Nat → Prop} {B n c g : Nat} {w : World} {p : List Sp} (h : PathO D B w (some ⟨g, 0, none⟩) n c p) {i : Nat} {s : Sp} (hs : p[i]? = some s) : ∃ (Q R : Option Addr) (q1 q2 t r : Nat), w.cell? ⟨g, i * 5, none⟩ = some (.int .i64 s.1) ∧ w.cell? ⟨g, i * 5 + 1, none⟩ = some (.bool s.2.1.leaf) ∧ w.cell? ⟨g, i * 5 + 2, none⟩ = some (.slice Q q1 q2) ∧ w.cell? ⟨g, i * 5 + 3, none⟩ = some (.slice R t r) ∧ w.cell? ⟨g, i * 5 + 4, none⟩ = some (.int .i64 s.2.2) ∧ Nod w s.2.1 s.2.1.leaf (.slice Q q1 q2) (.slice R t r) ∧ w.frozen? ⟨g, i * 5 + 4, none⟩ = false := by
  have hl : i < n := by
    obtain ⟨C, hn, _⟩ := h
    rw [hn]
    exact (List.getElem?_eq_some_iff.1 hs).1
  obtain ⟨b, off, x, Q, R, q1, q2, t, r, e, _, hx, k0, k1, k2, k3, k4, hnd⟩ := sps_at h.sps hl
  simp only [Option.some.injEq, Addr.mk.injEq, and_true] at e
  obtain ⟨rfl, rfl⟩ := e
  rw [hs] at hx
  cases hx
  obtain ⟨C, _, ho, _, _⟩ := h
  simp only [Nat.zero_add] at k0 k1 k2 k3 k4
  exact ⟨Q, R, q1, q2, t, r, k0, k1, k2, k3, k4, hnd, ho.frozenAt _⟩
theorem own_srcz {w : World} {B z n m c : Nat} {t : TypeId} {A : Option Addr} {C : List Value} (h : w.ownsRow B t z (.slice A m c) n C) : m = n ∧ (A = none → m = 0 ∧ c = 0) ∧ C.length = m * z ∧ ∀ ad, A = some ad → ∀ j u, C[j]? = some u → w.cell? (ad.add j) = some u := by
  obtain ⟨A', c', e, hr, h1, h2, h3, _⟩ := raw_of_own h
  cases e
  exact ⟨rfl, fun e => ⟨by have := h1 e; omega, h1 e⟩, h.1, hr.src⟩
theorem wpList_path_app {w : World} {ops : Array Oper} {rest : List Oper} {o : Oper} {a : Act} {Q : Exit → Act → World → Prop} (hgd : o.guard = none) (s x : Operand) (ho : o.op = .call { callee := .builtin .append, args := #[s, x], argTypes := #[73, 73] })
    (D : Nat → Prop) (B g m c : Nat) (p : List Sp) (h : PathO D B w (some ⟨g, 0, none⟩) m c p) (h0 : 0 < m) (B7 : Nat) (A7 : Option Addr) (n7 c7 : Nat) (p7 : List Sp) (h7 : PathK B7 w A7 n7 c7 p7) (hB7 : g < B7) (hDw : ∀ j, D j → j < w.heap.size) (hDB : ∀ j, D j → j < B7) (hlim : m + n7 ≤ 1000) (hs : a.eval s = .slice (some ⟨g, 0, none⟩) m c) (hx : a.eval x = .slice A7 n7 c7)
    (hk : ∀ A' c' w', PathO D B w' A' (m + n7) c' (p ++ p7) → Only (fun j => j = g ∨ w.heap.size ≤ j) w w' → wpList Try.prog ops Q rest (a.put o.dst (.slice A' (m + n7) c')) w') : wpList Try.prog ops Q (o :: rest) a w := by
  obtain ⟨i1, hi0, hz0, hz1, hz2⟩ := info_parts info_S
  obtain ⟨g', eg, hBg, hgw, _⟩ := h.at_ h0
  simp only [Option.some.injEq, Addr.mk.injEq, and_true] at eg
  subst eg
  obtain ⟨C, hn, hown, hne, hden⟩ := h
  obtain ⟨C7, hn7, hown7, hden7⟩ := h7
  obtain ⟨_, q1, q2, q3⟩ := own_srcz hown7
  refine wpList_plain hgd fun K hK => wp_append_row s x 73 ho B 106 i1 zS 5 72 Try.underlying73 hi0 hz0 hz1 hz2 (by rfl) (by omega) (.slice (some ⟨g, 0, none⟩) m c) m C hs hown A7 n7 c7 C7 hx q1 q2 q3 (Den.one (fun y cs hy => spE.one (spEk.el hy)) hden7) (by simp only [maxLen]; omega) (by omega) (by omega) (fun v' w' hr hg hat => hK _ _ ?_)
  obtain ⟨g2, t2, rfl, _⟩ := own_form hr (by omega)
  have hO : Only (fun j => j = g ∨ w.heap.size ≤ j) w w' := ((Only.refl (fun k => (Value.slice (some ⟨g, 0, none⟩) m c).ownBlock = some k ∨ w.heap.size ≤ k) w).grown hg (fun _ h => .inr h) (fun _ e => .inl e)).mono fun j hj => hj.imp (fun e => (Option.some.inj e).symm) id
  have hob : some g2 = some g ∨ ∃ z, some g2 = some z ∧ w.heap.size ≤ z := hat.imp id fun e => ⟨_, e, Nat.le_refl _⟩
  have hF : ∀ j, j < w.heap.size → (j = g ∨ w.heap.size ≤ j) → D j ∨ some g = some j := fun j h1 h2 => by
    rcases h2 with h2 | h2
    · rw [h2]
      exact .inr rfl
    · omega
  have hob' : ∀ z, some g2 = some z → D z ∨ some g = some z ∨ w.heap.size ≤ z := fun z hz => by
    rcases hob with h1 | ⟨y, h1, h2⟩
    · exact .inr (.inl (by rw [← h1]; exact hz))
    · rw [hz] at h1
      cases h1
      exact .inr (.inr h2)
  refine hk _ t2 w' ⟨C ++ C7, by rw [List.length_append, hn, hn7], hr, fun k hk e => ?_, Den.append (hden.mono fun y ds hy => spD.step hy hO hF (fun j hj => .inl hj) hob') (hden7.mono fun y ds hy => spD.step (D := D) (ob := some g) (spD.of hy (fun j hj => .inl (hDB j hj)) (fun z e => .inl (by cases e; exact hB7))) hO hF (fun j hj => .inl hj) hob')⟩ hO
  rcases hob' k hk with h1 | h1 | h1
  · rcases hob with h2 | ⟨y, h2, h3⟩
    · exact hne g rfl (by have h4 : some g = some k := by rw [← h2]; exact hk
                          cases h4
                          exact e)
    · have h4 : some y = some k := by rw [← h2]; exact hk
      cases h4
      have := hDw k e
      omega
  · exact hne k h1 e
  · have := hDw k e
    omega
set_option maxRecDepth 100000 in
set_option maxHeartbeats 12800000 in
theorem aside_c (Ex : Nat → Prop) (w0 w : World) (B cb : Nat) (S : Value) (ed : Bool → Int → Int × List Sp) (hED : ∀ W, Lat Ex w0 W → ∀ lb ref, Calls Try.prog 30 #[S, .int .i64 ref, .bool lb] W (DownOwn W (ed lb ref))) (hel : ∀ lb ref, (ed lb ref).2.length ≤ 12) (root : Int) (V : Value) (h00 : Lat Ex w0 w) (hc : Blk w cb 75 [S, .int .i64 root, V]) (D : Nat → Prop) (hD : ∀ j, D j → j < w.heap.size) (hcD : D cb) (hB : w0.heap.size ≤ B) (g n c : Nat) (p : List Sp) (hp : PathO D B w (some ⟨g, 0, none⟩) n c p) (hn0 : 0 < n) (hn : n ≤ 12) (side : Int) (hs : side = 1 ∨ side = -1) (hbr : ∀ (k : Nat) (s : Sp), p[k]? = some s → k + 1 < p.length → 0 ≤ s.2.2 ∧ s.2.2 < s.2.1.kds.length ∧ Sml s.2.1) : Calls Try.prog 43 #[.pointer (some ⟨cb, 0, none⟩), .slice (some ⟨g, 0, none⟩) n c, .int .i64 side] w (AsideSays D B w g (asideG ed side p)) := by
  obtain ⟨m, hm⟩ : ∃ m, n = m + 1 := ⟨n - 1, by omega⟩
  obtain ⟨kz, hkz⟩ : ∃ z : Int, z = (m : Int) - 1 := ⟨_, rfl⟩
  have c1 : wrap64 ((n : Int) - 2) = kz := by rw [IntWalk.wrap64_in _ (by omega)]; omega
  have hlast : asideG ed side (p.drop m) = none := by
    obtain ⟨C, hpl, _⟩ := hp
    have hl : (p.drop m).length = 1 := by rw [List.length_drop, ← hpl]; omega
    match p.drop m, hl with
    | [s], _ => rfl
  have HP := Lib.hid hp
  have HC := Lib.hid hc
  have HEG := Lib.hid hED
  have HEL := Lib.hid hel
  have H00 := Lib.hid h00
  have HBB := Lib.hid (And.intro hB hD)
  have HSD := Lib.hid hs
  have HBR := Lib.hid hbr
  have HNL := Lib.hid (And.intro hm hn)
  have HLS := Lib.hid hlast
  have HKZ := Lib.hid hkz
  have HGB : Hid (B ≤ g ∧ g < w.heap.size) := Lib.hid (by obtain ⟨g', e, h1, h2, _⟩ := hp.at_ hn0; cases e; exact ⟨h1, h2⟩)
  have HGC : Hid (cb ≠ g) := Lib.hid (by obtain ⟨g', e, _, _, h2⟩ := hp.at_ hn0; cases e; exact fun e => h2 (e ▸ hcD))
  have HC1 := Lib.hid c1
  clear c1 hED hel h00 hc hD hcD hB hp hn0 hn hs hbr hm hkz hlast
  go_enter Try.func43, Try.ntmps43
  go_wp2
  go_loopg [1, 8] m (fun gk pv kv wr => ∃ (d j : Nat) (z : Int) (p2 : List Sp), gk = m - d ∧ pv = .slice (some ⟨g, 0, none⟩) n c ∧ kv = .int .i64 z ∧ Hid (z = (j : Int) - 1 ∧ j + d = m) ∧ Hid (PathO D B wr (some ⟨g, 0, none⟩) n c p2) ∧ Hid (p2.length = p.length ∧ p2.take j = p.take j) ∧ Hid (asideG ed side (p.drop j) = none) ∧ Hid (Only (fun k => k = g) w wr))
  case atStart => exact ⟨0, m, kz, p, rfl, rfl, congrArg (Value.int .i64) HC1.out, Lib.hid ⟨HKZ.out, rfl⟩, HP, Lib.hid ⟨rfl, rfl⟩, HLS, Lib.hid (Only.refl _ _)⟩
  case round =>
    obtain ⟨d, j, z, p2, rfl, rfl, rfl, HZ, HPW, HTK, HDR, HO⟩ := hrel
    cases j with
    | zero =>
      obtain rfl : z = -1 := by have h1 := HZ.out; omega
      go_wp2
      go_ret2
      refine ⟨HO.out.mono fun k h => .inl h, .inl ⟨?_, rfl⟩⟩
      have h1 := HDR.out
      rwa [List.drop_zero] at h1
    | succ i =>
      obtain rfl : z = (i : Int) := by have h1 := HZ.out; omega
      obtain ⟨s, hsx⟩ : ∃ s, p2[i]? = some s := ⟨_, List.getElem?_eq_getElem (by have h1 := HZ.out; have h2 := HNL.out; have h3 := HTK.out.1; obtain ⟨C, h4, _⟩ := HPW.out; omega)⟩
      have hpx : p[i]? = some s := by
        have h1 := congrArg (·[i]?) HTK.out.2
        simp only [List.getElem?_take_of_lt (Nat.lt_succ_self i)] at h1
        rw [← h1]
        exact hsx
      have hpl : n = p.length := by obtain ⟨C, h4, _⟩ := HPW.out; rw [h4, HTK.out.1]
      obtain ⟨b1, b2, b3⟩ := HBR.out i s hpx (by have h1 := HZ.out; have h2 := HNL.out; omega)
      obtain ⟨Q, R, q1, q2, t, r9, k0, k1, k2, k3, k4, hnd, f4⟩ := path_cells HPW.out hsx
      have hin : i < n := by have h1 := HZ.out; have h2 := HNL.out; omega
      obtain ⟨K1, hK1⟩ : ∃ z, z = s.2.2 := ⟨_, rfl⟩
      obtain ⟨K2, hK2⟩ : ∃ z, z = s.2.2 + side := ⟨_, rfl⟩
      have c2 : wrap64 (K1 + side) = K2 := by have h1 := HSD.out; have h2 := b3.2.1; rw [IntWalk.wrap64_in _ (by omega)]; omega
      rw [← hK1] at k4
      obtain ⟨w5, hw5⟩ : ∃ W0, W0 = wr.setCell ⟨g, i * 5 + 4, none⟩ (.int .i64 K2) := ⟨_, rfl⟩
      have hsk := HPW.out.setK hsx K2
      rw [← hw5] at hsk
      have HP5 := Lib.hid hsk.1
      have HO5 := Lib.hid hsk.2
      have HE5 := Lib.hid hw5
      have HSX0 := Lib.hid (And.intro hsx (And.intro hpx (And.intro hK1 (And.intro hK2 (And.intro hpl b2)))))
      have HSM := Lib.hid b3
      clear hsk hw5 hsx hpx hpl b1 b2 b3 hnd hK1 hK2
      go_upto_region 6 with (fail)
      rw [← HE5.out]
      clear HE5 k0 k1 k2 k3 k4 f4 c2 hin Q R q1 q2 t r9
      obtain ⟨Q, R, q1, q2, t, r9, k0, k1, k2, k3, k4, hnd, f4⟩ := path_cells HP5.out (List.getElem?_set_self (by have h1 := HSX0.out.1; exact (List.getElem?_eq_some_iff.1 h1).1))
      have HND := Lib.hid hnd
      have HTL : Hid (t = s.2.1.kds.length) := Lib.hid hnd.2.2.len
      have HSXc := Lib.hid (And.intro k4 k3)
      clear k0 k1 k2 k3 k4 hnd f4
      have HNX : Hid (K2 < 0 ∨ (t : Int) ≤ K2 → asideG ed side (p.drop i) = none) := Lib.hid (fun h9 => by
        have h1 := HSX0.out
        have h2 : p.drop i = s :: p.drop (i + 1) := List.drop_eq_getElem_cons (by rw [← h1.2.2.2.2.1]; have h3 := HZ.out; have h4 := HNL.out; omega) |>.trans (by rw [(List.getElem?_eq_some_iff.1 h1.2.1).2])
        have h5 : p.drop (i + 1) ≠ [] := by
          intro e
          have h6 := congrArg List.length e
          rw [List.length_drop, ← h1.2.2.2.2.1] at h6
          have h3 := HZ.out
          have h4 := HNL.out
          simp only [List.length_nil] at h6
          omega
        rw [h2, asideG_cons h5, HDR.out]
        simp only
        rw [if_neg]
        have h7 := HTL.out
        rw [← h1.2.2.2.1]
        omega)
      have HSX : Hid ((fun W : World => W.cell? ⟨g, i * 5 + 4, none⟩ = some (.int .i64 K2) ∧ W.cell? ⟨g, i * 5 + 3, none⟩ = some (.slice R t r9)) w5.drew) := Lib.hid HSXc.out
      have HXD : Hid (Only (w5.heap.size ≤ ·) w5 w5.drew) := Lib.hid (Only.refl _ w5).drew
      have HOD : Hid (Only (fun k => k = g) w w5.drew) := Lib.hid (HO.out.trans HO5.out).drew
      have c9 : wrap64 ((i : Int) - 1) = (i : Int) - 1 := IntWalk.wrap64_in _ (by have h1 := HZ.out; have h2 := HNL.out; omega)
      by_cases hneg : K2 < 0
      ·
        refine wp_region_list (B := [false, false, false, false, false, false, false, false, false, false, false, false, false, false, false, false, false, false]) (S := (fun W : World => W.cell? ⟨g, i * 5 + 4, none⟩ = some (.int .i64 K2) ∧ W.cell? ⟨g, i * 5 + 3, none⟩ = some (.slice R t r9))) (by kernel_rfl) (by kernel_rfl) (by kernel_rfl) HSX.out (fun hsel hHeld => ?_)
        generalize hwz : World.drew _ = wd at HSX HXD HOD hHeld ⊢
        clear hwz
        refine oneA 0 30 hsel (h := ?_)
        simp only [Act.put, List.setIfInBounds_toArray, List.set_cons_zero, List.set_cons_succ]
        refine oneA 1 31 hsel (h := ?_)
        simp only [Act.put, List.setIfInBounds_toArray, List.set_cons_zero, List.set_cons_succ]
        refine oneA 2 32 hsel (h := ?_)
        simp only [Act.put, List.setIfInBounds_toArray, List.set_cons_zero, List.set_cons_succ]
        refine oneA 3 33 hsel (h := ?_)
        simp only [Act.put, List.setIfInBounds_toArray, List.set_cons_zero, List.set_cons_succ]
        refine oneA 4 34 hsel (h := ?_)
        simp only [Act.put, List.setIfInBounds_toArray, List.set_cons_zero, List.set_cons_succ]
        refine oneA 5 35 hsel (h := ?_)
        simp only [Act.put, List.setIfInBounds_toArray, List.set_cons_zero, List.set_cons_succ]
        refine take_skipL (i := 6) (d := 36) (oi := ?_) ?_ hsel (by kernel_rfl) (by kernel_rfl) (fun _ _ _ h => h) ?_ ?_ (by assumption) ?_
        case refine_2 => (simp only [List.getElem?_cons_succ, List.getElem?_cons_zero]; rfl)
        case refine_3 => rfl
        case refine_4 => rfl
        simp only [Act.put, List.setIfInBounds_toArray, List.set_cons_zero, List.set_cons_succ]
        refine take_skipL (i := 7) (d := 37) (oi := ?_) ?_ hsel (by kernel_rfl) (by kernel_rfl) (fun _ _ _ h => h) ?_ ?_ (by assumption) ?_
        case refine_2 => (simp only [List.getElem?_cons_succ, List.getElem?_cons_zero]; rfl)
        case refine_3 => rfl
        case refine_4 => rfl
        simp only [Act.put, List.setIfInBounds_toArray, List.set_cons_zero, List.set_cons_succ]
        refine take_skipL (i := 8) (d := 38) (oi := ?_) ?_ hsel (by kernel_rfl) (by kernel_rfl) (fun _ _ _ h => h) ?_ ?_ (by assumption) ?_
        case refine_2 => (simp only [List.getElem?_cons_succ, List.getElem?_cons_zero]; rfl)
        case refine_3 => rfl
        case refine_4 => rfl
        simp only [Act.put, List.setIfInBounds_toArray, List.set_cons_zero, List.set_cons_succ]
        refine take_skipL (i := 9) (d := 39) (oi := ?_) ?_ hsel (by kernel_rfl) (by kernel_rfl) (fun _ _ _ h => h) ?_ ?_ (by assumption) ?_
        case refine_2 => (simp only [List.getElem?_cons_succ, List.getElem?_cons_zero]; rfl)
        case refine_3 => rfl
        case refine_4 => rfl
        simp only [Act.put, List.setIfInBounds_toArray, List.set_cons_zero, List.set_cons_succ]
        refine take_skipL (i := 10) (d := 40) (oi := ?_) ?_ hsel (by kernel_rfl) (by kernel_rfl) (fun _ _ _ h => h) ?_ ?_ (by assumption) ?_
        case refine_2 => (simp only [List.getElem?_cons_succ, List.getElem?_cons_zero]; rfl)
        case refine_3 => rfl
        case refine_4 => rfl
        simp only [Act.put, List.setIfInBounds_toArray, List.set_cons_zero, List.set_cons_succ]
        refine take_skipL (i := 11) (d := 41) (oi := ?_) ?_ hsel (by kernel_rfl) (by kernel_rfl) (fun _ _ _ h => h) ?_ ?_ (by assumption) ?_
        case refine_2 => (simp only [List.getElem?_cons_succ, List.getElem?_cons_zero]; rfl)
        case refine_3 => rfl
        case refine_4 => rfl
        simp only [Act.put, List.setIfInBounds_toArray, List.set_cons_zero, List.set_cons_succ]
        refine take_skipL (i := 12) (d := 42) (oi := ?_) ?_ hsel (by kernel_rfl) (by kernel_rfl) (fun _ _ _ h => h) ?_ ?_ (by assumption) ?_
        case refine_2 => (simp only [List.getElem?_cons_succ, List.getElem?_cons_zero]; rfl)
        case refine_3 => rfl
        case refine_4 => rfl
        simp only [Act.put, List.setIfInBounds_toArray, List.set_cons_zero, List.set_cons_succ]
        refine take_skipL (i := 13) (d := 43) (oi := ?_) ?_ hsel (by kernel_rfl) (by kernel_rfl) (fun _ _ _ h => h) ?_ ?_ (by assumption) ?_
        case refine_2 => (simp only [List.getElem?_cons_succ, List.getElem?_cons_zero]; rfl)
        case refine_3 => rfl
        case refine_4 => rfl
        simp only [Act.put, List.setIfInBounds_toArray, List.set_cons_zero, List.set_cons_succ]
        refine take_skipL (i := 14) (d := 44) (oi := ?_) ?_ hsel (by kernel_rfl) (by kernel_rfl) (fun _ _ _ h => h) ?_ ?_ (by assumption) ?_
        case refine_2 => (simp only [List.getElem?_cons_succ, List.getElem?_cons_zero]; rfl)
        case refine_3 => rfl
        case refine_4 => rfl
        simp only [Act.put, List.setIfInBounds_toArray, List.set_cons_zero, List.set_cons_succ]
        refine take_skipL (i := 15) (d := 45) (oi := ?_) ?_ hsel (by kernel_rfl) (by kernel_rfl) (fun _ _ _ h => h) ?_ ?_ (by assumption) ?_
        case refine_2 => (simp only [List.getElem?_cons_succ, List.getElem?_cons_zero]; rfl)
        case refine_3 => rfl
        case refine_4 => rfl
        simp only [Act.put, List.setIfInBounds_toArray, List.set_cons_zero, List.set_cons_succ]
        refine take_skipL (i := 16) (d := 46) (oi := ?_) ?_ hsel (by kernel_rfl) (by kernel_rfl) (fun _ _ _ h => h) ?_ ?_ (by assumption) ?_
        case refine_2 => (simp only [List.getElem?_cons_succ, List.getElem?_cons_zero]; rfl)
        case refine_3 => rfl
        case refine_4 => rfl
        simp only [Act.put, List.setIfInBounds_toArray, List.set_cons_zero, List.set_cons_succ]
        refine oneA 17 47 hsel (h := ?_)
        simp only [Act.put, List.setIfInBounds_toArray, List.set_cons_zero, List.set_cons_succ]
        refine wpAnyL_done (by kernel_rfl) (by kernel_rfl) ?_ _
        clear hsel hHeld
        go_wp2
        go_roundg (m - (d + 1))
        case measure => (have h1 := HZ.out; omega)
        case rel =>
          refine ⟨d + 1, i, (i : Int) - 1, _, rfl, rfl, (by first | rfl | exact congrArg (Value.int .i64) c9), Lib.hid ⟨rfl, by have h1 := HZ.out; omega⟩, Lib.hid (HP5.out.later HXD.out), Lib.hid ⟨by rw [List.length_set]; exact HTK.out.1, ?_⟩, Lib.hid (HNX.out (.inl hneg)), HOD⟩
          rw [List.take_set_of_le (Nat.le_refl i)]
          have h1 := congrArg (List.take i) HTK.out.2
          rwa [List.take_take, List.take_take, Nat.min_eq_left (Nat.le_succ i)] at h1
      · by_cases hge : (t : Int) ≤ K2
        ·
          refine wp_region_list (B := [false, false, false, false, false, false, false, false, false, false, false, false, false, false, false, false, false, false]) (S := (fun W : World => W.cell? ⟨g, i * 5 + 4, none⟩ = some (.int .i64 K2) ∧ W.cell? ⟨g, i * 5 + 3, none⟩ = some (.slice R t r9))) (by kernel_rfl) (by kernel_rfl) (by kernel_rfl) HSX.out (fun hsel hHeld => ?_)
          generalize hwz : World.drew _ = wd at HSX HXD HOD hHeld ⊢
          clear hwz
          refine oneA 0 30 hsel (h := ?_)
          simp only [Act.put, List.setIfInBounds_toArray, List.set_cons_zero, List.set_cons_succ]
          refine oneA 1 31 hsel (h := ?_)
          simp only [Act.put, List.setIfInBounds_toArray, List.set_cons_zero, List.set_cons_succ]
          refine oneA 2 32 hsel (h := ?_)
          simp only [Act.put, List.setIfInBounds_toArray, List.set_cons_zero, List.set_cons_succ]
          refine oneA 3 33 hsel (h := ?_)
          simp only [Act.put, List.setIfInBounds_toArray, List.set_cons_zero, List.set_cons_succ]
          refine oneA 4 34 hsel (h := ?_)
          simp only [Act.put, List.setIfInBounds_toArray, List.set_cons_zero, List.set_cons_succ]
          refine oneA 5 35 hsel (h := ?_)
          simp only [Act.put, List.setIfInBounds_toArray, List.set_cons_zero, List.set_cons_succ]
          refine oneA 6 36 hsel (h := ?_)
          simp only [Act.put, List.setIfInBounds_toArray, List.set_cons_zero, List.set_cons_succ]
          refine oneA 7 37 hsel (h := ?_)
          simp only [Act.put, List.setIfInBounds_toArray, List.set_cons_zero, List.set_cons_succ]
          refine oneA 8 38 hsel (h := ?_)
          simp only [Act.put, List.setIfInBounds_toArray, List.set_cons_zero, List.set_cons_succ]
          refine oneA 9 39 hsel (h := ?_)
          simp only [Act.put, List.setIfInBounds_toArray, List.set_cons_zero, List.set_cons_succ]
          refine oneA 10 40 hsel (h := ?_)
          simp only [Act.put, List.setIfInBounds_toArray, List.set_cons_zero, List.set_cons_succ]
          refine oneA 11 41 hsel (h := ?_)
          simp only [Act.put, List.setIfInBounds_toArray, List.set_cons_zero, List.set_cons_succ]
          refine oneA 12 42 hsel (h := ?_)
          simp only [Act.put, List.setIfInBounds_toArray, List.set_cons_zero, List.set_cons_succ]
          refine oneA 13 43 hsel (h := ?_)
          simp only [Act.put, List.setIfInBounds_toArray, List.set_cons_zero, List.set_cons_succ]
          refine oneA 14 44 hsel (h := ?_)
          simp only [Act.put, List.setIfInBounds_toArray, List.set_cons_zero, List.set_cons_succ]
          refine oneA 15 45 hsel (h := ?_)
          simp only [Act.put, List.setIfInBounds_toArray, List.set_cons_zero, List.set_cons_succ]
          refine oneA 16 46 hsel (h := ?_)
          simp only [Act.put, List.setIfInBounds_toArray, List.set_cons_zero, List.set_cons_succ]
          refine oneA 17 47 hsel (h := ?_)
          simp only [Act.put, List.setIfInBounds_toArray, List.set_cons_zero, List.set_cons_succ]
          refine wpAnyL_done (by kernel_rfl) (by kernel_rfl) ?_ _
          clear hsel hHeld
          go_wp2
          go_roundg (m - (d + 1))
          case measure => (have h1 := HZ.out; omega)
          case rel =>
            refine ⟨d + 1, i, (i : Int) - 1, _, rfl, rfl, (by first | rfl | exact congrArg (Value.int .i64) c9), Lib.hid ⟨rfl, by have h1 := HZ.out; omega⟩, Lib.hid (HP5.out.later HXD.out), Lib.hid ⟨by rw [List.length_set]; exact HTK.out.1, ?_⟩, Lib.hid (HNX.out (.inr hge)), HOD⟩
            rw [List.take_set_of_le (Nat.le_refl i)]
            have h1 := congrArg (List.take i) HTK.out.2
            rwa [List.take_take, List.take_take, Nat.min_eq_left (Nat.le_succ i)] at h1
        ·
          refine wp_region_list (B := [false, false, false, false, false, false, false, false, false, false, false, false, false, false, false, false, false, false]) (S := (fun W : World => W.cell? ⟨g, i * 5 + 4, none⟩ = some (.int .i64 K2) ∧ W.cell? ⟨g, i * 5 + 3, none⟩ = some (.slice R t r9))) (by kernel_rfl) (by kernel_rfl) (by kernel_rfl) HSX.out (fun hsel hHeld => ?_)
          generalize hwz : World.drew _ = wd at HSX HXD HOD hHeld ⊢
          clear hwz
          refine oneA 0 30 hsel (h := ?_)
          simp only [Act.put, List.setIfInBounds_toArray, List.set_cons_zero, List.set_cons_succ]
          refine oneA 1 31 hsel (h := ?_)
          simp only [Act.put, List.setIfInBounds_toArray, List.set_cons_zero, List.set_cons_succ]
          refine oneA 2 32 hsel (h := ?_)
          simp only [Act.put, List.setIfInBounds_toArray, List.set_cons_zero, List.set_cons_succ]
          refine oneA 3 33 hsel (h := ?_)
          simp only [Act.put, List.setIfInBounds_toArray, List.set_cons_zero, List.set_cons_succ]
          refine oneA 4 34 hsel (h := ?_)
          simp only [Act.put, List.setIfInBounds_toArray, List.set_cons_zero, List.set_cons_succ]
          refine oneA 5 35 hsel (h := ?_)
          simp only [Act.put, List.setIfInBounds_toArray, List.set_cons_zero, List.set_cons_succ]
          refine oneA 6 36 hsel (h := ?_)
          simp only [Act.put, List.setIfInBounds_toArray, List.set_cons_zero, List.set_cons_succ]
          refine oneA 7 37 hsel (h := ?_)
          simp only [Act.put, List.setIfInBounds_toArray, List.set_cons_zero, List.set_cons_succ]
          refine oneA 8 38 hsel (h := ?_)
          simp only [Act.put, List.setIfInBounds_toArray, List.set_cons_zero, List.set_cons_succ]
          refine oneA 9 39 hsel (h := ?_)
          simp only [Act.put, List.setIfInBounds_toArray, List.set_cons_zero, List.set_cons_succ]
          refine oneA 10 40 hsel (h := ?_)
          simp only [Act.put, List.setIfInBounds_toArray, List.set_cons_zero, List.set_cons_succ]
          refine oneA 11 41 hsel (h := ?_)
          simp only [Act.put, List.setIfInBounds_toArray, List.set_cons_zero, List.set_cons_succ]
          refine oneA 12 42 hsel (h := ?_)
          simp only [Act.put, List.setIfInBounds_toArray, List.set_cons_zero, List.set_cons_succ]
          refine oneA 13 43 hsel (h := ?_)
          simp only [Act.put, List.setIfInBounds_toArray, List.set_cons_zero, List.set_cons_succ]
          refine oneA 14 44 hsel (h := ?_)
          simp only [Act.put, List.setIfInBounds_toArray, List.set_cons_zero, List.set_cons_succ]
          refine oneA 15 45 hsel (h := ?_)
          simp only [Act.put, List.setIfInBounds_toArray, List.set_cons_zero, List.set_cons_succ]
          refine oneA 16 46 hsel (h := ?_)
          simp only [Act.put, List.setIfInBounds_toArray, List.set_cons_zero, List.set_cons_succ]
          refine oneA 17 47 hsel (h := ?_)
          simp only [Act.put, List.setIfInBounds_toArray, List.set_cons_zero, List.set_cons_succ]
          refine wpAnyL_done (by kernel_rfl) (by kernel_rfl) ?_ _
          clear hsel hHeld
          obtain ⟨k2, rfl⟩ : ∃ k : Nat, K2 = (k : Int) := ⟨K2.toNat, by omega⟩
          have hkt : k2 < t := by omega
          obtain ⟨kb, ko, kd9, KP, kp, hRe, _, hkd, _, kref, _⟩ := kds_at (HND.out.later HXD.out).2.2 hkt
          subst hRe
          obtain ⟨ref, href⟩ : ∃ z, z = kd9.2 := ⟨_, rfl⟩
          rw [← href] at kref
          obtain ⟨lb, hlb⟩ : ∃ z, z = decide (side = -1) := ⟨_, rfl⟩
          have b9 : (side == -1) = lb := by rw [hlb]; rfl
          have hwc : Lat Ex w0 wd := H00.out.trans (HOD.out.mono fun k hk => .inr (by have h1 := HBB.out.1; have h2 := HGB.out.1; have h3 : k = g := hk; omega))
          have HED : Hid (∀ W, Only (wd.heap.size ≤ ·) wd W → Calls Try.prog 30 #[S, .int .i64 ref, .bool lb] W (DownOwn W (ed lb ref))) := Lib.hid (fun W hW => HEG.out W (lat_new hwc hW) lb ref)
          have KS7 : Hid (∀ W : World, Only (wd.heap.size ≤ ·) wd W → (fun W : World => W.cell? ⟨cb, 0, none⟩ = some (S) ∧ W.cell? ⟨g, i * 5 + 3, none⟩ = some (.slice (some ⟨kb, ko, none⟩) t r9) ∧ W.cell? ⟨g, i * 5 + 4, none⟩ = some (.int .i64 (k2 : Nat)) ∧ W.cell? ⟨kb, ko + k2 * 2 + 1, none⟩ = some (.int .i64 ref)) W) := Lib.hid (fun W hW => ⟨((HC.out.only HOD.out HGC.out).later hW).cell 0, cu_cell HSX.out.2 hW, cu_cell HSX.out.1 hW, cu_cell kref hW⟩)
          have HKR : Hid (kidRef s.2.1 k2 = ref) := Lib.hid (by unfold kidRef; rw [hkd, href]; rfl)
          have HLB := Lib.hid hlb
          have HXE : Hid (Only (wd.heap.size ≤ ·) wd wd.drew) := Lib.hid (Only.refl _ wd).drew
          have HS7 := Lib.hid (KS7.out _ HXE.out)
          have HKT := Lib.hid hkt
          clear HNX kref hkd href hlb hwc
          go_upto_region 7 with (fail)
          refine wp_region_list (B := [false, false, false, false, false, false, false, false, false, false, false, false, false, false, false, false, false, false, false, false, false, false, false, false]) (S := (fun W : World => W.cell? ⟨cb, 0, none⟩ = some (S) ∧ W.cell? ⟨g, i * 5 + 3, none⟩ = some (.slice (some ⟨kb, ko, none⟩) t r9) ∧ W.cell? ⟨g, i * 5 + 4, none⟩ = some (.int .i64 (k2 : Nat)) ∧ W.cell? ⟨kb, ko + k2 * 2 + 1, none⟩ = some (.int .i64 ref))) (by kernel_rfl) (by kernel_rfl) (by kernel_rfl) HS7.out (fun hsel hHeld => ?_)
          generalize hwz : World.drew _ = we at HS7 HXE hHeld ⊢
          clear hwz
          refine oneA 0 49 hsel (h := ?_)
          simp only [Act.put, List.setIfInBounds_toArray, List.set_cons_zero, List.set_cons_succ]
          refine oneA 1 50 hsel (h := ?_)
          simp only [Act.put, List.setIfInBounds_toArray, List.set_cons_zero, List.set_cons_succ]
          refine oneA 2 51 hsel (h := ?_)
          simp only [Act.put, List.setIfInBounds_toArray, List.set_cons_zero, List.set_cons_succ]
          refine oneA 3 52 hsel (h := ?_)
          simp only [Act.put, List.setIfInBounds_toArray, List.set_cons_zero, List.set_cons_succ]
          refine oneA 4 53 hsel (h := ?_)
          simp only [Act.put, List.setIfInBounds_toArray, List.set_cons_zero, List.set_cons_succ]
          refine oneA 5 54 hsel (h := ?_)
          simp only [Act.put, List.setIfInBounds_toArray, List.set_cons_zero, List.set_cons_succ]
          refine oneA 6 55 hsel (h := ?_)
          simp only [Act.put, List.setIfInBounds_toArray, List.set_cons_zero, List.set_cons_succ]
          refine oneA 7 56 hsel (h := ?_)
          simp only [Act.put, List.setIfInBounds_toArray, List.set_cons_zero, List.set_cons_succ]
          refine oneA 8 57 hsel (h := ?_)
          simp only [Act.put, List.setIfInBounds_toArray, List.set_cons_zero, List.set_cons_succ]
          refine oneA 9 58 hsel (h := ?_)
          simp only [Act.put, List.setIfInBounds_toArray, List.set_cons_zero, List.set_cons_succ]
          refine oneA 10 59 hsel (h := ?_)
          simp only [Act.put, List.setIfInBounds_toArray, List.set_cons_zero, List.set_cons_succ]
          refine oneA 11 60 hsel (h := ?_)
          simp only [Act.put, List.setIfInBounds_toArray, List.set_cons_zero, List.set_cons_succ]
          refine oneA 12 61 hsel (h := ?_)
          simp only [Act.put, List.setIfInBounds_toArray, List.set_cons_zero, List.set_cons_succ]
          refine oneA 13 62 hsel (h := ?_)
          simp only [Act.put, List.setIfInBounds_toArray, List.set_cons_zero, List.set_cons_succ]
          refine oneA 14 63 hsel (h := ?_)
          simp only [Act.put, List.setIfInBounds_toArray, List.set_cons_zero, List.set_cons_succ]
          refine oneA 15 64 hsel (h := ?_)
          simp only [Act.put, List.setIfInBounds_toArray, List.set_cons_zero, List.set_cons_succ]
          refine oneA 16 65 hsel (h := ?_)
          simp only [Act.put, List.setIfInBounds_toArray, List.set_cons_zero, List.set_cons_succ]
          refine oneA 17 66 hsel (h := ?_)
          simp only [Act.put, List.setIfInBounds_toArray, List.set_cons_zero, List.set_cons_succ]
          refine wpAnyL_ready (rs := [18]) (by kernel_rfl) (by kernel_rfl) (by simp) ?_
          refine AllReadyL.cons (o := ?_) ?_ (fun K hK => ?_) AllReadyL.nil
          case refine_2 => (simp only [List.getElem?_cons_succ, List.getElem?_cons_zero]; rfl)
          go_simp
          (go_at_call 30; (with_reducible refine (HED.out _ HXE.out).mono ?_); rintro e w7 ⟨⟨A7, n7, c7, er, p7, B7, C7, rfl, he7, hl7, hB7, hown7, hden7⟩, ho⟩; have HE7 := Lib.hid he7; have HL7 := Lib.hid (And.intro hl7 (And.intro (Nat.le_trans HXE.out.size hB7) (And.intro hown7 hden7))); have HX7 := Lib.hid (on_new HXE.out ho); clear he7 hl7 hB7 hown7 hden7 ho)
          go_wp2_with (fail)
          clear hHeld
          refine hK.out _ _ (KS7.out _ HX7.out) (fun hHeld => ?_)
          clear hK K
          try simp only [List.set_cons_zero, List.set_cons_succ]
          refine oneA 19 48 hsel (h := ?_)
          simp only [Act.put, List.setIfInBounds_toArray, List.set_cons_zero, List.set_cons_succ]
          refine oneA 20 68 hsel (h := ?_)
          simp only [Act.put, List.setIfInBounds_toArray, List.set_cons_zero, List.set_cons_succ]
          refine oneA 21 69 hsel (h := ?_)
          simp only [Act.put, List.setIfInBounds_toArray, List.set_cons_zero, List.set_cons_succ]
          refine oneA 22 10 hsel (h := ?_)
          simp only [Act.put, List.setIfInBounds_toArray, List.set_cons_zero, List.set_cons_succ]
          refine oneA 23 11 hsel (h := ?_)
          simp only [Act.put, List.setIfInBounds_toArray, List.set_cons_zero, List.set_cons_succ]
          refine wpAnyL_done (by kernel_rfl) (by kernel_rfl) ?_ _
          clear hsel hHeld
          go_upto_region 8 with (fail)
          have HP7 : Hid (PathO D B w7 (some ⟨g, 0, none⟩) n c (p2.set i (s.1, s.2.1, (k2 : Int)))) := Lib.hid (HP5.out.later (on_new HXD.out HX7.out))
          have hic : i + 1 ≤ n := by have h1 := HZ.out; have h2 := HNL.out; omega
          have HPC := Lib.hid (HP7.out.cut hic (by omega))
          have hnc : i + 1 ≤ c := by obtain ⟨C, _, h3, _⟩ := HPC.out; obtain ⟨A', c', e', _, _, h5, _⟩ := raw_of_own h3; cases e'; exact h5
          have d1 : wrap64 ((i : Int) + 1) = ((i + 1 : Nat) : Int) := by rw [IntWalk.wrap64_in _ (by have h1 := HZ.out; have h2 := HNL.out; omega)]; omega
          have d2 : i + 1 ≤ c := hnc
          have HPB : Hid (PathK B7 w7 A7 n7 c7 p7) := Lib.hid ⟨C7, HL7.out.1, HL7.out.2.2.1, HL7.out.2.2.2⟩
          have HGW : Hid (g < B7) := Lib.hid (by have h1 := HGB.out.2; have h2 := HOD.out.size; have h3 := HL7.out.2.1; omega)
          have HBW : Hid (∀ j, D j → j < w7.heap.size) := Lib.hid (fun j hj => by have h1 := HBB.out.2 j hj; have h2 := HOD.out.size; have h3 := HX7.out.size; omega)
          have HDB : Hid (∀ j, D j → j < B7) := Lib.hid (fun j hj => by have h1 := HBB.out.2 j hj; have h2 := HOD.out.size; have h3 := HL7.out.2.1; omega)
          have HN7 : Hid (n7 ≤ 12) := Lib.hid (by rw [HL7.out.1]; have h9 := HEL.out lb ref; rw [← HE7.out] at h9; exact h9)
          have HLIM : Hid (i + 1 + n7 ≤ 1000) := Lib.hid (by have h1 := HN7.out; have h2 := HNL.out; omega)
          go_upto_region 9 with (at_builtin; (refine wpList_path_app rfl (.tmp 73) (.tmp 74) rfl D B g (i + 1) c _ HPC.out (Nat.succ_pos i) B7 A7 n7 c7 p7 HPB.out HGW.out HBW.out HDB.out HLIM.out rfl rfl (fun A' c' w8 hp8 ho8 => ?_); have HP8 := Lib.hid hp8; have HO8 := Lib.hid ho8; clear hp8 ho8))
          clear d1 d2 hnc
          have HPP : Hid (asideG ed side p = some (er, p.take i ++ (s.1, s.2.1, (k2 : Int)) :: p7)) := Lib.hid (by
            have h1 := HSX0.out
            have h2 : p.drop i = s :: p.drop (i + 1) := List.drop_eq_getElem_cons (by rw [← h1.2.2.2.2.1]; have h3 := HZ.out; have h4 := HNL.out; omega) |>.trans (by rw [(List.getElem?_eq_some_iff.1 h1.2.1).2])
            have h5 : p.drop (i + 1) ≠ [] := by
              intro e
              have h6 := congrArg List.length e
              rw [List.length_drop, ← h1.2.2.2.2.1] at h6
              have h3 := HZ.out
              have h4 := HNL.out
              simp only [List.length_nil] at h6
              omega
            have h7 : asideG ed side (p.drop i) = some (er, (s.1, s.2.1, (k2 : Int)) :: p7) := by
              rw [h2, asideG_cons h5, HDR.out]
              simp only
              have h8 := h1.2.2.2.1
              have h9 := HTL.out
              have hq := HE7.out
              rw [← h8, if_pos ⟨Int.natCast_nonneg _, by have h3 : k2 < t := hkt; omega⟩, Int.toNat_natCast, HKR.out, ← HLB.out, ← hq]
            have h10 := aside_app (by simp [h2]) h7 (p.take i)
            rw [List.take_append_drop] at h10
            exact h10)
          have HPT : Hid ((p2.set i (s.1, s.2.1, (k2 : Int))).take (i + 1) ++ p7 = p.take i ++ (s.1, s.2.1, (k2 : Int)) :: p7) := Lib.hid (by
            have h1 := HSX0.out.1
            have hil := (List.getElem?_eq_some_iff.1 h1).1
            rw [List.take_add_one, List.getElem?_set_self hil, List.take_set_of_le (Nat.le_refl i), List.append_assoc]
            have h3 := congrArg (List.take i) HTK.out.2
            rw [List.take_take, List.take_take, Nat.min_eq_left (Nat.le_succ i)] at h3
            rw [h3]
            rfl)
          obtain ⟨N8, hN8⟩ : ∃ z, z = i + 1 + n7 := ⟨_, rfl⟩
          rw [← hN8] at HP8 ⊢
          have HPL : Hid ((p.take i ++ (s.1, s.2.1, (k2 : Int)) :: p7).length = N8) := Lib.hid (by
            obtain ⟨C, h3, _⟩ := HP8.out
            rw [h3, HPT.out])
          have HFP : Hid (PathO D B w8 A' N8 c' (p.take i ++ (s.1, s.2.1, (k2 : Int)) :: p7)) := Lib.hid (by rw [← HPT.out]; exact HP8.out)
          have HFO : Hid (Only (fun j => j = g ∨ w.heap.size ≤ j) w w8) := Lib.hid (((HOD.out.mono fun k h => .inl h).trans ((on_new (Only.refl _ _) HX7.out).mono fun k h => .inr (Nat.le_trans HOD.out.size h))).trans (HO8.out.mono fun k h => h.imp id fun h => Nat.le_trans (Nat.le_trans HOD.out.size HX7.out.size) h))
          clear hN8 b9
          by_cases e0 : er = 0
          · subst e0
            by_cases h12 : 12 < N8
            · have h13 : (12 : Int) < (N8 : Int) := by omega
              go_wp2
              go_ret2
              exact ⟨HFO.out, .inr ⟨_, _, A', N8, c', HPP.out, by rw [HPL.out, if_pos ⟨rfl, h12⟩]; rfl, fun _ => HFP.out⟩⟩
            · have h13 : ¬ (12 : Int) < (N8 : Int) := by omega
              go_wp2
              go_ret2
              exact ⟨HFO.out, .inr ⟨_, _, A', N8, c', HPP.out, by rw [HPL.out, if_neg (fun h => h12 h.2)]; rfl, fun _ => HFP.out⟩⟩
          · have HE0 := Lib.hid e0
            go_wp2
            go_ret2
            exact ⟨HFO.out, .inr ⟨_, _, A', N8, c', HPP.out, by rw [HPL.out, if_neg (fun h => HE0.out h.1)]; rfl, fun _ => HFP.out⟩⟩
end Go.Proofs.Ytnjhpjpeeehagaa
