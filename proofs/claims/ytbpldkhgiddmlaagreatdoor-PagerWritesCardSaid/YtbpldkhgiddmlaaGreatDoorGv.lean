/-
  Mrd Mdd Mdc Mch Mal Mpl: as one text.
-/
import Derived.Test.YtbpldkhgiddmlaaGreatDoorGt
import Derived.Test.YtbpldkhgiddmlaaGreatDoorGa
import Derived.Lib.SmallJoins
/-
  Metas: read.
-/
set_option linter.unusedVariables false
namespace Go.Proofs.YtbpldkhgiddmlaaGreatDoor
open Go.RowKit

theorem load_meta {w : World} {q : Nat} {a b c d e f g : Int} {A : Option Addr} {n k : Nat} (h : Blk w q 45 [.int .i64 a, .int .i64 b, .int .i64 c, .int .i64 d, .int .i64 e, .int .i64 f, .int .i64 g, .slice A n k]) : (loadVar 45 ⟨q, 0, none⟩).run Tryz.prog w = .ok (.agg #[.int .i64 a, .int .i64 b, .int .i64 c, .int .i64 d, .int .i64 e, .int .i64 f, .int .i64 g, .slice A n k]) w := by
  have hl := run_loadCells_list (P := Tryz.prog) w ⟨q, 0, none⟩ [.int .i64 a, .int .i64 b, .int .i64 c, .int .i64 d, .int .i64 e, .int .i64 f, .int .i64 g, .slice A n k] (fun j z hz => by rw [Addr.add_lit, h.cell, Nat.zero_add]; exact hz)
  simp only [List.length_cons, List.length_nil] at hl
  simp [loadVar, hl]
/-- A meta came back. -/
def GaveMt (w : World) (M : List Int) (xs : Bytes) (e : Ending) (w' : World) : Prop := ∃ (g ph t x r p l : Int) (A : Option Addr) (n c : Nat), M = [g, ph, t, x, r, p, l] ∧ n = xs.length ∧ e = .returned (.agg #[.int .i64 g, .int .i64 ph, .int .i64 t, .int .i64 x, .int .i64 r, .int .i64 p, .int .i64 l, .slice A n c]) ∧ New w' w.heap.size (.slice A n c) xs ∧ Only (w.heap.size ≤ ·) w w'
/-- What stands while a page is read. -/
structure DecS (w : World) (bm bR B p q : Nat) (M : List Int) (cv : Value) (W : World) (c : Cur) : Prop where
  ho : Only (w.heap.size ≤ ·) w W
  cells : Cells7 W bm M cv
  res : Blk W bR 45 [.int .i64 0, .int .i64 0, .int .i64 0, .int .i64 0, .int .i64 0, .int .i64 0, .int .i64 0, .slice none 0 0]
  arr : At7 W B bm
  hold : Holds W p q 165 c
  lo : w.heap.size ≤ bm ∧ w.heap.size ≤ bR ∧ bm ≠ bR ∧ B ≠ bm ∧ bm < p ∧ bm < q ∧ B < p ∧ B < q ∧ bR < p ∧ bR < q ∧ p < W.heap.size ∧ q < W.heap.size
section
variable {w W W' : World} {bm bR B p q : Nat} {M M' : List Int} {cv cv' : Value} {c c' : Cur}
theorem DecS.nb (h : DecS w bm bR B p q M cv W c) : B ≠ p ∧ B ≠ bm := by have := h.lo; omega
theorem DecS.nm (h : DecS w bm bR B p q M cv W c) : bm ≠ p ∧ bm ≠ q := by have := h.lo; omega
theorem DecS.step (h : DecS w bm bR B p q M cv W c) (hh : Holds W' p q 165 c') (ho : Only (· = p) W W') : DecS w bm bR B p q M cv W' c' :=
  ⟨h.ho.trans (ho.mono fun j hj => by have := h.lo; omega), h.cells.only ho (by have := h.lo; omega), h.res.only ho (by have := h.lo; omega), h.arr.only ho (by have := h.lo; omega), hh, by have := h.lo; have := ho.size; omega⟩
theorem DecS.got (h : DecS w bm bR B p q M cv W c) (hh : Holds W' p q 165 c') (hc : Cells7 W' bm M' cv) (ho : Only (fun j => j = p ∨ j = bm) W W') : DecS w bm bR B p q M' cv W' c' :=
  ⟨h.ho.trans (ho.mono fun j hj => by have := h.lo; omega), hc, h.res.only ho (by have := h.lo; omega), h.arr.only ho (by have := h.lo; omega), hh, by have := h.lo; have := ho.size; omega⟩
theorem DecS.readb (h : DecS w bm bR B p q M cv W c) (hh : Holds W' p q 165 c') (ho : Only (fun k => k = p ∨ W.heap.size ≤ k) W W') : DecS w bm bR B p q M cv W' c' :=
  ⟨h.ho.trans (ho.mono fun j hj => by have := h.lo; have := h.ho.size; omega), h.cells.only ho (by have := h.lo; omega), h.res.only ho (by have := h.lo; omega), h.arr.only ho (by have := h.lo; omega), hh, by have := h.lo; have := ho.size; omega⟩
theorem DecS.later (h : DecS w bm bR B p q M cv W c) (ho : Only (W.heap.size ≤ ·) W W') : DecS w bm bR B p q M cv W' c :=
  ⟨on_new h.ho ho, h.cells.only ho (by have := h.lo; omega), h.res.only ho (by have := h.lo; omega), h.arr.only ho (by have := h.lo; omega), h.hold.later ho, by have := h.lo; have := ho.size; omega⟩
theorem DecS.drew (h : DecS w bm bR B p q M cv W c) : DecS w bm bR B p q M cv W.drew c := h.later (Only.refl _ _).drew
theorem DecS.at0 (h : DecS w bm bR B p q M cv W c) {g : Int} (hg : M[0]? = some g) : W.cell? ⟨bm, 0, none⟩ = some (.int .i64 g) := h.cells.at_ hg
end
/-- The reader's way. -/
def rC0 (b : Bytes) : Cur := (Cur.new b).take 4
def rG1 (b : Bytes) : Cur × List Int := gets 1 3 0 (rC0 b) [0, 0, 0, 0, 0, 0, 0]
def rLong (b : Bytes) : Int := (rG1 b).1.val 1
def rGen (b : Bytes) : Int := (rC0 b).val 1
def rG2 (b : Bytes) : Cur × List Int := gets (tr (rGen b) 4 8 8) 4 3 ((rG1 b).1.get 1) (rG1 b).2
def rCursor (b : Bytes) : Bytes := (rG2 b).1.got (rLong b)
theorem gets_len (k : Int) : ∀ (n o : Nat) (c : Cur) (M : List Int), (gets k n o c M).2.length = M.length
  | 0, _, _, _ => rfl
  | n + 1, o, c, M => (gets_len k n (o + 1) _ _).trans (List.length_set ..)
theorem rG1_gen (b : Bytes) : (rG1 b).2[0]? = some (rGen b) := rfl
theorem rG2_gen (b : Bytes) : (rG2 b).2[0]? = some (rGen b) := rfl
theorem rG2_len (b : Bytes) : (rG2 b).2.length = 7 := by unfold rG2 rG1; rw [gets_len, gets_len]; rfl
set_option maxRecDepth 100000 in
set_option maxHeartbeats 12800000 in
theorem Mread_c (w : World) (v : Value) (b : Bytes) (hG : Gens w) (hs : Src w v b) (hn : b.length ≤ 65536) : Calls Tryz.prog 95 #[v] w (GaveMt w (rG2 b).2 (rCursor b)) := by
  obtain ⟨w1, hw1⟩ : ∃ W0, W0 = (w.alloc (.cells #[.int .i64 0, .int .i64 0, .int .i64 0, .int .i64 0, .int .i64 0, .int .i64 0, .int .i64 0, .slice none 0 0] 45)).alloc (.cells #[.int .i64 0, .int .i64 0, .int .i64 0, .int .i64 0, .int .i64 0, .int .i64 0, .int .i64 0, .slice none 0 0] 45) := ⟨_, rfl⟩
  have HO : Hid (Only (w.heap.size ≤ ·) w w1) := Lib.hid (by rw [hw1]; exact ((Only.refl _ w).alloc (fun _ h => h) _).alloc (fun _ h => h) _)
  have HR : Hid (Blk w1 w.heap.size 45 [.int .i64 0, .int .i64 0, .int .i64 0, .int .i64 0, .int .i64 0, .int .i64 0, .int .i64 0, .slice none 0 0]) := Lib.hid (by rw [hw1]; exact (Blk.new w 45 _).alloc _)
  have HA : Hid (Blk w1 (w.heap.size + 1) 45 [.int .i64 0, .int .i64 0, .int .i64 0, .int .i64 0, .int .i64 0, .int .i64 0, .int .i64 0, .slice none 0 0]) := Lib.hid (by
    rw [hw1]
    have := Blk.new (w.alloc (.cells #[.int .i64 0, .int .i64 0, .int .i64 0, .int .i64 0, .int .i64 0, .int .i64 0, .int .i64 0, .slice none 0 0] 45)) 45 [.int .i64 0, .int .i64 0, .int .i64 0, .int .i64 0, .int .i64 0, .int .i64 0, .int .i64 0, .slice none 0 0]
    simpa using this)
  have HF : Hid (∀ W b, Calls Tryz.prog 60 #[.pointer (some ⟨b, 0, none⟩)] W (Told W (.agg #[.pointer (some ⟨b, 0, none⟩), .pointer (some ⟨b, 1, none⟩), .pointer (some ⟨b, 2, none⟩), .pointer (some ⟨b, 3, none⟩), .pointer (some ⟨b, 4, none⟩), .pointer (some ⟨b, 5, none⟩), .pointer (some ⟨b, 6, none⟩)]))) := Lib.hid fun W b => fields_c W b
  obtain ⟨gg, hgg⟩ : ∃ gg, gg = rGen b := ⟨_, rfl⟩
  have HGG : Hid ((rG1 b).2[0]? = some gg) := Lib.hid (by rw [hgg]; exact rG1_gen b)
  have HG2 : Hid ((rG2 b).2[0]? = some gg) := Lib.hid (by rw [hgg]; exact rG2_gen b)
  have HWD : Hid (∀ W, Only (w.heap.size ≤ ·) w W → Calls Tryz.prog 85 #[.int .i64 gg] W (Told W (.int .i64 (tr (rGen b) 4 8 8)))) := Lib.hid fun W hW => by rw [hgg]; exact Mwide_c W (rGen b) (hG.later hW)
  have HNR : Hid (∀ W, Only (w.heap.size ≤ ·) w W → Calls Tryz.prog 109 #[v] W (Made W 165 (Cur.new b))) := Lib.hid fun W hW => NewReader_c W v b (hs.later hW) (by omega)
  clear hG hs hn hgg
  go_enter Tryz.func95, Tryz.ntmps95
  go_upto_region 1 with (fail)
  go_upto_region 2 with (fail)
  rw [← hw1]
  clear hw1
  go_upto_region 3 with (go_at_call 60; (with_reducible refine (HF.out _ _).mono ?_); rintro ee w3 ⟨rfl, ho⟩; have HRL : Hid (w.heap.size + 1 < w3.heap.size) := Lib.hid (Nat.lt_of_lt_of_le HA.out.lt ho.size); (replace HA := Lib.hid (HA.out.later ho)); (replace HR := Lib.hid (HR.out.later ho)); (replace HO := Lib.hid (on_new HO.out ho)); clear ho)
  obtain ⟨w4, hw4⟩ : ∃ y, y = w3.alloc (.cells #[.pointer (some ⟨(w.heap.size + 1), 0, none⟩), .pointer (some ⟨(w.heap.size + 1), 1, none⟩), .pointer (some ⟨(w.heap.size + 1), 2, none⟩), .pointer (some ⟨(w.heap.size + 1), 3, none⟩), .pointer (some ⟨(w.heap.size + 1), 4, none⟩), .pointer (some ⟨(w.heap.size + 1), 5, none⟩), .pointer (some ⟨(w.heap.size + 1), 6, none⟩)] 109) := ⟨_, rfl⟩
  have HP : Hid (At7 w4 w3.heap.size (w.heap.size + 1)) := Lib.hid (by rw [hw4]; exact Blk.new w3 109 _)
  replace HA : Hid (Cells7 w4 (w.heap.size + 1) [0, 0, 0, 0, 0, 0, 0] (.slice none 0 0)) := Lib.hid (by rw [hw4]; exact ⟨rfl, HA.out.alloc _⟩)
  replace HR := Lib.hid (HR.out.alloc (.cells #[.pointer (some ⟨(w.heap.size + 1), 0, none⟩), .pointer (some ⟨(w.heap.size + 1), 1, none⟩), .pointer (some ⟨(w.heap.size + 1), 2, none⟩), .pointer (some ⟨(w.heap.size + 1), 3, none⟩), .pointer (some ⟨(w.heap.size + 1), 4, none⟩), .pointer (some ⟨(w.heap.size + 1), 5, none⟩), .pointer (some ⟨(w.heap.size + 1), 6, none⟩)] 109))
  rw [← hw4] at HR
  have HLO : Hid (w.heap.size + 1 < w3.heap.size ∧ w3.heap.size < w4.heap.size) := Lib.hid (by have := HRL.out; rw [hw4]; simp; omega)
  replace HO : Hid (Only (w.heap.size ≤ ·) w w4) := Lib.hid (by rw [hw4]; exact HO.out.alloc (fun _ h => h) _)
  rw [← hw4]
  clear hw4 HRL
  go_upto_region 4 with (go_at_call 109; (with_reducible refine (HNR.out _ HO.out).mono ?_); rintro ee w5 ⟨p', q', rfl, hp, hq, hh, ho, hqs⟩; have HS : Hid (DecS w (w.heap.size + 1) w.heap.size w3.heap.size p' q' [0, 0, 0, 0, 0, 0, 0] (.slice none 0 0) w5 (Cur.new b)) := Lib.hid ⟨on_new HO.out ho, HA.out.only ho (by have := HLO.out; omega), HR.out.only ho (by have := HLO.out; omega), HP.out.only ho (by have := HLO.out; omega), hh, by have := HLO.out; have := hh.lt; omega⟩; clear hh ho hp hq hqs)
  go_upto_region 5 with (go_at_call 86; (with_reducible refine (Skip_c _ _ _ _ _ HS.out.hold _).mono ?_); rintro ee w5 ⟨rfl, hh, ho⟩; (replace HS := Lib.hid (HS.out.step hh ho)); clear hh ho)
  go_upto_region 6 with (go_at_call 110; (with_reducible refine (get_c _ _ _ _ _ _ _ _ _ _ _ _ HS.out.hold HS.out.arr HS.out.cells HS.out.nb HS.out.nm (by decide)).mono ?_); rintro ee w5 ⟨rfl, hh, hc, ho⟩; (replace HS := Lib.hid (HS.out.got hh hc ho)); clear hh hc ho)
  go_upto_region 7 with (go_at_call 111; (with_reducible refine (Get_c _ _ _ _ HS.out.hold _).mono ?_); rintro ee w5 ⟨rfl, hh, ho⟩; (replace HS := Lib.hid (HS.out.step hh ho)); clear hh ho)
  replace HS : Hid (DecS w (w.heap.size + 1) w.heap.size w3.heap.size p' q' (rG1 b).2 (.slice none 0 0) w5 ((rG1 b).1.get 1)) := HS
  replace HS := Lib.hid HS.out.drew
  refine wp_region_list (B := [false, false, false, false, false, false]) (S := (fun W => W.cell? ⟨w.heap.size + 1, 0, none⟩ = some (.int .i64 gg))) (by kernel_rfl) (by kernel_rfl) (by kernel_rfl) (HS.out.at0 HGG.out) (fun hsel hHeld => ?_)
  generalize hwz : World.drew _ = wz at HS hHeld ⊢
  clear hwz
  refine oneA 0 19 hsel (h := ?_)
  simp only [Act.put, lsa, lsz, lss]
  refine oneA 1 20 hsel (h := ?_)
  simp only [Act.put, lsa, lsz, lss]
  refine oneA 2 21 hsel (h := ?_)
  simp only [Act.put, lsa, lsz, lss]
  refine oneA 3 22 hsel (h := ?_)
  simp only [Act.put, lsa, lsz, lss]
  refine wpAnyL_ready (rs := [4]) (by kernel_rfl) (by kernel_rfl) (by simp) ?_
  refine AllReadyL.cons (o := ?_) ?_ (fun K hK => ?_) AllReadyL.nil
  case refine_2 => (simp only [List.getElem?_cons_succ, List.getElem?_cons_zero]; rfl)
  go_simp
  (go_at_call 85; (with_reducible refine (HWD.out _ HS.out.ho).mono ?_); rintro ee w5 ⟨rfl, ho⟩; (replace HS := Lib.hid (HS.out.later ho)); clear ho)
  go_wp2_with (fail)
  clear hHeld
  refine hK.out _ _ (HS.out.at0 HGG.out) (fun hHeld => ?_)
  clear hK K
  try simp only [List.set_cons_zero, List.set_cons_succ]
  refine wpAnyL_ready (rs := [5]) (by kernel_rfl) (by kernel_rfl) (by simp) ?_
  refine AllReadyL.cons (o := ?_) ?_ (fun K hK => ?_) AllReadyL.nil
  case refine_2 => (simp only [List.getElem?_cons_succ, List.getElem?_cons_zero]; rfl)
  go_simp
  (go_at_call 110; (with_reducible refine (get_c _ _ _ _ _ _ _ _ _ _ _ _ HS.out.hold HS.out.arr HS.out.cells HS.out.nb HS.out.nm (by decide)).mono ?_); rintro ee w5 ⟨rfl, hh, hc, ho⟩; (replace HS := Lib.hid (HS.out.got hh hc ho)); clear hh hc ho)
  go_wp2_with (fail)
  clear hHeld
  refine hK.out _ _ (HS.out.at0 HG2.out) (fun hHeld => ?_)
  clear hK K
  try simp only [List.set_cons_zero, List.set_cons_succ]
  refine wpAnyL_done (by kernel_rfl) (by kernel_rfl) ?_ _
  clear hsel hHeld
  replace HS : Hid (DecS w (w.heap.size + 1) w.heap.size w3.heap.size p' q' (rG2 b).2 (.slice none 0 0) w5 (rG2 b).1) := HS
  obtain ⟨g, ph, t, x, r, p, l, hM⟩ : ∃ g ph t x r p l, (rG2 b).2 = [g, ph, t, x, r, p, l] := by
    have h := rG2_len b
    generalize (rG2 b).2 = L at h
    match L, h with
    | [g, ph, t, x, r, p, l], _ => exact ⟨g, ph, t, x, r, p, l, rfl⟩
  rw [hM] at HS
  have HM := Lib.hid hM
  have HBL : Hid (w.heap.size + 1 < w5.heap.size) := Lib.hid (by have := HS.out.lo; omega)
  clear hM HGG HG2 HWD HNR HF HP HA HR HO
  have f7 := HS.out.cells.2.frozen 7
  have c7 : w5.cell? ⟨w.heap.size + 1, 7, none⟩ = some (.slice none 0 0) := HS.out.cells.2.cell 7
  go_upto_region 9 with (go_at_call 112; (with_reducible refine (RBytes_n _ _ _ _ HS.out.hold _).mono ?_); rintro ee w6 ⟨A, c, rfl, hnew, hh, ho⟩; (replace HS := Lib.hid (HS.out.readb hh ho)); have HNW := Lib.hid hnew; clear hnew hh ho f7 c7; have f7 := HS.out.cells.2.frozen 7; have c7 : w6.cell? ⟨w.heap.size + 1, 7, none⟩ = some (.slice none 0 0) := HS.out.cells.2.cell 7)
  generalize hn : List.length ((rG2 b).1.got (((gets 1 3 0 ((Cur.new b).take 4) [0, 0, 0, 0, 0, 0, 0]).1.val 1 : Nat) : Int)) = n at HNW ⊢
  have HNE : Hid (n = (rCursor b).length) := Lib.hid (by rw [← hn]; rfl)
  obtain ⟨W8, hW8⟩ : ∃ y, y = w6.setCell ⟨w.heap.size + 1, 7, none⟩ (.slice A n c) := ⟨_, rfl⟩
  have HB8 : Hid (Blk W8 (w.heap.size + 1) 45 [.int .i64 g, .int .i64 ph, .int .i64 t, .int .i64 x, .int .i64 r, .int .i64 p, .int .i64 l, .slice A n c]) := Lib.hid (by rw [hW8]; exact HS.out.cells.2.set_ 7 (.slice A n c))
  have HR8 : Hid (Blk W8 w.heap.size 45 [.int .i64 0, .int .i64 0, .int .i64 0, .int .i64 0, .int .i64 0, .int .i64 0, .int .i64 0, .slice none 0 0]) := Lib.hid (by rw [hW8]; exact HS.out.res.far (p := ⟨w.heap.size + 1, 7, none⟩) (by have := HS.out.lo; simp) _)
  have HO8 : Hid (Only (w.heap.size ≤ ·) w W8) := Lib.hid (by rw [hW8]; exact HS.out.ho.setCell (p := ⟨w.heap.size + 1, 7, none⟩) (Nat.le_succ _) _)
  have HW68 : Hid (Only (fun j => j = w.heap.size ∨ j = w.heap.size + 1) w6 W8) := Lib.hid (by rw [hW8]; exact (Only.refl _ w6).setCell (p := ⟨w.heap.size + 1, 7, none⟩) (.inr rfl) _)
  rw [← hW8]
  clear f7 c7 hn hW8
  obtain ⟨b0, b1, b2, b3, b4, b5, b6, b7⟩ := HB8.out.eight
  obtain ⟨r0, r1, r2, r3, r4, r5, r6, r7⟩ := HR8.out.eight
  have z0 := HR8.out.frozen 0
  have z1 := HR8.out.frozen 1
  have z2 := HR8.out.frozen 2
  have z3 := HR8.out.frozen 3
  have z4 := HR8.out.frozen 4
  have z5 := HR8.out.frozen 5
  have z6 := HR8.out.frozen 6
  have z7 := HR8.out.frozen 7
  go_wp2
  refine bodyPost_ret (results_cell rfl rfl (load_meta ((((((((HR8.out.set_ 0 (.int .i64 g)).set_ 1 (.int .i64 ph)).set_ 2 (.int .i64 t)).set_ 3 (.int .i64 x)).set_ 4 (.int .i64 r)).set_ 5 (.int .i64 p)).set_ 6 (.int .i64 l)).set_ 7 (.slice A n c)))) rfl ?_
  refine ⟨g, ph, t, x, r, p, l, A, n, c, HM.out, HNE.out, rfl, ?_, ((((((((HO8.out.setCell (p := ⟨w.heap.size, 0, none⟩) (Nat.le_refl _) (.int .i64 g)).setCell (p := ⟨w.heap.size, 1, none⟩) (Nat.le_refl _) (.int .i64 ph)).setCell (p := ⟨w.heap.size, 2, none⟩) (Nat.le_refl _) (.int .i64 t)).setCell (p := ⟨w.heap.size, 3, none⟩) (Nat.le_refl _) (.int .i64 x)).setCell (p := ⟨w.heap.size, 4, none⟩) (Nat.le_refl _) (.int .i64 r)).setCell (p := ⟨w.heap.size, 5, none⟩) (Nat.le_refl _) (.int .i64 p)).setCell (p := ⟨w.heap.size, 6, none⟩) (Nat.le_refl _) (.int .i64 l)).setCell (p := ⟨w.heap.size, 7, none⟩) (Nat.le_refl _) (.slice A n c))⟩
  exact (HNW.out.keep ((((((((HW68.out.setCell (p := ⟨w.heap.size, 0, none⟩) (.inl rfl) (.int .i64 g)).setCell (p := ⟨w.heap.size, 1, none⟩) (.inl rfl) (.int .i64 ph)).setCell (p := ⟨w.heap.size, 2, none⟩) (.inl rfl) (.int .i64 t)).setCell (p := ⟨w.heap.size, 3, none⟩) (.inl rfl) (.int .i64 x)).setCell (p := ⟨w.heap.size, 4, none⟩) (.inl rfl) (.int .i64 r)).setCell (p := ⟨w.heap.size, 5, none⟩) (.inl rfl) (.int .i64 p)).setCell (p := ⟨w.heap.size, 6, none⟩) (.inl rfl) (.int .i64 l)).setCell (p := ⟨w.heap.size, 7, none⟩) (.inl rfl) (.slice A n c)) (fun k h1 _ h3 => by have := HBL.out; omega)).mono (by have := HBL.out; omega)
end Go.Proofs.YtbpldkhgiddmlaaGreatDoor

/-
  Metas: Decode.
-/
set_option linter.unusedVariables false
namespace Go.Proofs.YtbpldkhgiddmlaaGreatDoor
open Go.RowKit

theorem HasPrefix_q (w : World) (bl o n c : Nat) (B : Option Addr) (m k : Nat) (xs ys : Bytes) (h1 : Src w (.slice (some ⟨bl, o, none⟩) n c) xs) (h2 : Src w (.slice B m k) ys) (hm : m ≤ n) (q : Bool) (hq : decide (xs.take m = ys) = q) :
    Calls Tryz.prog 108 #[.slice (some ⟨bl, o, none⟩) n c, .slice B m k] w fun e w' => e = .returned (.bool q) ∧ w = w' := by
  have hn : n = xs.length := by
    obtain ⟨A', c', hv, _⟩ := h1
    injection hv
  have HT1 : Hid (Src w (.slice (some ⟨bl, o, none⟩) m c) (xs.take m)) := by
    obtain ⟨A', c', hv, ht, h3, h4, h5⟩ := h1
    injection hv with e1 e2 e3
    subst e1 e3
    refine Lib.hid ⟨_, c, by rw [List.length_take, Nat.min_eq_left (by omega)], ?_, h3, by rw [List.length_take]; omega, h5⟩
    have := ht.take m (by omega)
    rwa [List.length_take, Nat.min_eq_left (by omega)]
  have HT2 := Lib.hid h2
  have hnc : n ≤ c := by
    obtain ⟨A', c', hv, _, _, h4, _⟩ := h1
    injection hv with e1 e2 e3
    subst e3
    omega
  have i1 : (m : Int) ≤ (n : Int) := by omega
  have i2 : (m : Int) ≤ (c : Int) := by omega
  have i3 : (0 : Int) ≤ (m : Int) := by omega
  have HQ := Lib.hid hq
  clear h1 h2 hn hq
  go_enter Tryz.func108, Tryz.ntmps108
  go_wp2_with (go_at_call 29; (with_reducible refine (Equal_b _ _ _ _ ys q HT1.out HT2.out HQ.out).mono ?_); rintro e w' ⟨rfl, rfl⟩)
  go_ret
  exact ⟨rfl, rfl⟩
theorem src_tail4_at (w : World) (o : Obj) : Src ((w.alloc o).alloc (.cells #[.int .u8 85, .int .u8 65, .int .u8 71, .int .u8 82] 5 (4, 5))) (.slice (some ⟨w.heap.size + 1, 0, none⟩) 4 4) tail4 := by
  have h := src_tail4 (w.alloc o)
  simpa using h
/-- Has it both marks? -/
def markedB (b : Bytes) : Bool := decide (b.length = 256) && (decide (b.take 4 = mark4) && decide ((b.drop 248).take 4 = tail4))
set_option maxRecDepth 100000 in
set_option maxHeartbeats 3200000 in
theorem marked_len (w : World) (A : Option Addr) (n c : Nat) (h : n ≠ 256) : Calls Tryz.prog 93 #[.slice A n c] w (Told w (.bool false)) := by
  have hb : ((n : Int) == 256) = false := by rw [beq_eq_false_iff_ne]; omega
  go_enter Tryz.func93, Tryz.ntmps93
  go_wp2
  go_ret
  exact ⟨rfl, Only.refl _ _⟩
set_option maxRecDepth 100000 in
set_option maxHeartbeats 3200000 in
theorem marked_go (w : World) (bl o c : Nat) (b : Bytes) (hs : Src w (.slice (some ⟨bl, o, none⟩) 256 c) b) (hc : 256 ≤ c) (q1 q2 : Bool) (h1 : decide (b.take 4 = mark4) = q1) (h2 : decide ((b.drop 248).take 4 = tail4) = q2) : Calls Tryz.prog 93 #[.slice (some ⟨bl, o, none⟩) 256 c] w (Told w (.bool (q1 && q2))) := by
  have HSA : Hid (∀ W, Only (w.heap.size ≤ ·) w W → Src W (.slice (some ⟨bl, o, none⟩) 256 c) b) := Lib.hid fun W hW => hs.later hW
  have HSB : Hid (∀ W, Only (w.heap.size ≤ ·) w W → Src W (.slice (some ⟨bl, o + 248, none⟩) 8 (c - 248)) (b.drop 248)) := Lib.hid fun W hW => by
    have h := src_part (hs.later hW) (a := 248) (z := 256) (by omega) (by omega)
    have hl : b.length = 256 := by obtain ⟨A', c', e, _⟩ := hs; injection e with _ e2 _; exact e2.symm
    rwa [show (b.drop 248).take (256 - 248) = b.drop 248 from List.take_of_length_le (by rw [List.length_drop]; omega)] at h
  have HO : Hid (Only (w.heap.size ≤ ·) w w) := Lib.hid (Only.refl _ w)
  have HQ1 := Lib.hid h1
  have HQ2 := Lib.hid h2
  have y1 : (256 : Int) ≤ (c : Int) := by omega
  have y2 : ¬ c = 248 := by omega
  have y3 : 248 ≤ c := by omega
  have kc1 := fun (w : World) => Lib.run_convert_bytes_const (P := Tryz.prog) w 22 5 #[.int .u8 82, .int .u8 71, .int .u8 65, .int .u8 85] 4 4 Tryz.underlying22 Tryz.underlying5
  have kc2 := fun (w : World) (o : Obj) => Joins.run_convert_bytes_const_at (P := Tryz.prog) (w.alloc o) 22 5 #[.int .u8 85, .int .u8 65, .int .u8 71, .int .u8 82] 4 4 (w.heap.size + 1) (by simp) Tryz.underlying22 Tryz.underlying5
  clear hs h1 h2
  cases q1
  · rw [Bool.false_and]
    go_enter Tryz.func93, Tryz.ntmps93
    go_wp2_with (go_at_call 108; (with_reducible refine (HasPrefix_q _ _ _ _ _ _ _ _ _ mark4 (HSA.out _ (HO.out.alloc (fun _ h => h) _)) (src_mark4 _) (by decide) _ HQ1.out).mono ?_); rintro ee w2 ⟨rfl, rfl⟩; (replace HO := Lib.hid (HO.out.alloc (fun _ h => h) (.cells #[.int .u8 82, .int .u8 71, .int .u8 65, .int .u8 85] 5 (4, 5)))))
    go_ret
    exact ⟨rfl, HO.out⟩
  · rw [Bool.true_and]
    go_enter Tryz.func93, Tryz.ntmps93
    go_wp2_with (first
      | (go_at_call 108; (with_reducible refine (HasPrefix_q _ _ _ _ _ _ _ _ _ mark4 (HSA.out _ (HO.out.alloc (fun _ h => h) _)) (src_mark4 _) (by decide) _ HQ1.out).mono ?_); rintro ee w2 ⟨rfl, rfl⟩; (replace HO := Lib.hid (HO.out.alloc (fun _ h => h) (.cells #[.int .u8 82, .int .u8 71, .int .u8 65, .int .u8 85] 5 (4, 5)))))
      | (go_at_call 108; (with_reducible refine (HasPrefix_q _ _ _ _ _ _ _ _ _ tail4 (HSB.out _ (HO.out.alloc (fun _ h => h) _)) (src_tail4_at _ _) (by decide) _ HQ2.out).mono ?_); rintro ee w2 ⟨rfl, rfl⟩; (replace HO := Lib.hid (HO.out.alloc (fun _ h => h) (.cells #[.int .u8 85, .int .u8 65, .int .u8 71, .int .u8 82] 5 (4, 5))))))
    go_ret
    exact ⟨rfl, HO.out⟩
theorem Mmarked_c (w : World) (v : Value) (b : Bytes) (hs : Src w v b) : Calls Tryz.prog 93 #[v] w (Told w (.bool (markedB b))) := by
  obtain ⟨A, c, rfl, ht, _, hc, _⟩ := id hs
  unfold markedB
  by_cases hl : b.length = 256
  · obtain ⟨bl, o, rfl⟩ : ∃ bl o, A = some ⟨bl, o, none⟩ := by
      obtain ⟨ad, ea, hcell⟩ := ht.2 (by omega)
      have e0 := ht.src ad ea 0 (.int .u8 (b[0]'(by omega)).toNat) (by unfold cb; rw [List.getElem?_map, List.getElem?_eq_getElem (by omega)]; rfl)
      have ee : ad.add 0 = ad := by cases ad; simp [Addr.add]
      rw [ee] at e0
      exact ⟨_, _, ea.trans (congrArg some (spotF e0))⟩
    rw [decide_eq_true hl, Bool.true_and]
    rw [hl] at hs hc ⊢
    exact marked_go w bl o c b hs hc _ _ rfl rfl
  · rw [decide_eq_false hl, Bool.false_and]
    exact marked_len w A _ c hl
theorem Sealed_t (w : World) (v : Value) (xs : Bytes) (h : Src w v xs) (hn : xs.length ≤ 65536) : Calls Tryz.prog 94 #[v, .int .i64 252] w (Told w (.bool (isSealed xs 252))) := by
  obtain ⟨A, c, rfl, ht, hA, hc, hm⟩ := h
  exact Sealed_c w A xs.length c xs ht (fun e => ⟨by have := hA e; omega, hA e⟩) (by omega) hc hm 252 (by decide) (by decide)
/-- A meta came back, and an error. -/
def GaveME (w : World) (M : List Int) (xs : Bytes) (z : Int) (e : Ending) (w' : World) : Prop := ∃ (g ph t x r p l : Int) (A : Option Addr) (n c : Nat), M = [g, ph, t, x, r, p, l] ∧ n = xs.length ∧ e = .returned (.tuple #[.agg #[.int .i64 g, .int .i64 ph, .int .i64 t, .int .i64 x, .int .i64 r, .int .i64 p, .int .i64 l, .slice A n c], .int .i64 z]) ∧ New w' w.heap.size (.slice A n c) xs ∧ Only (w.heap.size ≤ ·) w w'
section
variable (w : World) (A : Option Addr) (n c : Nat)
set_option maxRecDepth 100000 in
set_option maxHeartbeats 3200000 in
theorem dec_90 (hMA : ∀ W, Only (w.heap.size ≤ ·) w W → Calls Tryz.prog 93 #[.slice A n c] W (Told W (.bool false))) : Calls Tryz.prog 76 #[.slice A n c] w (GaveME w [0, 0, 0, 0, 0, 0, 0] [] 90) := by
  obtain ⟨w1, hw1⟩ : ∃ W0, W0 = w.alloc (.cells #[.int .i64 0, .int .i64 0, .int .i64 0, .int .i64 0, .int .i64 0, .int .i64 0, .int .i64 0, .slice none 0 0] 45) := ⟨_, rfl⟩
  have HO : Hid (Only (w.heap.size ≤ ·) w w1) := Lib.hid (by rw [hw1]; exact (Only.refl _ w).alloc (fun _ h => h) _)
  have HR : Hid (Blk w1 w.heap.size 45 [.int .i64 0, .int .i64 0, .int .i64 0, .int .i64 0, .int .i64 0, .int .i64 0, .int .i64 0, .slice none 0 0]) := Lib.hid (by rw [hw1]; exact Blk.new w 45 _)
  have HMA := Lib.hid hMA
  clear hMA
  go_enter Tryz.func76, Tryz.ntmps76
  go_upto_region 1 with (fail)
  rw [← hw1]
  clear hw1
  go_upto_region 2 with (go_at_call 93; (with_reducible refine (HMA.out _ HO.out).mono ?_); rintro ee w2 ⟨rfl, ho⟩; (replace HR := Lib.hid (HR.out.later ho)); (replace HO := Lib.hid (on_new HO.out ho)); clear ho)
  obtain ⟨r0, r1, r2, r3, r4, r5, r6, r7⟩ := HR.out.eight
  have z0 := HR.out.frozen 0
  have z1 := HR.out.frozen 1
  have z2 := HR.out.frozen 2
  have z3 := HR.out.frozen 3
  have z4 := HR.out.frozen 4
  have z5 := HR.out.frozen 5
  have z6 := HR.out.frozen 6
  have z7 := HR.out.frozen 7
  go_wp2
  refine bodyPost_ret (results_cell_tmp rfl rfl (load_meta ((((((((HR.out.set_ 0 (.int .i64 0)).set_ 1 (.int .i64 0)).set_ 2 (.int .i64 0)).set_ 3 (.int .i64 0)).set_ 4 (.int .i64 0)).set_ 5 (.int .i64 0)).set_ 6 (.int .i64 0)).set_ 7 (.slice none 0 0)))) rfl ?_
  exact ⟨0, 0, 0, 0, 0, 0, 0, none, 0, 0, rfl, rfl, rfl, New.nil_ _ _, ((((((((HO.out.setCell (p := ⟨w.heap.size, 0, none⟩) (Nat.le_refl _) (.int .i64 0)).setCell (p := ⟨w.heap.size, 1, none⟩) (Nat.le_refl _) (.int .i64 0)).setCell (p := ⟨w.heap.size, 2, none⟩) (Nat.le_refl _) (.int .i64 0)).setCell (p := ⟨w.heap.size, 3, none⟩) (Nat.le_refl _) (.int .i64 0)).setCell (p := ⟨w.heap.size, 4, none⟩) (Nat.le_refl _) (.int .i64 0)).setCell (p := ⟨w.heap.size, 5, none⟩) (Nat.le_refl _) (.int .i64 0)).setCell (p := ⟨w.heap.size, 6, none⟩) (Nat.le_refl _) (.int .i64 0)).setCell (p := ⟨w.heap.size, 7, none⟩) (Nat.le_refl _) (.slice none 0 0))⟩
set_option maxRecDepth 100000 in
set_option maxHeartbeats 3200000 in
theorem dec_91 (hMA : ∀ W, Only (w.heap.size ≤ ·) w W → Calls Tryz.prog 93 #[.slice A n c] W (Told W (.bool true))) (hSE : ∀ W, Only (w.heap.size ≤ ·) w W → Calls Tryz.prog 94 #[.slice A n c, .int .i64 252] W (Told W (.bool false))) : Calls Tryz.prog 76 #[.slice A n c] w (GaveME w [0, 0, 0, 0, 0, 0, 0] [] 91) := by
  obtain ⟨w1, hw1⟩ : ∃ W0, W0 = w.alloc (.cells #[.int .i64 0, .int .i64 0, .int .i64 0, .int .i64 0, .int .i64 0, .int .i64 0, .int .i64 0, .slice none 0 0] 45) := ⟨_, rfl⟩
  have HO : Hid (Only (w.heap.size ≤ ·) w w1) := Lib.hid (by rw [hw1]; exact (Only.refl _ w).alloc (fun _ h => h) _)
  have HR : Hid (Blk w1 w.heap.size 45 [.int .i64 0, .int .i64 0, .int .i64 0, .int .i64 0, .int .i64 0, .int .i64 0, .int .i64 0, .slice none 0 0]) := Lib.hid (by rw [hw1]; exact Blk.new w 45 _)
  have HMA := Lib.hid hMA
  have HSE := Lib.hid hSE
  clear hMA hSE
  go_enter Tryz.func76, Tryz.ntmps76
  go_upto_region 1 with (fail)
  rw [← hw1]
  clear hw1
  go_upto_region 4 with (first
    | (go_at_call 93; (with_reducible refine (HMA.out _ HO.out).mono ?_); rintro ee w2 ⟨rfl, ho⟩; (replace HR := Lib.hid (HR.out.later ho)); (replace HO := Lib.hid (on_new HO.out ho)); clear ho)
    | (go_at_call 94; (with_reducible refine (HSE.out _ HO.out).mono ?_); rintro ee w2 ⟨rfl, ho⟩; (replace HR := Lib.hid (HR.out.later ho)); (replace HO := Lib.hid (on_new HO.out ho)); clear ho))
  obtain ⟨r0, r1, r2, r3, r4, r5, r6, r7⟩ := HR.out.eight
  have z0 := HR.out.frozen 0
  have z1 := HR.out.frozen 1
  have z2 := HR.out.frozen 2
  have z3 := HR.out.frozen 3
  have z4 := HR.out.frozen 4
  have z5 := HR.out.frozen 5
  have z6 := HR.out.frozen 6
  have z7 := HR.out.frozen 7
  go_wp2
  refine bodyPost_ret (results_cell_tmp rfl rfl (load_meta ((((((((HR.out.set_ 0 (.int .i64 0)).set_ 1 (.int .i64 0)).set_ 2 (.int .i64 0)).set_ 3 (.int .i64 0)).set_ 4 (.int .i64 0)).set_ 5 (.int .i64 0)).set_ 6 (.int .i64 0)).set_ 7 (.slice none 0 0)))) rfl ?_
  exact ⟨0, 0, 0, 0, 0, 0, 0, none, 0, 0, rfl, rfl, rfl, New.nil_ _ _, ((((((((HO.out.setCell (p := ⟨w.heap.size, 0, none⟩) (Nat.le_refl _) (.int .i64 0)).setCell (p := ⟨w.heap.size, 1, none⟩) (Nat.le_refl _) (.int .i64 0)).setCell (p := ⟨w.heap.size, 2, none⟩) (Nat.le_refl _) (.int .i64 0)).setCell (p := ⟨w.heap.size, 3, none⟩) (Nat.le_refl _) (.int .i64 0)).setCell (p := ⟨w.heap.size, 4, none⟩) (Nat.le_refl _) (.int .i64 0)).setCell (p := ⟨w.heap.size, 5, none⟩) (Nat.le_refl _) (.int .i64 0)).setCell (p := ⟨w.heap.size, 6, none⟩) (Nat.le_refl _) (.int .i64 0)).setCell (p := ⟨w.heap.size, 7, none⟩) (Nat.le_refl _) (.slice none 0 0))⟩
set_option maxRecDepth 100000 in
set_option maxHeartbeats 6400000 in
theorem dec_93 (hMA : ∀ W, Only (w.heap.size ≤ ·) w W → Calls Tryz.prog 93 #[.slice A n c] W (Told W (.bool true))) (hSE : ∀ W, Only (w.heap.size ≤ ·) w W → Calls Tryz.prog 94 #[.slice A n c, .int .i64 252] W (Told W (.bool true))) (M : List Int) (xs : Bytes) (hRE : ∀ W, Only (w.heap.size ≤ ·) w W → Calls Tryz.prog 95 #[.slice A n c] W (GaveMt W M xs)) (hb : gen (M.getD 0 0) = false ∨ (gen (M.getD 0 0) = true ∧ 3 < M.getD 2 0)) : Calls Tryz.prog 76 #[.slice A n c] w (GaveME w [0, 0, 0, 0, 0, 0, 0] [] 93) := by
  obtain ⟨w1, hw1⟩ : ∃ W0, W0 = w.alloc (.cells #[.int .i64 0, .int .i64 0, .int .i64 0, .int .i64 0, .int .i64 0, .int .i64 0, .int .i64 0, .slice none 0 0] 45) := ⟨_, rfl⟩
  have HO : Hid (Only (w.heap.size ≤ ·) w w1) := Lib.hid (by rw [hw1]; exact (Only.refl _ w).alloc (fun _ h => h) _)
  have HR : Hid (Blk w1 w.heap.size 45 [.int .i64 0, .int .i64 0, .int .i64 0, .int .i64 0, .int .i64 0, .int .i64 0, .int .i64 0, .slice none 0 0]) := Lib.hid (by rw [hw1]; exact Blk.new w 45 _)
  have HMA := Lib.hid hMA
  have HSE := Lib.hid hSE
  have HRE := Lib.hid hRE
  have HBD := Lib.hid hb
  clear hMA hSE hRE hb
  go_enter Tryz.func76, Tryz.ntmps76
  go_upto_region 1 with (fail)
  rw [← hw1]
  clear hw1
  go_upto_region 6 with (first
    | (go_at_call 93; (with_reducible refine (HMA.out _ HO.out).mono ?_); rintro ee w2 ⟨rfl, ho⟩; (replace HR := Lib.hid (HR.out.later ho)); (replace HO := Lib.hid (on_new HO.out ho)); clear ho)
    | (go_at_call 94; (with_reducible refine (HSE.out _ HO.out).mono ?_); rintro ee w2 ⟨rfl, ho⟩; (replace HR := Lib.hid (HR.out.later ho)); (replace HO := Lib.hid (on_new HO.out ho)); clear ho)
    | (go_at_call 95; (with_reducible refine (HRE.out _ HO.out).mono ?_); rintro ee w3 ⟨g, ph, t, x, r, p, l, A2, n2, c2, hM, hn2, rfl, hnw, ho⟩; have HM := Lib.hid hM; have HN2 := Lib.hid hn2; have HBL : Hid (w.heap.size < w2.heap.size) := Lib.hid HR.out.lt; have HNW := Lib.hid hnw; (replace HR := Lib.hid (HR.out.later ho)); (replace HO := Lib.hid (on_new HO.out ho)); clear ho hM hn2 hnw))
  have HL : Hid (M = [g, ph, t, x, r, p, l]) := HM
  obtain ⟨w4, hw4⟩ : ∃ y, y = w3.alloc (.cells #[.int .i64 g, .int .i64 ph, .int .i64 t, .int .i64 x, .int .i64 r, .int .i64 p, .int .i64 l, .slice A2 n2 c2] 45) := ⟨_, rfl⟩
  have HBX : Hid (Blk w4 w3.heap.size 45 [.int .i64 g, .int .i64 ph, .int .i64 t, .int .i64 x, .int .i64 r, .int .i64 p, .int .i64 l, .slice A2 n2 c2]) := Lib.hid (by rw [hw4]; exact Blk.new w3 45 _)
  have HON : Hid (Only (w3.heap.size ≤ ·) w3 w4) := Lib.hid (by rw [hw4]; exact (Only.refl _ w3).alloc (fun _ h => h) _)
  replace HR := Lib.hid (HR.out.later HON.out)
  replace HO := Lib.hid (on_new HO.out HON.out)
  replace HNW := Lib.hid (HNW.out.later HON.out)
  rw [← hw4]
  clear hw4 HON
  obtain ⟨b0, b1, b2, b3, b4, b5, b6, b7⟩ := HBX.out.eight
  have hbd : gen g = false ∨ (gen g = true ∧ 3 < t) := by
    have h := HBD.out
    rw [HL.out] at h
    exact h
  rcases hbd with hg | ⟨hg, ht⟩
  · have HGE : Hid (∀ W, Calls Tryz.prog 70 #[.int .i64 g] W fun e w' => e = .returned (.bool false) ∧ W = w') := Lib.hid fun W => by have h := Gen_c W g; rwa [hg] at h
    clear hg
    go_upto_region 7 with (go_at_call 70; (with_reducible refine (HGE.out _).mono ?_); rintro ee w5 ⟨rfl, rfl⟩)
    clear b0 b1 b2 b3 b4 b5 b6 b7
    obtain ⟨r0, r1, r2, r3, r4, r5, r6, r7⟩ := HR.out.eight
    have z0 := HR.out.frozen 0
    have z1 := HR.out.frozen 1
    have z2 := HR.out.frozen 2
    have z3 := HR.out.frozen 3
    have z4 := HR.out.frozen 4
    have z5 := HR.out.frozen 5
    have z6 := HR.out.frozen 6
    have z7 := HR.out.frozen 7
    go_wp2
    refine bodyPost_ret (results_cell_tmp rfl rfl (load_meta ((((((((HR.out.set_ 0 (.int .i64 0)).set_ 1 (.int .i64 0)).set_ 2 (.int .i64 0)).set_ 3 (.int .i64 0)).set_ 4 (.int .i64 0)).set_ 5 (.int .i64 0)).set_ 6 (.int .i64 0)).set_ 7 (.slice none 0 0)))) rfl ?_
    exact ⟨0, 0, 0, 0, 0, 0, 0, none, 0, 0, rfl, rfl, rfl, New.nil_ _ _, ((((((((HO.out.setCell (p := ⟨w.heap.size, 0, none⟩) (Nat.le_refl _) (.int .i64 0)).setCell (p := ⟨w.heap.size, 1, none⟩) (Nat.le_refl _) (.int .i64 0)).setCell (p := ⟨w.heap.size, 2, none⟩) (Nat.le_refl _) (.int .i64 0)).setCell (p := ⟨w.heap.size, 3, none⟩) (Nat.le_refl _) (.int .i64 0)).setCell (p := ⟨w.heap.size, 4, none⟩) (Nat.le_refl _) (.int .i64 0)).setCell (p := ⟨w.heap.size, 5, none⟩) (Nat.le_refl _) (.int .i64 0)).setCell (p := ⟨w.heap.size, 6, none⟩) (Nat.le_refl _) (.int .i64 0)).setCell (p := ⟨w.heap.size, 7, none⟩) (Nat.le_refl _) (.slice none 0 0))⟩
  · have HGE : Hid (∀ W, Calls Tryz.prog 70 #[.int .i64 g] W fun e w' => e = .returned (.bool true) ∧ W = w') := Lib.hid fun W => by have h := Gen_c W g; rwa [hg] at h
    clear hg
    go_upto_region 7 with (go_at_call 70; (with_reducible refine (HGE.out _).mono ?_); rintro ee w5 ⟨rfl, rfl⟩)
    clear b0 b1 b2 b3 b4 b5 b6 b7 ht
    obtain ⟨r0, r1, r2, r3, r4, r5, r6, r7⟩ := HR.out.eight
    have z0 := HR.out.frozen 0
    have z1 := HR.out.frozen 1
    have z2 := HR.out.frozen 2
    have z3 := HR.out.frozen 3
    have z4 := HR.out.frozen 4
    have z5 := HR.out.frozen 5
    have z6 := HR.out.frozen 6
    have z7 := HR.out.frozen 7
    go_wp2
    refine bodyPost_ret (results_cell_tmp rfl rfl (load_meta ((((((((HR.out.set_ 0 (.int .i64 0)).set_ 1 (.int .i64 0)).set_ 2 (.int .i64 0)).set_ 3 (.int .i64 0)).set_ 4 (.int .i64 0)).set_ 5 (.int .i64 0)).set_ 6 (.int .i64 0)).set_ 7 (.slice none 0 0)))) rfl ?_
    exact ⟨0, 0, 0, 0, 0, 0, 0, none, 0, 0, rfl, rfl, rfl, New.nil_ _ _, ((((((((HO.out.setCell (p := ⟨w.heap.size, 0, none⟩) (Nat.le_refl _) (.int .i64 0)).setCell (p := ⟨w.heap.size, 1, none⟩) (Nat.le_refl _) (.int .i64 0)).setCell (p := ⟨w.heap.size, 2, none⟩) (Nat.le_refl _) (.int .i64 0)).setCell (p := ⟨w.heap.size, 3, none⟩) (Nat.le_refl _) (.int .i64 0)).setCell (p := ⟨w.heap.size, 4, none⟩) (Nat.le_refl _) (.int .i64 0)).setCell (p := ⟨w.heap.size, 5, none⟩) (Nat.le_refl _) (.int .i64 0)).setCell (p := ⟨w.heap.size, 6, none⟩) (Nat.le_refl _) (.int .i64 0)).setCell (p := ⟨w.heap.size, 7, none⟩) (Nat.le_refl _) (.slice none 0 0))⟩
set_option maxRecDepth 100000 in
set_option maxHeartbeats 6400000 in
theorem dec_92 (hMA : ∀ W, Only (w.heap.size ≤ ·) w W → Calls Tryz.prog 93 #[.slice A n c] W (Told W (.bool true))) (hSE : ∀ W, Only (w.heap.size ≤ ·) w W → Calls Tryz.prog 94 #[.slice A n c, .int .i64 252] W (Told W (.bool true))) (M : List Int) (xs : Bytes) (hRE : ∀ W, Only (w.heap.size ≤ ·) w W → Calls Tryz.prog 95 #[.slice A n c] W (GaveMt W M xs)) (hb : gen (M.getD 0 0) = true ∧ M.getD 2 0 ≤ 3) (PB b : Bytes) (z : Int) (hs : ∀ W, Only (w.heap.size ≤ ·) w W → Src W (.slice A n c) b)
    (hEN : ∀ W g ph t x r p l A2 n2 c2, M = [g, ph, t, x, r, p, l] → n2 = xs.length → Only (w.heap.size ≤ ·) w W → Src W (.slice A2 n2 c2) xs → Calls Tryz.prog 65 #[.agg #[.int .i64 g, .int .i64 ph, .int .i64 t, .int .i64 x, .int .i64 r, .int .i64 p, .int .i64 l, .slice A2 n2 c2]] W (GaveBE W PB z)) (hz : z ≠ 0 ∨ (z = 0 ∧ PB ≠ b)) : Calls Tryz.prog 76 #[.slice A n c] w (GaveME w [0, 0, 0, 0, 0, 0, 0] [] 92) := by
  obtain ⟨w1, hw1⟩ : ∃ W0, W0 = w.alloc (.cells #[.int .i64 0, .int .i64 0, .int .i64 0, .int .i64 0, .int .i64 0, .int .i64 0, .int .i64 0, .slice none 0 0] 45) := ⟨_, rfl⟩
  have HO : Hid (Only (w.heap.size ≤ ·) w w1) := Lib.hid (by rw [hw1]; exact (Only.refl _ w).alloc (fun _ h => h) _)
  have HR : Hid (Blk w1 w.heap.size 45 [.int .i64 0, .int .i64 0, .int .i64 0, .int .i64 0, .int .i64 0, .int .i64 0, .int .i64 0, .slice none 0 0]) := Lib.hid (by rw [hw1]; exact Blk.new w 45 _)
  have HMA := Lib.hid hMA
  have HSE := Lib.hid hSE
  have HRE := Lib.hid hRE
  have HBD := Lib.hid hb
  have HEN0 := Lib.hid hEN
  have HSS := Lib.hid hs
  clear hMA hSE hRE hb hEN hs
  go_enter Tryz.func76, Tryz.ntmps76
  go_upto_region 1 with (fail)
  rw [← hw1]
  clear hw1
  go_upto_region 6 with (first
    | (go_at_call 93; (with_reducible refine (HMA.out _ HO.out).mono ?_); rintro ee w2 ⟨rfl, ho⟩; (replace HR := Lib.hid (HR.out.later ho)); (replace HO := Lib.hid (on_new HO.out ho)); clear ho)
    | (go_at_call 94; (with_reducible refine (HSE.out _ HO.out).mono ?_); rintro ee w2 ⟨rfl, ho⟩; (replace HR := Lib.hid (HR.out.later ho)); (replace HO := Lib.hid (on_new HO.out ho)); clear ho)
    | (go_at_call 95; (with_reducible refine (HRE.out _ HO.out).mono ?_); rintro ee w3 ⟨g, ph, t, x, r, p, l, A2, n2, c2, hM, hn2, rfl, hnw, ho⟩; have HM := Lib.hid hM; have HN2 := Lib.hid hn2; have HBL : Hid (w.heap.size < w2.heap.size) := Lib.hid HR.out.lt; have HNW := Lib.hid hnw; (replace HR := Lib.hid (HR.out.later ho)); (replace HO := Lib.hid (on_new HO.out ho)); clear ho hM hn2 hnw))
  have HL : Hid (M = [g, ph, t, x, r, p, l]) := HM
  obtain ⟨w4, hw4⟩ : ∃ y, y = w3.alloc (.cells #[.int .i64 g, .int .i64 ph, .int .i64 t, .int .i64 x, .int .i64 r, .int .i64 p, .int .i64 l, .slice A2 n2 c2] 45) := ⟨_, rfl⟩
  have HBX : Hid (Blk w4 w3.heap.size 45 [.int .i64 g, .int .i64 ph, .int .i64 t, .int .i64 x, .int .i64 r, .int .i64 p, .int .i64 l, .slice A2 n2 c2]) := Lib.hid (by rw [hw4]; exact Blk.new w3 45 _)
  have HON : Hid (Only (w3.heap.size ≤ ·) w3 w4) := Lib.hid (by rw [hw4]; exact (Only.refl _ w3).alloc (fun _ h => h) _)
  replace HR := Lib.hid (HR.out.later HON.out)
  replace HO := Lib.hid (on_new HO.out HON.out)
  replace HNW := Lib.hid (HNW.out.later HON.out)
  rw [← hw4]
  clear hw4 HON
  obtain ⟨b0, b1, b2, b3, b4, b5, b6, b7⟩ := HBX.out.eight
  obtain ⟨hg, ht⟩ : gen g = true ∧ ¬ 3 < t := by
    have h := HBD.out
    rw [HL.out] at h
    exact ⟨h.1, Int.not_lt.2 h.2⟩
  have HGE : Hid (∀ W, Calls Tryz.prog 70 #[.int .i64 g] W fun e w' => e = .returned (.bool true) ∧ W = w') := Lib.hid fun W => by have h := Gen_c W g; rwa [hg] at h
  have HEN : Hid (∀ W A2' c2', Only (w.heap.size ≤ ·) w W → Src W (.slice A2' n2 c2') xs → Calls Tryz.prog 65 #[.agg #[.int .i64 g, .int .i64 ph, .int .i64 t, .int .i64 x, .int .i64 r, .int .i64 p, .int .i64 l, .slice A2' n2 c2']] W (GaveBE W PB z)) := Lib.hid fun W A2' c2' hW hS => HEN0.out W g ph t x r p l A2' n2 c2' HL.out HN2.out hW hS
  clear hg HEN0
  rcases hz with hz | ⟨rfl, hz⟩
  · have hzb : (z != 0) = true := by rw [bne_iff_ne]; exact hz
    go_upto_region 10 with (first
      | (go_at_call 70; (with_reducible refine (HGE.out _).mono ?_); rintro ee w5 ⟨rfl, rfl⟩)
      | (go_at_call 65; (with_reducible refine (HEN.out _ _ _ HO.out HNW.out.src).mono ?_); rintro ee w6 ⟨v6, rfl, hv6, ho⟩; have HV6 := Lib.hid hv6; (replace HR := Lib.hid (HR.out.later ho)); (replace HBX := Lib.hid (HBX.out.later ho)); (replace HNW := Lib.hid (HNW.out.later ho)); (replace HO := Lib.hid (on_new HO.out ho)); clear ho b0 b1 b2 b3 b4 b5 b6 b7 hv6))
    clear ht hz hzb
    obtain ⟨r0, r1, r2, r3, r4, r5, r6, r7⟩ := HR.out.eight
    have z0 := HR.out.frozen 0
    have z1 := HR.out.frozen 1
    have z2 := HR.out.frozen 2
    have z3 := HR.out.frozen 3
    have z4 := HR.out.frozen 4
    have z5 := HR.out.frozen 5
    have z6 := HR.out.frozen 6
    have z7 := HR.out.frozen 7
    go_wp2
    refine bodyPost_ret (results_cell_tmp rfl rfl (load_meta ((((((((HR.out.set_ 0 (.int .i64 0)).set_ 1 (.int .i64 0)).set_ 2 (.int .i64 0)).set_ 3 (.int .i64 0)).set_ 4 (.int .i64 0)).set_ 5 (.int .i64 0)).set_ 6 (.int .i64 0)).set_ 7 (.slice none 0 0)))) rfl ?_
    exact ⟨0, 0, 0, 0, 0, 0, 0, none, 0, 0, rfl, rfl, rfl, New.nil_ _ _, ((((((((HO.out.setCell (p := ⟨w.heap.size, 0, none⟩) (Nat.le_refl _) (.int .i64 0)).setCell (p := ⟨w.heap.size, 1, none⟩) (Nat.le_refl _) (.int .i64 0)).setCell (p := ⟨w.heap.size, 2, none⟩) (Nat.le_refl _) (.int .i64 0)).setCell (p := ⟨w.heap.size, 3, none⟩) (Nat.le_refl _) (.int .i64 0)).setCell (p := ⟨w.heap.size, 4, none⟩) (Nat.le_refl _) (.int .i64 0)).setCell (p := ⟨w.heap.size, 5, none⟩) (Nat.le_refl _) (.int .i64 0)).setCell (p := ⟨w.heap.size, 6, none⟩) (Nat.le_refl _) (.int .i64 0)).setCell (p := ⟨w.heap.size, 7, none⟩) (Nat.le_refl _) (.slice none 0 0))⟩
  · have HPB := Lib.hid hz
    go_upto_region 10 with (first
      | (go_at_call 70; (with_reducible refine (HGE.out _).mono ?_); rintro ee w5 ⟨rfl, rfl⟩)
      | (go_at_call 65; (with_reducible refine (HEN.out _ _ _ HO.out HNW.out.src).mono ?_); rintro ee w6 ⟨v6, rfl, hv6, ho⟩; have HV6 := Lib.hid hv6; (replace HR := Lib.hid (HR.out.later ho)); (replace HBX := Lib.hid (HBX.out.later ho)); (replace HNW := Lib.hid (HNW.out.later ho)); (replace HO := Lib.hid (on_new HO.out ho)); clear ho b0 b1 b2 b3 b4 b5 b6 b7 hv6)
      | (go_at_call 29; (with_reducible refine (Equal_b _ _ _ PB b false HV6.out (HSS.out _ HO.out) (decide_eq_false HPB.out)).mono ?_); rintro ee w' ⟨rfl, rfl⟩))
    clear ht hz
    obtain ⟨r0, r1, r2, r3, r4, r5, r6, r7⟩ := HR.out.eight
    have z0 := HR.out.frozen 0
    have z1 := HR.out.frozen 1
    have z2 := HR.out.frozen 2
    have z3 := HR.out.frozen 3
    have z4 := HR.out.frozen 4
    have z5 := HR.out.frozen 5
    have z6 := HR.out.frozen 6
    have z7 := HR.out.frozen 7
    go_wp2
    refine bodyPost_ret (results_cell_tmp rfl rfl (load_meta ((((((((HR.out.set_ 0 (.int .i64 0)).set_ 1 (.int .i64 0)).set_ 2 (.int .i64 0)).set_ 3 (.int .i64 0)).set_ 4 (.int .i64 0)).set_ 5 (.int .i64 0)).set_ 6 (.int .i64 0)).set_ 7 (.slice none 0 0)))) rfl ?_
    exact ⟨0, 0, 0, 0, 0, 0, 0, none, 0, 0, rfl, rfl, rfl, New.nil_ _ _, ((((((((HO.out.setCell (p := ⟨w.heap.size, 0, none⟩) (Nat.le_refl _) (.int .i64 0)).setCell (p := ⟨w.heap.size, 1, none⟩) (Nat.le_refl _) (.int .i64 0)).setCell (p := ⟨w.heap.size, 2, none⟩) (Nat.le_refl _) (.int .i64 0)).setCell (p := ⟨w.heap.size, 3, none⟩) (Nat.le_refl _) (.int .i64 0)).setCell (p := ⟨w.heap.size, 4, none⟩) (Nat.le_refl _) (.int .i64 0)).setCell (p := ⟨w.heap.size, 5, none⟩) (Nat.le_refl _) (.int .i64 0)).setCell (p := ⟨w.heap.size, 6, none⟩) (Nat.le_refl _) (.int .i64 0)).setCell (p := ⟨w.heap.size, 7, none⟩) (Nat.le_refl _) (.slice none 0 0))⟩
set_option maxRecDepth 100000 in
set_option maxHeartbeats 6400000 in
theorem dec_0 (hMA : ∀ W, Only (w.heap.size ≤ ·) w W → Calls Tryz.prog 93 #[.slice A n c] W (Told W (.bool true))) (hSE : ∀ W, Only (w.heap.size ≤ ·) w W → Calls Tryz.prog 94 #[.slice A n c, .int .i64 252] W (Told W (.bool true))) (M : List Int) (xs : Bytes) (hRE : ∀ W, Only (w.heap.size ≤ ·) w W → Calls Tryz.prog 95 #[.slice A n c] W (GaveMt W M xs)) (hb : gen (M.getD 0 0) = true ∧ M.getD 2 0 ≤ 3) (b : Bytes) (hs : ∀ W, Only (w.heap.size ≤ ·) w W → Src W (.slice A n c) b)
    (hEN : ∀ W g ph t x r p l A2 n2 c2, M = [g, ph, t, x, r, p, l] → n2 = xs.length → Only (w.heap.size ≤ ·) w W → Src W (.slice A2 n2 c2) xs → Calls Tryz.prog 65 #[.agg #[.int .i64 g, .int .i64 ph, .int .i64 t, .int .i64 x, .int .i64 r, .int .i64 p, .int .i64 l, .slice A2 n2 c2]] W (GaveBE W b 0)) : Calls Tryz.prog 76 #[.slice A n c] w (GaveME w M xs 0) := by
  obtain ⟨w1, hw1⟩ : ∃ W0, W0 = w.alloc (.cells #[.int .i64 0, .int .i64 0, .int .i64 0, .int .i64 0, .int .i64 0, .int .i64 0, .int .i64 0, .slice none 0 0] 45) := ⟨_, rfl⟩
  have HO : Hid (Only (w.heap.size ≤ ·) w w1) := Lib.hid (by rw [hw1]; exact (Only.refl _ w).alloc (fun _ h => h) _)
  have HR : Hid (Blk w1 w.heap.size 45 [.int .i64 0, .int .i64 0, .int .i64 0, .int .i64 0, .int .i64 0, .int .i64 0, .int .i64 0, .slice none 0 0]) := Lib.hid (by rw [hw1]; exact Blk.new w 45 _)
  have HMA := Lib.hid hMA
  have HSE := Lib.hid hSE
  have HRE := Lib.hid hRE
  have HBD := Lib.hid hb
  have HEN0 := Lib.hid hEN
  have HSS := Lib.hid hs
  clear hMA hSE hRE hb hEN hs
  go_enter Tryz.func76, Tryz.ntmps76
  go_upto_region 1 with (fail)
  rw [← hw1]
  clear hw1
  go_upto_region 6 with (first
    | (go_at_call 93; (with_reducible refine (HMA.out _ HO.out).mono ?_); rintro ee w2 ⟨rfl, ho⟩; (replace HR := Lib.hid (HR.out.later ho)); (replace HO := Lib.hid (on_new HO.out ho)); clear ho)
    | (go_at_call 94; (with_reducible refine (HSE.out _ HO.out).mono ?_); rintro ee w2 ⟨rfl, ho⟩; (replace HR := Lib.hid (HR.out.later ho)); (replace HO := Lib.hid (on_new HO.out ho)); clear ho)
    | (go_at_call 95; (with_reducible refine (HRE.out _ HO.out).mono ?_); rintro ee w3 ⟨g, ph, t, x, r, p, l, A2, n2, c2, hM, hn2, rfl, hnw, ho⟩; have HM := Lib.hid hM; have HN2 := Lib.hid hn2; have HBL : Hid (w.heap.size < w2.heap.size) := Lib.hid HR.out.lt; have HNW := Lib.hid hnw; (replace HR := Lib.hid (HR.out.later ho)); (replace HO := Lib.hid (on_new HO.out ho)); clear ho hM hn2 hnw))
  have HL : Hid (M = [g, ph, t, x, r, p, l]) := HM
  obtain ⟨w4, hw4⟩ : ∃ y, y = w3.alloc (.cells #[.int .i64 g, .int .i64 ph, .int .i64 t, .int .i64 x, .int .i64 r, .int .i64 p, .int .i64 l, .slice A2 n2 c2] 45) := ⟨_, rfl⟩
  have HBX : Hid (Blk w4 w3.heap.size 45 [.int .i64 g, .int .i64 ph, .int .i64 t, .int .i64 x, .int .i64 r, .int .i64 p, .int .i64 l, .slice A2 n2 c2]) := Lib.hid (by rw [hw4]; exact Blk.new w3 45 _)
  have HON : Hid (Only (w3.heap.size ≤ ·) w3 w4) := Lib.hid (by rw [hw4]; exact (Only.refl _ w3).alloc (fun _ h => h) _)
  replace HR := Lib.hid (HR.out.later HON.out)
  replace HO := Lib.hid (on_new HO.out HON.out)
  replace HNW := Lib.hid (HNW.out.later HON.out)
  rw [← hw4]
  clear hw4 HON
  obtain ⟨b0, b1, b2, b3, b4, b5, b6, b7⟩ := HBX.out.eight
  obtain ⟨hg, ht⟩ : gen g = true ∧ ¬ 3 < t := by
    have h := HBD.out
    rw [HL.out] at h
    exact ⟨h.1, Int.not_lt.2 h.2⟩
  have HGE : Hid (∀ W, Calls Tryz.prog 70 #[.int .i64 g] W fun e w' => e = .returned (.bool true) ∧ W = w') := Lib.hid fun W => by have h := Gen_c W g; rwa [hg] at h
  have HEN : Hid (∀ W A2' c2', Only (w.heap.size ≤ ·) w W → Src W (.slice A2' n2 c2') xs → Calls Tryz.prog 65 #[.agg #[.int .i64 g, .int .i64 ph, .int .i64 t, .int .i64 x, .int .i64 r, .int .i64 p, .int .i64 l, .slice A2' n2 c2']] W (GaveBE W b 0)) := Lib.hid fun W A2' c2' hW hS => HEN0.out W g ph t x r p l A2' n2 c2' HL.out HN2.out hW hS
  clear hg HEN0
  go_upto_region 11 with (first
    | (go_at_call 70; (with_reducible refine (HGE.out _).mono ?_); rintro ee w5 ⟨rfl, rfl⟩)
    | (go_at_call 65; (with_reducible refine (HEN.out _ _ _ HO.out HNW.out.src).mono ?_); rintro ee w6 ⟨v6, rfl, hv6, ho⟩; have HV6 := Lib.hid hv6; (replace HR := Lib.hid (HR.out.later ho)); (replace HBX := Lib.hid (HBX.out.later ho)); (replace HNW := Lib.hid (HNW.out.later ho)); (replace HO := Lib.hid (on_new HO.out ho)); clear ho b0 b1 b2 b3 b4 b5 b6 b7 hv6)
    | (go_at_call 29; (with_reducible refine (Equal_b _ _ _ b b true HV6.out (HSS.out _ HO.out) (by simp)).mono ?_); rintro ee w' ⟨rfl, rfl⟩))
  clear ht
  obtain ⟨b0, b1, b2, b3, b4, b5, b6, b7⟩ := HBX.out.eight
  obtain ⟨r0, r1, r2, r3, r4, r5, r6, r7⟩ := HR.out.eight
  have z0 := HR.out.frozen 0
  have z1 := HR.out.frozen 1
  have z2 := HR.out.frozen 2
  have z3 := HR.out.frozen 3
  have z4 := HR.out.frozen 4
  have z5 := HR.out.frozen 5
  have z6 := HR.out.frozen 6
  have z7 := HR.out.frozen 7
  go_wp2
  refine bodyPost_ret (results_cell_tmp rfl rfl (load_meta ((((((((HR.out.set_ 0 (.int .i64 g)).set_ 1 (.int .i64 ph)).set_ 2 (.int .i64 t)).set_ 3 (.int .i64 x)).set_ 4 (.int .i64 r)).set_ 5 (.int .i64 p)).set_ 6 (.int .i64 l)).set_ 7 (.slice A2 n2 c2)))) rfl ?_
  refine ⟨g, ph, t, x, r, p, l, A2, n2, c2, HL.out, HN2.out, rfl, ?_, ((((((((HO.out.setCell (p := ⟨w.heap.size, 0, none⟩) (Nat.le_refl _) (.int .i64 g)).setCell (p := ⟨w.heap.size, 1, none⟩) (Nat.le_refl _) (.int .i64 ph)).setCell (p := ⟨w.heap.size, 2, none⟩) (Nat.le_refl _) (.int .i64 t)).setCell (p := ⟨w.heap.size, 3, none⟩) (Nat.le_refl _) (.int .i64 x)).setCell (p := ⟨w.heap.size, 4, none⟩) (Nat.le_refl _) (.int .i64 r)).setCell (p := ⟨w.heap.size, 5, none⟩) (Nat.le_refl _) (.int .i64 p)).setCell (p := ⟨w.heap.size, 6, none⟩) (Nat.le_refl _) (.int .i64 l)).setCell (p := ⟨w.heap.size, 7, none⟩) (Nat.le_refl _) (.slice A2 n2 c2))⟩
  exact (HNW.out.keep (((((((((Only.refl (· = w.heap.size) _).setCell (p := ⟨w.heap.size, 0, none⟩) rfl (.int .i64 g)).setCell (p := ⟨w.heap.size, 1, none⟩) rfl (.int .i64 ph)).setCell (p := ⟨w.heap.size, 2, none⟩) rfl (.int .i64 t)).setCell (p := ⟨w.heap.size, 3, none⟩) rfl (.int .i64 x)).setCell (p := ⟨w.heap.size, 4, none⟩) rfl (.int .i64 r)).setCell (p := ⟨w.heap.size, 5, none⟩) rfl (.int .i64 p)).setCell (p := ⟨w.heap.size, 6, none⟩) rfl (.int .i64 l)).setCell (p := ⟨w.heap.size, 7, none⟩) rfl (.slice A2 n2 c2)) (fun k h1 _ h3 => by have := HBL.out; omega)).mono (by have := HBL.out; omega)
end
end Go.Proofs.YtbpldkhgiddmlaaGreatDoor

/-
  Metas: what Decode answers.
-/
set_option linter.unusedVariables false
namespace Go.Proofs.YtbpldkhgiddmlaaGreatDoor
open Go.RowKit

def okL (M : List Int) (n : Nat) : Bool := match M with
  | [g, ph, t, x, r, p, l] => okM g ph t x r p l n
  | _ => false
/-- The page of a meta, as the writer makes it. -/
def encB (M : List Int) (xs : Bytes) : Bytes := sealB (mC M (M.getD 0 0) xs).out 252
theorem mC_len (M : List Int) (g : Int) (xs : Bytes) : (mC M g xs).b.length = 256 := by
  unfold mC
  rw [Cur.write_len, Cur.take_b]
  unfold mC2 mC1
  rw [Cur.write_len, puts_len, Cur.put_len, puts_len, Cur.write_len]
  show (List.replicate (size 256) (0 : UInt8)).length = 256
  rw [List.length_replicate]
  rfl
theorem mC_out (M : List Int) (g : Int) (xs : Bytes) : (mC M g xs).out.length ≤ 65536 := by
  unfold Cur.out
  split
  · exact Nat.zero_le _
  · rw [mC_len]; decide
theorem MEncode_l (W : World) (M : List Int) (xs : Bytes) (hI : ∀ u ∈ M, I64 u) (hG : Gens W) (g ph t x r p l : Int) (A : Option Addr) (n c : Nat) (hM : M = [g, ph, t, x, r, p, l]) (hn : n = xs.length) (hs : Src W (.slice A n c) xs) :
    Calls Tryz.prog 65 #[.agg #[.int .i64 g, .int .i64 ph, .int .i64 t, .int .i64 x, .int .i64 r, .int .i64 p, .int .i64 l, .slice A n c]] W (GaveBE W (if okL M xs.length = true then encB M xs else []) (if okL M xs.length = true then 0 else 92)) := by
  subst hM
  subst hn
  by_cases h : okM g ph t x r p l xs.length = true
  · have h2 : okL [g, ph, t, x, r, p, l] xs.length = true := h
    rw [if_pos h2, if_pos h2]
    exact MEncode_yes W g ph t x r p l A xs.length c hG xs hs rfl hI h (mC_out _ _ _)
  · have h2 : ¬ okL [g, ph, t, x, r, p, l] xs.length = true := h
    rw [if_neg h2, if_neg h2]
    exact MEncode_no W g ph t x r p l A xs.length c hG (by simpa using h)
theorem val_i64 (c : Cur) (k : Int) : I64 ((c.val k : Nat) : Int) := by
  unfold Cur.val I64
  split
  · rename_i h
    unfold Cur.may at h
    simp only [Bool.and_eq_true, decide_eq_true_eq] at h
    omega
  · omega
theorem gets_i64 (k : Int) : ∀ (n o : Nat) (c : Cur) (M : List Int), (∀ u ∈ M, I64 u) → ∀ u ∈ (gets k n o c M).2, I64 u
  | 0, _, _, _, h => h
  | n + 1, o, c, M, h => gets_i64 k n (o + 1) _ _ fun u hu => by
    rcases List.mem_or_eq_of_mem_set hu with h1 | h1
    · exact h u h1
    · rw [h1]; exact val_i64 c k
theorem rG2_i64 (b : Bytes) : ∀ u ∈ (rG2 b).2, I64 u := gets_i64 _ _ _ _ _ (gets_i64 _ _ _ _ _ fun u hu => by
  have : u = 0 := by simpa using hu
  subst this
  unfold I64
  omega)
/-- Why there is no meta; 0: there is one. -/
def mdE (b : Bytes) : Int := if markedB b = false then 90 else if isSealed b 252 = false then 91 else if ¬ (gen ((rG2 b).2.getD 0 0) = true ∧ (rG2 b).2.getD 2 0 ≤ 3) then 93 else if okL (rG2 b).2 (rCursor b).length = true ∧ encB (rG2 b).2 (rCursor b) = b then 0 else 92
def mdM (b : Bytes) : List Int := if mdE b = 0 then (rG2 b).2 else [0, 0, 0, 0, 0, 0, 0]
def mdX (b : Bytes) : Bytes := if mdE b = 0 then rCursor b else []
theorem MDecode_c (w : World) (v : Value) (b : Bytes) (hG : Gens w) (hs : Src w v b) (hn : b.length ≤ 65536) : Calls Tryz.prog 76 #[v] w (GaveME w (mdM b) (mdX b) (mdE b)) := by
  obtain ⟨A, c, rfl, _⟩ := id hs
  have hMA : ∀ W, Only (w.heap.size ≤ ·) w W → Calls Tryz.prog 93 #[.slice A b.length c] W (Told W (.bool (markedB b))) := fun W hW => Mmarked_c W _ b (hs.later hW)
  have hSE : ∀ W, Only (w.heap.size ≤ ·) w W → Calls Tryz.prog 94 #[.slice A b.length c, .int .i64 252] W (Told W (.bool (isSealed b 252))) := fun W hW => Sealed_t W _ b (hs.later hW) hn
  have hRE : ∀ W, Only (w.heap.size ≤ ·) w W → Calls Tryz.prog 95 #[.slice A b.length c] W (GaveMt W (rG2 b).2 (rCursor b)) := fun W hW => Mread_c W _ b (hG.later hW) (hs.later hW) hn
  have hSS : ∀ W, Only (w.heap.size ≤ ·) w W → Src W (.slice A b.length c) b := fun W hW => hs.later hW
  have hEN : ∀ W g ph t x r p l A2 n2 c2, (rG2 b).2 = [g, ph, t, x, r, p, l] → n2 = (rCursor b).length → Only (w.heap.size ≤ ·) w W → Src W (.slice A2 n2 c2) (rCursor b) → Calls Tryz.prog 65 #[.agg #[.int .i64 g, .int .i64 ph, .int .i64 t, .int .i64 x, .int .i64 r, .int .i64 p, .int .i64 l, .slice A2 n2 c2]] W (GaveBE W (if okL (rG2 b).2 (rCursor b).length = true then encB (rG2 b).2 (rCursor b) else []) (if okL (rG2 b).2 (rCursor b).length = true then 0 else 92)) := fun W g ph t x r p l A2 n2 c2 h1 h2 h3 h4 => MEncode_l W _ _ (rG2_i64 b) (hG.later h3) g ph t x r p l A2 n2 c2 h1 h2 h4
  by_cases h1 : markedB b = false
  · have e : mdE b = 90 := by unfold mdE; rw [if_pos h1]
    unfold mdM mdX
    rw [e, if_neg (by decide), if_neg (by decide)]
    rw [h1] at hMA
    exact dec_90 w A _ c hMA
  have h1' : markedB b = true := by simpa using h1
  rw [h1'] at hMA
  by_cases h2 : isSealed b 252 = false
  · have e : mdE b = 91 := by unfold mdE; rw [if_neg h1, if_pos h2]
    unfold mdM mdX
    rw [e, if_neg (by decide), if_neg (by decide)]
    rw [h2] at hSE
    exact dec_91 w A _ c hMA hSE
  have h2' : isSealed b 252 = true := by simpa using h2
  rw [h2'] at hSE
  by_cases h3 : gen ((rG2 b).2.getD 0 0) = true ∧ (rG2 b).2.getD 2 0 ≤ 3
  · by_cases h4 : okL (rG2 b).2 (rCursor b).length = true ∧ encB (rG2 b).2 (rCursor b) = b
    · have e : mdE b = 0 := by unfold mdE; rw [if_neg h1, if_neg h2, if_neg (fun h => h h3), if_pos h4]
      unfold mdM mdX
      rw [e, if_pos rfl, if_pos rfl]
      rw [if_pos h4.1, if_pos h4.1, h4.2] at hEN
      exact dec_0 w A _ c hMA hSE _ _ hRE h3 b hSS hEN
    · have e : mdE b = 92 := by unfold mdE; rw [if_neg h1, if_neg h2, if_neg (fun h => h h3), if_neg h4]
      unfold mdM mdX
      rw [e, if_neg (by decide), if_neg (by decide)]
      refine dec_92 w A _ c hMA hSE _ _ hRE h3 _ b _ hSS hEN ?_
      by_cases h5 : okL (rG2 b).2 (rCursor b).length = true
      · rw [if_pos h5, if_pos h5]
        exact .inr ⟨rfl, fun e => h4 ⟨h5, e⟩⟩
      · rw [if_neg h5]
        exact .inl (by decide)
  · have e : mdE b = 93 := by unfold mdE; rw [if_neg h1, if_neg h2, if_pos h3]
    unfold mdM mdX
    rw [e, if_neg (by decide), if_neg (by decide)]
    refine dec_93 w A _ c hMA hSE _ _ hRE ?_
    by_cases hg : gen ((rG2 b).2.getD 0 0) = true
    · exact .inr ⟨hg, by have : ¬ (rG2 b).2.getD 2 0 ≤ 3 := fun h => h3 ⟨hg, h⟩; omega⟩
    · exact .inl (by simpa using hg)
end Go.Proofs.YtbpldkhgiddmlaaGreatDoor

/-
  Metas: Choose.
-/
set_option linter.unusedVariables false
namespace Go.Proofs.YtbpldkhgiddmlaaGreatDoor
open Go.RowKit

theorem results_ctt {fn : Func} {P : Program} {p t u : Tmp} {ty : TypeId} {tmps : Array Value} {w : World} {a : Addr} {v : Value} (h : fn.results = #[.cell p ty, .tmp t, .tmp u]) (ha : tmps.getD p undef = .pointer (some a)) (hl : (loadVar ty a).run P w = .ok v w) :
    (results fn tmps).run P w = .ok (.tuple #[v, tmps.getD t undef, tmps.getD u undef]) w := by
  rw [Array.getD_eq_getD_getElem?] at ha
  simp only [results, h]
  simp [ha, asAddr, hl]
def sl (x : Int) : Int := bits .and .i64 x 1
/-- The newest so far: its numbers, its cursor, its page, why there is none. -/
structure ChS where
  N : List Int
  X : Bytes
  at_ : Int
  why : Int
def chStep (k : Int) (s : ChS) (M : List Int) (X : Bytes) (e : Int) : ChS := if e = 93 then ⟨s.N, s.X, s.at_, 93⟩ else if e = 0 ∧ sl (M.getD 3 0) = k ∧ s.N.getD 3 0 < M.getD 3 0 then ⟨M, X, k, s.why⟩ else s
def ch0 : ChS := ⟨[0, 0, 0, 0, 0, 0, 0], [], -1, 92⟩
section
variable (aM bM : List Int) (aX bX : Bytes) (aE bE : Int)
def rest : Nat → ChS → ChS
  | 0, s => chStep 1 (chStep 0 s aM aX aE) bM bX bE
  | 1, s => chStep 1 s bM bX bE
  | _ + 2, s => s
variable {aM bM aX bX aE bE} {N : List Int} {X : Bytes} {at' y' : Int}
theorem rest0_93 (h : aE = 93) : rest aM bM aX bX aE bE 0 ⟨N, X, at', y'⟩ = rest aM bM aX bX aE bE 1 ⟨N, X, at', aE⟩ := by
  show chStep 1 (chStep 0 _ aM aX aE) bM bX bE = chStep 1 _ bM bX bE
  congr 1
  unfold chStep
  rw [if_pos h, h]
theorem rest1_93 (h : bE = 93) : rest aM bM aX bX aE bE 1 ⟨N, X, at', y'⟩ = rest aM bM aX bX aE bE 2 ⟨N, X, at', bE⟩ := by
  show chStep 1 _ bM bX bE = _
  unfold chStep
  rw [if_pos h, h]
  rfl
theorem rest0_no (h : aE ≠ 93 ∧ ¬ (aE = 0 ∧ sl (aM.getD 3 0) = 0 ∧ N.getD 3 0 < aM.getD 3 0)) : rest aM bM aX bX aE bE 0 ⟨N, X, at', y'⟩ = rest aM bM aX bX aE bE 1 ⟨N, X, at', y'⟩ := by
  show chStep 1 (chStep 0 _ aM aX aE) bM bX bE = chStep 1 _ bM bX bE
  congr 1
  unfold chStep
  rw [if_neg h.1, if_neg h.2]
theorem rest1_no (h : bE ≠ 93 ∧ ¬ (bE = 0 ∧ sl (bM.getD 3 0) = 1 ∧ N.getD 3 0 < bM.getD 3 0)) : rest aM bM aX bX aE bE 1 ⟨N, X, at', y'⟩ = rest aM bM aX bX aE bE 2 ⟨N, X, at', y'⟩ := by
  show chStep 1 _ bM bX bE = _
  unfold chStep
  rw [if_neg h.1, if_neg h.2]
  rfl
theorem rest0_yes (h : aE = 0 ∧ sl (aM.getD 3 0) = 0 ∧ N.getD 3 0 < aM.getD 3 0) : rest aM bM aX bX aE bE 0 ⟨N, X, at', y'⟩ = rest aM bM aX bX aE bE 1 ⟨aM, aX, 0, y'⟩ := by
  show chStep 1 (chStep 0 _ aM aX aE) bM bX bE = chStep 1 _ bM bX bE
  congr 1
  unfold chStep
  rw [if_neg (by rw [h.1]; decide), if_pos h]
theorem rest1_yes (h : bE = 0 ∧ sl (bM.getD 3 0) = 1 ∧ N.getD 3 0 < bM.getD 3 0) : rest aM bM aX bX aE bE 1 ⟨N, X, at', y'⟩ = rest aM bM aX bX aE bE 2 ⟨bM, bX, 1, y'⟩ := by
  show chStep 1 _ bM bX bE = _
  unfold chStep
  rw [if_neg (by rw [h.1]; decide), if_pos h]
  rfl
end
/-- A meta, a page, an error. -/
def GaveC (w : World) (s : ChS) (e : Ending) (w' : World) : Prop := ∃ (g ph t x r p l : Int) (A : Option Addr) (n c : Nat), s.N = [g, ph, t, x, r, p, l] ∧ n = s.X.length ∧ e = .returned (.tuple #[.agg #[.int .i64 g, .int .i64 ph, .int .i64 t, .int .i64 x, .int .i64 r, .int .i64 p, .int .i64 l, .slice A n c], .int .i64 s.at_, .int .i64 (if 0 ≤ s.at_ then 0 else s.why)]) ∧ New w' w.heap.size (.slice A n c) s.X ∧ Only (w.heap.size ≤ ·) w w'
theorem ix0 (VA VB : Option Addr) (na ca nb cb' : Nat) (W : World) : (Instr.index 124 (.agg #[.slice VA na ca, .slice VB nb cb']) (.int .i64 0)).run Tryz.prog W = .ok (.slice VA na ca) W := by kernel_rfl
theorem ix1 (VA VB : Option Addr) (na ca nb cb' : Nat) (W : World) : (Instr.index 124 (.agg #[.slice VA na ca, .slice VB nb cb']) (.int .i64 1)).run Tryz.prog W = .ok (.slice VB nb cb') W := by kernel_rfl
set_option maxRecDepth 100000 in
set_option maxHeartbeats 12800000 in
theorem choose_go (w : World) (VA VB : Option Addr) (na ca nb cb' : Nat) (aM bM : List Int) (aX bX : Bytes) (aE bE : Int)
    (hA : ∀ W, Only (w.heap.size ≤ ·) w W → Calls Tryz.prog 76 #[.slice VA na ca] W (GaveME W aM aX aE)) (hB : ∀ W, Only (w.heap.size ≤ ·) w W → Calls Tryz.prog 76 #[.slice VB nb cb'] W (GaveME W bM bX bE)) :
    Calls Tryz.prog 56 #[.slice VA na ca, .slice VB nb cb'] w (GaveC w (rest aM bM aX bX aE bE 0 ch0)) := by
  obtain ⟨FIN, hF⟩ : ∃ F, F = rest aM bM aX bX aE bE 0 ch0 := ⟨_, rfl⟩
  rw [← hF]
  have HF0 := Lib.hid hF
  have HDA := Lib.hid hA
  have HDB := Lib.hid hB
  obtain ⟨w1, hw1⟩ : ∃ W0, W0 = (w.alloc (.cells #[.int .i64 0, .int .i64 0, .int .i64 0, .int .i64 0, .int .i64 0, .int .i64 0, .int .i64 0, .slice none 0 0] 45)).alloc (.cells #[.int .i64 0, .int .i64 0, .int .i64 0, .int .i64 0, .int .i64 0, .int .i64 0, .int .i64 0, .slice none 0 0] 45) := ⟨_, rfl⟩
  have HO0 : Hid (Only (w.heap.size ≤ ·) w w1) := Lib.hid (by rw [hw1]; exact ((Only.refl _ w).alloc (fun _ h => h) _).alloc (fun _ h => h) _)
  have HR0 : Hid (Blk w1 w.heap.size 45 [.int .i64 0, .int .i64 0, .int .i64 0, .int .i64 0, .int .i64 0, .int .i64 0, .int .i64 0, .slice none 0 0]) := Lib.hid (by rw [hw1]; exact (Blk.new w 45 _).alloc _)
  have HB0 : Hid (Blk w1 (w.heap.size + 1) 45 [.int .i64 0, .int .i64 0, .int .i64 0, .int .i64 0, .int .i64 0, .int .i64 0, .int .i64 0, .slice none 0 0]) := Lib.hid (by
    rw [hw1]
    have := Blk.new (w.alloc (.cells #[.int .i64 0, .int .i64 0, .int .i64 0, .int .i64 0, .int .i64 0, .int .i64 0, .int .i64 0, .slice none 0 0] 45)) 45 [.int .i64 0, .int .i64 0, .int .i64 0, .int .i64 0, .int .i64 0, .int .i64 0, .int .i64 0, .slice none 0 0]
    simpa using this)
  clear hF hA hB
  have hx0 := ix0 VA VB na ca nb cb'
  have hx1 := ix1 VA VB na ca nb cb'
  go_enter Tryz.func56, Tryz.ntmps56
  go_upto_region 1 with (fail)
  go_upto_region 2 with (fail)
  rw [← hw1]
  clear hw1
  go_wp2_with (fail)
  go_loopw [18, 8, 9] (fun kv av yv wr => ∃ (k : Nat) (N : List Int) (X : Bytes) (at' y' g' ph' t' x' r' p' l' : Int) (An : Option Addr) (nn cn : Nat), k ≤ 2 ∧ kv = .int .i64 k ∧ av = .int .i64 at' ∧ yv = .int .i64 y' ∧ Hid (FIN = rest aM bM aX bX aE bE k ⟨N, X, at', y'⟩) ∧ Hid (Blk wr (w.heap.size + 1) 45 [.int .i64 g', .int .i64 ph', .int .i64 t', .int .i64 x', .int .i64 r', .int .i64 p', .int .i64 l', .slice An nn cn]) ∧ Hid (N = [g', ph', t', x', r', p', l'] ∧ nn = X.length) ∧ Hid (New wr (w.heap.size + 2) (.slice An nn cn) X) ∧ Hid (Blk wr w.heap.size 45 [.int .i64 0, .int .i64 0, .int .i64 0, .int .i64 0, .int .i64 0, .int .i64 0, .int .i64 0, .slice none 0 0]) ∧ Hid (Only (w.heap.size ≤ ·) w wr)) (fun kv _ _ _ => 2 - (intOf kv).toNat)
  case atStart => exact ⟨0, [0, 0, 0, 0, 0, 0, 0], [], -1, 92, 0, 0, 0, 0, 0, 0, 0, none, 0, 0, by omega, rfl, rfl, rfl, HF0, HB0, Lib.hid ⟨rfl, rfl⟩, Lib.hid (New.nil_ _ _), HR0, HO0⟩
  case round =>
    obtain ⟨k, N, X, at', y', g', ph', t', x', r', p', l', An, nn, cn, hk, rfl, rfl, rfl, HF, HB, HNE, HNN, HR, HO⟩ := hrel
    clear HO0 HR0 HB0 HF0
    rcases (by omega : k = 0 ∨ k = 1 ∨ k = 2) with rfl | rfl | rfl
    · skip
      go_upto_region 6 with (go_at_call 76; (with_reducible refine (HDA.out _ HO.out).mono ?_); rintro ee w3 ⟨g, ph, t, x, r, p, l, A2, n2, c2, hM, hn2, rfl, hnw, ho⟩; have HM := Lib.hid hM; have HN2 := Lib.hid hn2; have HW1 : Hid (w.heap.size + 1 < wr.heap.size) := Lib.hid HB.out.lt; have HNW := Lib.hid hnw; (replace HB := Lib.hid (HB.out.later ho)); (replace HR := Lib.hid (HR.out.later ho)); (replace HNN := Lib.hid (HNN.out.later ho)); (replace HO := Lib.hid (on_new HO.out ho)); clear hM hn2 hnw ho)
      obtain ⟨w4, hw4⟩ : ∃ y, y = w3.alloc (.cells #[.int .i64 g, .int .i64 ph, .int .i64 t, .int .i64 x, .int .i64 r, .int .i64 p, .int .i64 l, .slice A2 n2 c2] 45) := ⟨_, rfl⟩
      have HBX : Hid (Blk w4 w3.heap.size 45 [.int .i64 g, .int .i64 ph, .int .i64 t, .int .i64 x, .int .i64 r, .int .i64 p, .int .i64 l, .slice A2 n2 c2]) := Lib.hid (by rw [hw4]; exact Blk.new w3 45 _)
      have HON : Hid (Only (w3.heap.size ≤ ·) w3 w4) := Lib.hid (by rw [hw4]; exact (Only.refl _ w3).alloc (fun _ h => h) _)
      replace HB := Lib.hid (HB.out.later HON.out)
      replace HR := Lib.hid (HR.out.later HON.out)
      replace HNN := Lib.hid (HNN.out.later HON.out)
      replace HNW := Lib.hid (HNW.out.later HON.out)
      replace HO := Lib.hid (on_new HO.out HON.out)
      rw [← hw4]
      clear hw4 HON

      by_cases h93 : aE = 93
      · have HE3 : Hid (aE = 93) := Lib.hid h93
        have b93 : (aE == 93) = true := by rw [beq_iff_eq]; exact h93
        go_wp2_with (fail)
        go_roundw
        case rel => exact ⟨1, N, X, at', aE, g', ph', t', x', r', p', l', An, nn, cn, by omega, rfl, rfl, rfl, Lib.hid (HF.out.trans (rest0_93 HE3.out)), HB, HNE, HNN, HR, HO⟩
        case measure => simp [intOf]
      have b93 : (aE == 93) = false := by rw [beq_eq_false_iff_ne]; exact h93
      by_cases h0 : aE = 0
      · have b0 : (aE == 0) = true := by rw [beq_iff_eq]; exact h0
        by_cases hsl : bits .and .i64 x 1 = 0
        · have bsl : (bits .and .i64 x 1 == 0) = true := by rw [beq_iff_eq]; exact hsl
          by_cases hgt : x' < x
          · have HT : Hid (aE = 0 ∧ sl (aM.getD 3 0) = 0 ∧ N.getD 3 0 < aM.getD 3 0) := Lib.hid ⟨h0, by rw [HM.out]; exact hsl, by rw [HM.out, HNE.out.1]; exact hgt⟩
            have bgt : decide (x' < x) = true := decide_eq_true hgt
            go_upto_region 8 with (fail)
            obtain ⟨i0, i1, i2, i3, i4, i5, i6, i7⟩ := HBX.out.eight
            obtain ⟨j0, j1, j2, j3, j4, j5, j6, j7⟩ := HB.out.eight
            go_upto_region 9 with (go_at_call 46; (with_reducible refine (MSlot_c _ x).mono ?_); rintro ee w' ⟨rfl, rfl⟩)
            have z0 := HB.out.frozen 0
            have z1 := HB.out.frozen 1
            have z2 := HB.out.frozen 2
            have z3 := HB.out.frozen 3
            have z4 := HB.out.frozen 4
            have z5 := HB.out.frozen 5
            have z6 := HB.out.frozen 6
            have z7 := HB.out.frozen 7
            go_wp2_with (fail)
            go_roundw
            case rel => exact ⟨1, aM, aX, 0, y', g, ph, t, x, r, p, l, A2, n2, c2, by omega, rfl, rfl, rfl, Lib.hid (HF.out.trans (rest0_yes HT.out)), Lib.hid ((((((((HB.out.set_ 0 (.int .i64 g)).set_ 1 (.int .i64 ph)).set_ 2 (.int .i64 t)).set_ 3 (.int .i64 x)).set_ 4 (.int .i64 r)).set_ 5 (.int .i64 p)).set_ 6 (.int .i64 l)).set_ 7 (.slice A2 n2 c2)), Lib.hid ⟨HM.out, HN2.out⟩, Lib.hid ((HNW.out.keep (((((((((Only.refl (· = w.heap.size + 1) w4).setCell (p := ⟨w.heap.size + 1, 0, none⟩) rfl (.int .i64 g)).setCell (p := ⟨w.heap.size + 1, 1, none⟩) rfl (.int .i64 ph)).setCell (p := ⟨w.heap.size + 1, 2, none⟩) rfl (.int .i64 t)).setCell (p := ⟨w.heap.size + 1, 3, none⟩) rfl (.int .i64 x)).setCell (p := ⟨w.heap.size + 1, 4, none⟩) rfl (.int .i64 r)).setCell (p := ⟨w.heap.size + 1, 5, none⟩) rfl (.int .i64 p)).setCell (p := ⟨w.heap.size + 1, 6, none⟩) rfl (.int .i64 l)).setCell (p := ⟨w.heap.size + 1, 7, none⟩) rfl (.slice A2 n2 c2)) (fun j h1 _ h3 => by have := HW1.out; omega)).mono (by have := HW1.out; omega)), Lib.hid (HR.out.only (((((((((Only.refl (· = w.heap.size + 1) w4).setCell (p := ⟨w.heap.size + 1, 0, none⟩) rfl (.int .i64 g)).setCell (p := ⟨w.heap.size + 1, 1, none⟩) rfl (.int .i64 ph)).setCell (p := ⟨w.heap.size + 1, 2, none⟩) rfl (.int .i64 t)).setCell (p := ⟨w.heap.size + 1, 3, none⟩) rfl (.int .i64 x)).setCell (p := ⟨w.heap.size + 1, 4, none⟩) rfl (.int .i64 r)).setCell (p := ⟨w.heap.size + 1, 5, none⟩) rfl (.int .i64 p)).setCell (p := ⟨w.heap.size + 1, 6, none⟩) rfl (.int .i64 l)).setCell (p := ⟨w.heap.size + 1, 7, none⟩) rfl (.slice A2 n2 c2)) (by omega)), Lib.hid (HO.out.trans ((((((((((Only.refl (· = w.heap.size + 1) w4).setCell (p := ⟨w.heap.size + 1, 0, none⟩) rfl (.int .i64 g)).setCell (p := ⟨w.heap.size + 1, 1, none⟩) rfl (.int .i64 ph)).setCell (p := ⟨w.heap.size + 1, 2, none⟩) rfl (.int .i64 t)).setCell (p := ⟨w.heap.size + 1, 3, none⟩) rfl (.int .i64 x)).setCell (p := ⟨w.heap.size + 1, 4, none⟩) rfl (.int .i64 r)).setCell (p := ⟨w.heap.size + 1, 5, none⟩) rfl (.int .i64 p)).setCell (p := ⟨w.heap.size + 1, 6, none⟩) rfl (.int .i64 l)).setCell (p := ⟨w.heap.size + 1, 7, none⟩) rfl (.slice A2 n2 c2)).mono fun j hj => by omega))⟩
            case measure => simp [intOf]
          · have HT : Hid (aE ≠ 93 ∧ ¬ (aE = 0 ∧ sl (aM.getD 3 0) = 0 ∧ N.getD 3 0 < aM.getD 3 0)) := Lib.hid ⟨h93, fun e => hgt (by have h := e.2.2; rw [HM.out, HNE.out.1] at h; exact h)⟩
            have bgt : decide (x' < x) = false := decide_eq_false hgt
            go_upto_region 8 with (fail)
            obtain ⟨i0, i1, i2, i3, i4, i5, i6, i7⟩ := HBX.out.eight
            obtain ⟨j0, j1, j2, j3, j4, j5, j6, j7⟩ := HB.out.eight
            go_wp2_with (go_at_call 46; (with_reducible refine (MSlot_c _ x).mono ?_); rintro ee w' ⟨rfl, rfl⟩)
            go_roundw
            case rel => exact ⟨1, N, X, at', y', g', ph', t', x', r', p', l', An, nn, cn, by omega, rfl, rfl, rfl, Lib.hid (HF.out.trans (rest0_no HT.out)), HB, HNE, HNN, HR, HO⟩
            case measure => simp [intOf]
        · have HT : Hid (aE ≠ 93 ∧ ¬ (aE = 0 ∧ sl (aM.getD 3 0) = 0 ∧ N.getD 3 0 < aM.getD 3 0)) := Lib.hid ⟨h93, fun e => hsl (by have h := e.2.1; rw [HM.out] at h; exact h)⟩
          have bsl : (bits .and .i64 x 1 == 0) = false := by rw [beq_eq_false_iff_ne]; exact hsl
          go_upto_region 8 with (fail)
          obtain ⟨i0, i1, i2, i3, i4, i5, i6, i7⟩ := HBX.out.eight
          obtain ⟨j0, j1, j2, j3, j4, j5, j6, j7⟩ := HB.out.eight
          go_wp2_with (go_at_call 46; (with_reducible refine (MSlot_c _ x).mono ?_); rintro ee w' ⟨rfl, rfl⟩)
          go_roundw
          case rel => exact ⟨1, N, X, at', y', g', ph', t', x', r', p', l', An, nn, cn, by omega, rfl, rfl, rfl, Lib.hid (HF.out.trans (rest0_no HT.out)), HB, HNE, HNN, HR, HO⟩
          case measure => simp [intOf]
      · have HT : Hid (aE ≠ 93 ∧ ¬ (aE = 0 ∧ sl (aM.getD 3 0) = 0 ∧ N.getD 3 0 < aM.getD 3 0)) := Lib.hid ⟨h93, fun e => h0 e.1⟩
        have b0 : (aE == 0) = false := by rw [beq_eq_false_iff_ne]; exact h0
        go_upto_region 8 with (fail)
        go_wp2_with (go_at_call 46; (with_reducible refine (MSlot_c _ x).mono ?_); rintro ee w' ⟨rfl, rfl⟩)
        go_roundw
        case rel => exact ⟨1, N, X, at', y', g', ph', t', x', r', p', l', An, nn, cn, by omega, rfl, rfl, rfl, Lib.hid (HF.out.trans (rest0_no HT.out)), HB, HNE, HNN, HR, HO⟩
        case measure => simp [intOf]
    · skip
      go_upto_region 6 with (go_at_call 76; (with_reducible refine (HDB.out _ HO.out).mono ?_); rintro ee w3 ⟨g, ph, t, x, r, p, l, A2, n2, c2, hM, hn2, rfl, hnw, ho⟩; have HM := Lib.hid hM; have HN2 := Lib.hid hn2; have HW1 : Hid (w.heap.size + 1 < wr.heap.size) := Lib.hid HB.out.lt; have HNW := Lib.hid hnw; (replace HB := Lib.hid (HB.out.later ho)); (replace HR := Lib.hid (HR.out.later ho)); (replace HNN := Lib.hid (HNN.out.later ho)); (replace HO := Lib.hid (on_new HO.out ho)); clear hM hn2 hnw ho)
      obtain ⟨w4, hw4⟩ : ∃ y, y = w3.alloc (.cells #[.int .i64 g, .int .i64 ph, .int .i64 t, .int .i64 x, .int .i64 r, .int .i64 p, .int .i64 l, .slice A2 n2 c2] 45) := ⟨_, rfl⟩
      have HBX : Hid (Blk w4 w3.heap.size 45 [.int .i64 g, .int .i64 ph, .int .i64 t, .int .i64 x, .int .i64 r, .int .i64 p, .int .i64 l, .slice A2 n2 c2]) := Lib.hid (by rw [hw4]; exact Blk.new w3 45 _)
      have HON : Hid (Only (w3.heap.size ≤ ·) w3 w4) := Lib.hid (by rw [hw4]; exact (Only.refl _ w3).alloc (fun _ h => h) _)
      replace HB := Lib.hid (HB.out.later HON.out)
      replace HR := Lib.hid (HR.out.later HON.out)
      replace HNN := Lib.hid (HNN.out.later HON.out)
      replace HNW := Lib.hid (HNW.out.later HON.out)
      replace HO := Lib.hid (on_new HO.out HON.out)
      rw [← hw4]
      clear hw4 HON

      by_cases h93 : bE = 93
      · have HE3 : Hid (bE = 93) := Lib.hid h93
        have b93 : (bE == 93) = true := by rw [beq_iff_eq]; exact h93
        go_wp2_with (fail)
        go_roundw
        case rel => exact ⟨2, N, X, at', bE, g', ph', t', x', r', p', l', An, nn, cn, by omega, rfl, rfl, rfl, Lib.hid (HF.out.trans (rest1_93 HE3.out)), HB, HNE, HNN, HR, HO⟩
        case measure => simp [intOf]
      have b93 : (bE == 93) = false := by rw [beq_eq_false_iff_ne]; exact h93
      by_cases h0 : bE = 0
      · have b0 : (bE == 0) = true := by rw [beq_iff_eq]; exact h0
        by_cases hsl : bits .and .i64 x 1 = 1
        · have bsl : (bits .and .i64 x 1 == 1) = true := by rw [beq_iff_eq]; exact hsl
          by_cases hgt : x' < x
          · have HT : Hid (bE = 0 ∧ sl (bM.getD 3 0) = 1 ∧ N.getD 3 0 < bM.getD 3 0) := Lib.hid ⟨h0, by rw [HM.out]; exact hsl, by rw [HM.out, HNE.out.1]; exact hgt⟩
            have bgt : decide (x' < x) = true := decide_eq_true hgt
            go_upto_region 8 with (fail)
            obtain ⟨i0, i1, i2, i3, i4, i5, i6, i7⟩ := HBX.out.eight
            obtain ⟨j0, j1, j2, j3, j4, j5, j6, j7⟩ := HB.out.eight
            go_upto_region 9 with (go_at_call 46; (with_reducible refine (MSlot_c _ x).mono ?_); rintro ee w' ⟨rfl, rfl⟩)
            have z0 := HB.out.frozen 0
            have z1 := HB.out.frozen 1
            have z2 := HB.out.frozen 2
            have z3 := HB.out.frozen 3
            have z4 := HB.out.frozen 4
            have z5 := HB.out.frozen 5
            have z6 := HB.out.frozen 6
            have z7 := HB.out.frozen 7
            go_wp2_with (fail)
            go_roundw
            case rel => exact ⟨2, bM, bX, 1, y', g, ph, t, x, r, p, l, A2, n2, c2, by omega, rfl, rfl, rfl, Lib.hid (HF.out.trans (rest1_yes HT.out)), Lib.hid ((((((((HB.out.set_ 0 (.int .i64 g)).set_ 1 (.int .i64 ph)).set_ 2 (.int .i64 t)).set_ 3 (.int .i64 x)).set_ 4 (.int .i64 r)).set_ 5 (.int .i64 p)).set_ 6 (.int .i64 l)).set_ 7 (.slice A2 n2 c2)), Lib.hid ⟨HM.out, HN2.out⟩, Lib.hid ((HNW.out.keep (((((((((Only.refl (· = w.heap.size + 1) w4).setCell (p := ⟨w.heap.size + 1, 0, none⟩) rfl (.int .i64 g)).setCell (p := ⟨w.heap.size + 1, 1, none⟩) rfl (.int .i64 ph)).setCell (p := ⟨w.heap.size + 1, 2, none⟩) rfl (.int .i64 t)).setCell (p := ⟨w.heap.size + 1, 3, none⟩) rfl (.int .i64 x)).setCell (p := ⟨w.heap.size + 1, 4, none⟩) rfl (.int .i64 r)).setCell (p := ⟨w.heap.size + 1, 5, none⟩) rfl (.int .i64 p)).setCell (p := ⟨w.heap.size + 1, 6, none⟩) rfl (.int .i64 l)).setCell (p := ⟨w.heap.size + 1, 7, none⟩) rfl (.slice A2 n2 c2)) (fun j h1 _ h3 => by have := HW1.out; omega)).mono (by have := HW1.out; omega)), Lib.hid (HR.out.only (((((((((Only.refl (· = w.heap.size + 1) w4).setCell (p := ⟨w.heap.size + 1, 0, none⟩) rfl (.int .i64 g)).setCell (p := ⟨w.heap.size + 1, 1, none⟩) rfl (.int .i64 ph)).setCell (p := ⟨w.heap.size + 1, 2, none⟩) rfl (.int .i64 t)).setCell (p := ⟨w.heap.size + 1, 3, none⟩) rfl (.int .i64 x)).setCell (p := ⟨w.heap.size + 1, 4, none⟩) rfl (.int .i64 r)).setCell (p := ⟨w.heap.size + 1, 5, none⟩) rfl (.int .i64 p)).setCell (p := ⟨w.heap.size + 1, 6, none⟩) rfl (.int .i64 l)).setCell (p := ⟨w.heap.size + 1, 7, none⟩) rfl (.slice A2 n2 c2)) (by omega)), Lib.hid (HO.out.trans ((((((((((Only.refl (· = w.heap.size + 1) w4).setCell (p := ⟨w.heap.size + 1, 0, none⟩) rfl (.int .i64 g)).setCell (p := ⟨w.heap.size + 1, 1, none⟩) rfl (.int .i64 ph)).setCell (p := ⟨w.heap.size + 1, 2, none⟩) rfl (.int .i64 t)).setCell (p := ⟨w.heap.size + 1, 3, none⟩) rfl (.int .i64 x)).setCell (p := ⟨w.heap.size + 1, 4, none⟩) rfl (.int .i64 r)).setCell (p := ⟨w.heap.size + 1, 5, none⟩) rfl (.int .i64 p)).setCell (p := ⟨w.heap.size + 1, 6, none⟩) rfl (.int .i64 l)).setCell (p := ⟨w.heap.size + 1, 7, none⟩) rfl (.slice A2 n2 c2)).mono fun j hj => by omega))⟩
            case measure => simp [intOf]
          · have HT : Hid (bE ≠ 93 ∧ ¬ (bE = 0 ∧ sl (bM.getD 3 0) = 1 ∧ N.getD 3 0 < bM.getD 3 0)) := Lib.hid ⟨h93, fun e => hgt (by have h := e.2.2; rw [HM.out, HNE.out.1] at h; exact h)⟩
            have bgt : decide (x' < x) = false := decide_eq_false hgt
            go_upto_region 8 with (fail)
            obtain ⟨i0, i1, i2, i3, i4, i5, i6, i7⟩ := HBX.out.eight
            obtain ⟨j0, j1, j2, j3, j4, j5, j6, j7⟩ := HB.out.eight
            go_wp2_with (go_at_call 46; (with_reducible refine (MSlot_c _ x).mono ?_); rintro ee w' ⟨rfl, rfl⟩)
            go_roundw
            case rel => exact ⟨2, N, X, at', y', g', ph', t', x', r', p', l', An, nn, cn, by omega, rfl, rfl, rfl, Lib.hid (HF.out.trans (rest1_no HT.out)), HB, HNE, HNN, HR, HO⟩
            case measure => simp [intOf]
        · have HT : Hid (bE ≠ 93 ∧ ¬ (bE = 0 ∧ sl (bM.getD 3 0) = 1 ∧ N.getD 3 0 < bM.getD 3 0)) := Lib.hid ⟨h93, fun e => hsl (by have h := e.2.1; rw [HM.out] at h; exact h)⟩
          have bsl : (bits .and .i64 x 1 == 1) = false := by rw [beq_eq_false_iff_ne]; exact hsl
          go_upto_region 8 with (fail)
          obtain ⟨i0, i1, i2, i3, i4, i5, i6, i7⟩ := HBX.out.eight
          obtain ⟨j0, j1, j2, j3, j4, j5, j6, j7⟩ := HB.out.eight
          go_wp2_with (go_at_call 46; (with_reducible refine (MSlot_c _ x).mono ?_); rintro ee w' ⟨rfl, rfl⟩)
          go_roundw
          case rel => exact ⟨2, N, X, at', y', g', ph', t', x', r', p', l', An, nn, cn, by omega, rfl, rfl, rfl, Lib.hid (HF.out.trans (rest1_no HT.out)), HB, HNE, HNN, HR, HO⟩
          case measure => simp [intOf]
      · have HT : Hid (bE ≠ 93 ∧ ¬ (bE = 0 ∧ sl (bM.getD 3 0) = 1 ∧ N.getD 3 0 < bM.getD 3 0)) := Lib.hid ⟨h93, fun e => h0 e.1⟩
        have b0 : (bE == 0) = false := by rw [beq_eq_false_iff_ne]; exact h0
        go_upto_region 8 with (fail)
        go_wp2_with (go_at_call 46; (with_reducible refine (MSlot_c _ x).mono ?_); rintro ee w' ⟨rfl, rfl⟩)
        go_roundw
        case rel => exact ⟨2, N, X, at', y', g', ph', t', x', r', p', l', An, nn, cn, by omega, rfl, rfl, rfl, Lib.hid (HF.out.trans (rest1_no HT.out)), HB, HNE, HNN, HR, HO⟩
        case measure => simp [intOf]
    · skip
      have HE : Hid (FIN = ⟨N, X, at', y'⟩) := HF
      obtain ⟨j0, j1, j2, j3, j4, j5, j6, j7⟩ := HB.out.eight
      obtain ⟨r0, r1, r2, r3, r4, r5, r6, r7⟩ := HR.out.eight
      have z0 := HR.out.frozen 0
      have z1 := HR.out.frozen 1
      have z2 := HR.out.frozen 2
      have z3 := HR.out.frozen 3
      have z4 := HR.out.frozen 4
      have z5 := HR.out.frozen 5
      have z6 := HR.out.frozen 6
      have z7 := HR.out.frozen 7
      by_cases hat : 0 ≤ at'
      · have hd : decide (0 ≤ at') = true := decide_eq_true hat
        have HW : Hid ((if 0 ≤ FIN.at_ then (0 : Int) else FIN.why) = 0) := Lib.hid (by rw [HE.out]; exact if_pos hat)
        clear hat
        go_wp2
        refine bodyPost_ret (results_ctt rfl rfl (load_meta ((((((((HR.out.set_ 0 (.int .i64 g')).set_ 1 (.int .i64 ph')).set_ 2 (.int .i64 t')).set_ 3 (.int .i64 x')).set_ 4 (.int .i64 r')).set_ 5 (.int .i64 p')).set_ 6 (.int .i64 l')).set_ 7 (.slice An nn cn)))) rfl ?_
        refine ⟨g', ph', t', x', r', p', l', An, nn, cn, by rw [HE.out]; exact HNE.out.1, by rw [HE.out]; exact HNE.out.2, by rw [HW.out, HE.out]; rfl, ?_, HO.out.trans ((((((((((Only.refl (· = w.heap.size) wr).setCell (p := ⟨w.heap.size, 0, none⟩) rfl (.int .i64 g')).setCell (p := ⟨w.heap.size, 1, none⟩) rfl (.int .i64 ph')).setCell (p := ⟨w.heap.size, 2, none⟩) rfl (.int .i64 t')).setCell (p := ⟨w.heap.size, 3, none⟩) rfl (.int .i64 x')).setCell (p := ⟨w.heap.size, 4, none⟩) rfl (.int .i64 r')).setCell (p := ⟨w.heap.size, 5, none⟩) rfl (.int .i64 p')).setCell (p := ⟨w.heap.size, 6, none⟩) rfl (.int .i64 l')).setCell (p := ⟨w.heap.size, 7, none⟩) rfl (.slice An nn cn)).mono fun j hj => by omega)⟩
        rw [HE.out]
        exact (HNN.out.keep (((((((((Only.refl (· = w.heap.size) wr).setCell (p := ⟨w.heap.size, 0, none⟩) rfl (.int .i64 g')).setCell (p := ⟨w.heap.size, 1, none⟩) rfl (.int .i64 ph')).setCell (p := ⟨w.heap.size, 2, none⟩) rfl (.int .i64 t')).setCell (p := ⟨w.heap.size, 3, none⟩) rfl (.int .i64 x')).setCell (p := ⟨w.heap.size, 4, none⟩) rfl (.int .i64 r')).setCell (p := ⟨w.heap.size, 5, none⟩) rfl (.int .i64 p')).setCell (p := ⟨w.heap.size, 6, none⟩) rfl (.int .i64 l')).setCell (p := ⟨w.heap.size, 7, none⟩) rfl (.slice An nn cn)) (fun j h1 _ h3 => by omega)).mono (by omega)
      · have hd : decide (0 ≤ at') = false := decide_eq_false hat
        have HW : Hid ((if 0 ≤ FIN.at_ then (0 : Int) else FIN.why) = y') := Lib.hid (by rw [HE.out]; exact if_neg hat)
        clear hat
        go_wp2
        refine bodyPost_ret (results_ctt rfl rfl (load_meta ((((((((HR.out.set_ 0 (.int .i64 g')).set_ 1 (.int .i64 ph')).set_ 2 (.int .i64 t')).set_ 3 (.int .i64 x')).set_ 4 (.int .i64 r')).set_ 5 (.int .i64 p')).set_ 6 (.int .i64 l')).set_ 7 (.slice An nn cn)))) rfl ?_
        refine ⟨g', ph', t', x', r', p', l', An, nn, cn, by rw [HE.out]; exact HNE.out.1, by rw [HE.out]; exact HNE.out.2, by rw [HW.out, HE.out]; rfl, ?_, HO.out.trans ((((((((((Only.refl (· = w.heap.size) wr).setCell (p := ⟨w.heap.size, 0, none⟩) rfl (.int .i64 g')).setCell (p := ⟨w.heap.size, 1, none⟩) rfl (.int .i64 ph')).setCell (p := ⟨w.heap.size, 2, none⟩) rfl (.int .i64 t')).setCell (p := ⟨w.heap.size, 3, none⟩) rfl (.int .i64 x')).setCell (p := ⟨w.heap.size, 4, none⟩) rfl (.int .i64 r')).setCell (p := ⟨w.heap.size, 5, none⟩) rfl (.int .i64 p')).setCell (p := ⟨w.heap.size, 6, none⟩) rfl (.int .i64 l')).setCell (p := ⟨w.heap.size, 7, none⟩) rfl (.slice An nn cn)).mono fun j hj => by omega)⟩
        rw [HE.out]
        exact (HNN.out.keep (((((((((Only.refl (· = w.heap.size) wr).setCell (p := ⟨w.heap.size, 0, none⟩) rfl (.int .i64 g')).setCell (p := ⟨w.heap.size, 1, none⟩) rfl (.int .i64 ph')).setCell (p := ⟨w.heap.size, 2, none⟩) rfl (.int .i64 t')).setCell (p := ⟨w.heap.size, 3, none⟩) rfl (.int .i64 x')).setCell (p := ⟨w.heap.size, 4, none⟩) rfl (.int .i64 r')).setCell (p := ⟨w.heap.size, 5, none⟩) rfl (.int .i64 p')).setCell (p := ⟨w.heap.size, 6, none⟩) rfl (.int .i64 l')).setCell (p := ⟨w.heap.size, 7, none⟩) rfl (.slice An nn cn)) (fun j h1 _ h3 => by omega)).mono (by omega)
/-- What Choose tells of two pages. -/
def mdC (a b : Bytes) : ChS := rest (mdM a) (mdM b) (mdX a) (mdX b) (mdE a) (mdE b) 0 ch0
theorem MChoose_c (w : World) (v u : Value) (a b : Bytes) (hG : Gens w) (ha : Src w v a) (hb : Src w u b) (hn : a.length ≤ 65536) (hm : b.length ≤ 65536) : Calls Tryz.prog 56 #[v, u] w (GaveC w (mdC a b)) := by
  obtain ⟨A, c, rfl, _⟩ := id ha
  obtain ⟨B, d, rfl, _⟩ := id hb
  exact choose_go w A B _ c _ d _ _ _ _ _ _ (fun W hW => MDecode_c W _ a (hG.later hW) (ha.later hW) hn) (fun W hW => MDecode_c W _ b (hG.later hW) (hb.later hW) hm)
end Go.Proofs.YtbpldkhgiddmlaaGreatDoor

/-
  Metas: alive.
-/
set_option linter.unusedVariables false
namespace Go.Proofs.YtbpldkhgiddmlaaGreatDoor
open Go.RowKit

theorem src_nil (W : World) {A : Option Addr} {c : Nat} {w : World} (h : Src w (.slice A 0 c) []) : Src W (.slice A 0 c) [] := by
  obtain ⟨A', c', e, _, h1, h2, h3⟩ := h
  simp only [Value.slice.injEq] at e
  obtain ⟨rfl, _, rfl⟩ := e
  exact ⟨_, _, rfl, Txt.nil_ _ _, h1, h2, h3⟩
end Go.Proofs.YtbpldkhgiddmlaaGreatDoor

/-
  A meta as plain bytes; what was encoded is read as it was. No memory here.
-/
set_option linter.unusedVariables false
namespace Go.Proofs.YtbpldkhgiddmlaaGreatDoor

theorem oth_put4 (xs : Bytes) (a : Nat) (h : a + 4 ≤ xs.length) : oth (put4 xs a) a = oth xs a := by
  unfold oth put4
  congr 1
  · rw [List.take_left' (by simp; omega)]
  · rw [← List.append_assoc, List.drop_left' (by simp [le4_length]; omega)]
theorem four_put4 (xs : Bytes) (a : Nat) (h : a + 4 ≤ xs.length) : ((put4 xs a).drop a).take 4 = le4 (sum (oth xs a)) := by
  unfold put4
  rw [List.drop_left' (by simp; omega), List.take_left' (le4_length _)]
theorem rm4_of {n a : Nat} (h : a + 4 ≤ n) : rm4 n (a : Int) = true := by simp only [rm4, decide_eq_true_eq]; omega
theorem sealed_put4 (xs : Bytes) (a : Nat) (h : a + 4 ≤ xs.length) : isSealed (put4 xs a) (a : Int) = true := by
  unfold isSealed
  rw [put4_length xs a h, rm4_of h, Int.toNat_natCast, oth_put4 xs a h, four_put4 xs a h]
  simp
theorem rd_le {L R : Bytes} {a n k : Nat} (h : L.drop a = le n k ++ R) (h1 : 1 ≤ k) (h8 : k ≤ 8) (hn : n < 256 ^ k) (hl : n < 9223372036854775808) :
    (⟨L, a, false⟩ : Cur).get (k : Int) = ⟨L, a + k, false⟩ ∧ (⟨L, a, false⟩ : Cur).val (k : Int) = n ∧ L.drop (a + k) = R ∧ a + k ≤ L.length := by
  have hlen := congrArg List.length h
  rw [List.length_drop, List.length_append, le_length] at hlen
  have hp : (L.drop a).take k = le n k := by rw [h]; exact List.take_left' (le_length _ _)
  have hnum : num ((L.drop a).take k) = n := by rw [hp]; exact num_le _ _ hn
  obtain ⟨g1, g2⟩ := cur_get (L := L) (a := a) (k := k) (by omega) h1 h8 (by rw [hnum]; exact hl)
  refine ⟨g1, by rw [g2, hnum], ?_, by omega⟩
  rw [← List.drop_drop, h]
  exact List.drop_left' (le_length _ _)
theorem rd_bytes {L R xs : Bytes} {a : Nat} (h : L.drop a = xs ++ R) (ha : a ≤ L.length) : (⟨L, a, false⟩ : Cur).got ((xs.length : Nat) : Int) = xs := by
  have hlen := congrArg List.length h
  rw [List.length_drop, List.length_append] at hlen
  have hle : a + xs.length ≤ L.length := by omega
  have hh : (⟨L, a, false⟩ : Cur).has ((xs.length : Nat) : Int) = true := Cur.has_of rfl hle
  unfold Cur.got
  rw [if_pos hh, Int.toNat_natCast]
  show (L.drop a).take xs.length = xs
  rw [h]
  exact List.take_left' rfl
/-- A meta's bytes ahead of the noughts. -/
def metaH (G PH T X R P L k : Nat) (xs : Bytes) : Bytes := mark4 ++ (le G 1 ++ (le PH 1 ++ (le T 1 ++ (le xs.length 1 ++ (le X k ++ (le R k ++ (le P k ++ (le L k ++ xs))))))))
theorem metaH_len (G PH T X R P L k : Nat) (xs : Bytes) : (metaH G PH T X R P L k xs).length = 8 + 4 * k + xs.length := by
  unfold metaH mark4
  simp only [List.length_append, le_length, List.length_cons, List.length_nil]
  omega
def metaR (H : Bytes) : Bytes := padB 248 H ++ (tail4 ++ [0, 0, 0, 0])
/-- Numbers that a right meta has. -/
structure Nats (G PH T X R P L k : Nat) (xs : Bytes) : Prop where
  hG : G = 1 ∨ G = 2 ∨ G = 3
  hk : tr (G : Int) 4 8 8 = (k : Int)
  hPH : PH ≤ 1
  hT : T ≤ 3
  hX : 1 ≤ X ∧ X ≤ 2147483647
  hP : P ≤ 16384
  hR : R < P
  hL : L < P
  hx : xs.length ≤ 24
theorem Nats.k48 {G PH T X R P L k : Nat} {xs : Bytes} (h : Nats G PH T X R P L k xs) : k = 4 ∨ k = 8 := by
  have := h.hk
  rcases h.hG with rfl | rfl | rfl
  · exact .inl (by have e : tr ((1 : Nat) : Int) 4 8 8 = 4 := rfl; omega)
  · exact .inr (by have e : tr ((2 : Nat) : Int) 4 8 8 = 8 := rfl; omega)
  · exact .inr (by have e : tr ((3 : Nat) : Int) 4 8 8 = 8 := rfl; omega)
theorem Nats.big {G PH T X R P L k : Nat} {xs : Bytes} (h : Nats G PH T X R P L k xs) {z : Nat} (hz : z ≤ 2147483647) : z < 256 ^ k := by
  rcases h.k48 with rfl | rfl
  · have : 256 ^ 4 = 4294967296 := by decide
    omega
  · have : 256 ^ 8 = 18446744073709551616 := by decide
    omega
theorem nats_of {g ph t x r p l : Int} {xs : Bytes} (h : okP g ph t x r p l xs.length) : ∃ G PH T X R P L k : Nat, g = G ∧ ph = PH ∧ t = T ∧ x = X ∧ r = R ∧ p = P ∧ l = L ∧ Nats G PH T X R P L k xs := by
  obtain ⟨h1, h2, h3, h4, h5, h6, h7⟩ := h
  have h24 : (xs.length : Int) ≤ 24 ∧ 0 ≤ ph ∧ ph ≤ 1 ∧ 0 ≤ t ∧ t ≤ 3 := by
    rcases h2 with ⟨a, b, c⟩ | ⟨a, b, c, d⟩
    · omega
    · have : tr t 16 20 24 ≤ 24 := by
        unfold tr
        split
        · decide
        · split
          · decide
          · split <;> decide
      omega
  obtain ⟨k, hk, _⟩ := idw (g := g) (by unfold gen; exact decide_eq_true h1)
  refine ⟨g.toNat, ph.toNat, t.toNat, x.toNat, r.toNat, p.toNat, l.toNat, k, by omega, by omega, by omega, by omega, by omega, by omega, by omega, ?_⟩
  exact ⟨by omega, by rw [Int.toNat_of_nonneg (by omega)]; exact hk, by omega, by omega, by omega, by omega, by omega, by omega, by omega⟩
section
variable {G PH T X R P L k : Nat} {xs : Bytes} (h : Nats G PH T X R P L k xs)
include h
theorem mC_fill : mC [(G : Int), PH, T, X, R, P, L] G xs = fill 256 (padB 248 (metaH G PH T X R P L k xs) ++ tail4) := by
  have hk := h.k48
  have h1 : 1 ≤ k := by omega
  have h8 : k ≤ 8 := by omega
  have hx := h.hx
  have e0 : Cur.make 256 = fill 256 [] := rfl
  have m4 : mark4.length = 4 := rfl
  have t4 : tail4.length = 4 := rfl
  have hl := metaH_len G PH T X R P L k xs
  have f : ∀ z : Nat, z ≤ 2147483647 → fits (z : Int) (tr (G : Int) 4 8 8) = true := fun z hz => by rw [h.hk]; exact fits_nat rfl h1 h8 (h.big hz)
  have hkn : (tr (G : Int) 4 8 8).toNat = k := by rw [h.hk]; exact Int.toNat_natCast _
  have e1 : mC1 [(G : Int), PH, T, X, R, P, L] = fill 256 (mark4 ++ le G 1 ++ le PH 1 ++ le T 1) := by
    unfold mC1 puts
    rw [e0, fill_write (by rw [m4]; decide)]
    show (((fill 256 ([] ++ mark4)).put (G : Int) 1).put (PH : Int) 1).put (T : Int) 1 = _
    rw [List.nil_append, fill_put1 (by have := h.hG; omega) (by rw [m4]; decide), fill_put1 (by have := h.hPH; omega) (by simp only [List.length_append, le_length, m4]; decide), fill_put1 (by have := h.hT; omega) (by simp only [List.length_append, le_length, m4]; decide)]
  have e2 : mC2 [(G : Int), PH, T, X, R, P, L] G xs = fill 256 (metaH G PH T X R P L k xs) := by
    unfold mC2
    rw [e1]
    unfold puts
    show ((((((fill 256 (mark4 ++ le G 1 ++ le PH 1 ++ le T 1)).put (xs.length : Int) 1).put (X : Int) (tr (G : Int) 4 8 8)).put (R : Int) (tr (G : Int) 4 8 8)).put (P : Int) (tr (G : Int) 4 8 8)).put (L : Int) (tr (G : Int) 4 8 8)).write xs = _
    rw [fill_put1 (by omega) (by simp only [List.length_append, le_length, m4]; decide)]
    rw [fill_put (f X h.hX.2) (Int.toNat_natCast _) hkn (by simp only [List.length_append, le_length, m4]; omega)]
    rw [fill_put (f R (by have := h.hP; have := h.hR; omega)) (Int.toNat_natCast _) hkn (by simp only [List.length_append, le_length, m4]; omega)]
    rw [fill_put (f P (by have := h.hP; omega)) (Int.toNat_natCast _) hkn (by simp only [List.length_append, le_length, m4]; omega)]
    rw [fill_put (f L (by have := h.hP; have := h.hL; omega)) (Int.toNat_natCast _) hkn (by simp only [List.length_append, le_length, m4]; omega)]
    rw [fill_write (by simp only [List.length_append, le_length, m4]; omega)]
    unfold metaH
    simp only [List.append_assoc]
  unfold mC
  rw [e2]
  have e3 : (248 : Int) - ((fill 256 (metaH G PH T X R P L k xs)).at_ : Int) = ((248 - (metaH G PH T X R P L k xs).length : Nat) : Int) := by
    show (248 : Int) - ((metaH G PH T X R P L k xs).length : Int) = _
    omega
  rw [fill_take e3 (by omega)]
  have e4 : metaH G PH T X R P L k xs ++ List.replicate (248 - (metaH G PH T X R P L k xs).length) 0 = padB 248 (metaH G PH T X R P L k xs) := rfl
  rw [e4, fill_write (by rw [padB_length (by omega), t4]; decide)]
theorem metaR_len : (metaR (metaH G PH T X R P L k xs)).length = 256 := by
  have hk := h.k48
  have hx := h.hx
  have hl := metaH_len G PH T X R P L k xs
  unfold metaR
  rw [List.length_append, padB_length (by omega)]
  rfl
/-- The meta's page. -/
theorem encB_eq : encB [(G : Int), PH, T, X, R, P, L] xs = put4 (metaR (metaH G PH T X R P L k xs)) 252 := by
  have hk := h.k48
  have hx := h.hx
  have hl := metaH_len G PH T X R P L k xs
  unfold encB
  show sealB (mC _ (G : Int) xs).out 252 = _
  rw [mC_fill h]
  have e1 : (fill 256 (padB 248 (metaH G PH T X R P L k xs) ++ tail4)).out = metaR (metaH G PH T X R P L k xs) := by
    show padB 256 (padB 248 (metaH G PH T X R P L k xs) ++ tail4) = _
    unfold metaR
    have e2 : (padB 248 (metaH G PH T X R P L k xs) ++ tail4).length = 252 := by rw [List.length_append, padB_length (by omega)]; rfl
    unfold padB at e2 ⊢
    rw [e2, List.append_assoc]
    rfl
  rw [e1]
  unfold sealB
  rw [if_pos (by rw [metaR_len h]; rfl)]
  rfl
theorem encB_parts : ∃ F : Bytes, F.length = 4 ∧ encB [(G : Int), PH, T, X, R, P, L] xs = padB 248 (metaH G PH T X R P L k xs) ++ (tail4 ++ F) := by
  have hk := h.k48
  have hx := h.hx
  have hl := metaH_len G PH T X R P L k xs
  refine ⟨le4 (sum (oth (metaR (metaH G PH T X R P L k xs)) 252)), le4_length _, ?_⟩
  rw [encB_eq h]
  unfold put4
  generalize le4 (sum (oth (metaR (metaH G PH T X R P L k xs)) 252)) = F
  have hp : (padB 248 (metaH G PH T X R P L k xs)).length = 248 := padB_length (by omega)
  have e1 : metaR (metaH G PH T X R P L k xs) = (padB 248 (metaH G PH T X R P L k xs) ++ tail4) ++ [0, 0, 0, 0] := by unfold metaR; rw [List.append_assoc]
  have e2 : (padB 248 (metaH G PH T X R P L k xs) ++ tail4).length = 252 := by rw [List.length_append, hp]; rfl
  rw [e1, List.take_left' e2, List.drop_eq_nil_of_le (by rw [List.length_append, e2]; decide), List.append_nil, List.append_assoc]
theorem meta_back (hok : okP (G : Int) PH T X R P L xs.length) : mdE (encB [(G : Int), PH, T, X, R, P, L] xs) = 0 ∧ (rG2 (encB [(G : Int), PH, T, X, R, P, L] xs)).2 = [(G : Int), PH, T, X, R, P, L] ∧ rCursor (encB [(G : Int), PH, T, X, R, P, L] xs) = xs := by
  have hk := h.k48
  have h1 : 1 ≤ k := by omega
  have h8 : k ≤ 8 := by omega
  have hx := h.hx
  have hl := metaH_len G PH T X R P L k xs
  have hp : (padB 248 (metaH G PH T X R P L k xs)).length = 248 := padB_length (by omega)
  obtain ⟨F, hF, hb⟩ := encB_parts h
  obtain ⟨b, hbe⟩ : ∃ b, b = encB [(G : Int), PH, T, X, R, P, L] xs := ⟨_, rfl⟩
  have hsl : isSealed b 252 = true := by
    rw [hbe, encB_eq h]
    exact sealed_put4 _ 252 (by rw [metaR_len h]; decide)
  rw [← hbe] at hb ⊢
  have hlen : b.length = 256 := by rw [hb, List.length_append, hp, List.length_append, hF]; rfl
  have hbig : ∀ z : Nat, z ≤ 2147483647 → z < 256 ^ k ∧ z < 9223372036854775808 := fun z hz => ⟨h.big hz, by omega⟩
  -- the parts
  have d0 : ∃ Z, b = mark4 ++ (le G 1 ++ (le PH 1 ++ (le T 1 ++ (le xs.length 1 ++ (le X k ++ (le R k ++ (le P k ++ (le L k ++ (xs ++ Z))))))))) := by
    refine ⟨List.replicate (248 - (metaH G PH T X R P L k xs).length) 0 ++ (tail4 ++ F), ?_⟩
    rw [hb]
    unfold padB
    generalize List.replicate (248 - (metaH G PH T X R P L k xs).length) (0 : UInt8) = Z0
    unfold metaH
    simp only [List.append_assoc]
  obtain ⟨Z, d0⟩ := d0
  have d4 : b.drop 4 = le G 1 ++ (le PH 1 ++ (le T 1 ++ (le xs.length 1 ++ (le X k ++ (le R k ++ (le P k ++ (le L k ++ (xs ++ Z)))))))) := by rw [d0]; rfl
  have c0 : rC0 b = ⟨b, 4, false⟩ := cur_take (L := b) (a := 0) (k := 4) (by omega)
  obtain ⟨g1, v1, d5, _⟩ := rd_le d4 (by decide) (by decide) (by have := h.hG; omega) (by have := h.hG; omega)
  obtain ⟨g2, v2, d6, _⟩ := rd_le d5 (by decide) (by decide) (by have := h.hPH; omega) (by have := h.hPH; omega)
  obtain ⟨g3, v3, d7, _⟩ := rd_le d6 (by decide) (by decide) (by have := h.hT; omega) (by have := h.hT; omega)
  obtain ⟨g4, v4, d8, _⟩ := rd_le d7 (by decide) (by decide) (by omega) (by omega)
  obtain ⟨g5, v5, d9, _⟩ := rd_le d8 h1 h8 (hbig X h.hX.2).1 (hbig X h.hX.2).2
  obtain ⟨g6, v6, d10, _⟩ := rd_le d9 h1 h8 (hbig R (by have := h.hP; have := h.hR; omega)).1 (by have := h.hP; have := h.hR; omega)
  obtain ⟨g7, v7, d11, _⟩ := rd_le d10 h1 h8 (hbig P (by have := h.hP; omega)).1 (by have := h.hP; omega)
  obtain ⟨g8, v8, d12, hle⟩ := rd_le d11 h1 h8 (hbig L (by have := h.hP; have := h.hL; omega)).1 (by have := h.hP; have := h.hL; omega)
  have r1 : rG1 b = (⟨b, 7, false⟩, [(G : Int), PH, T, 0, 0, 0, 0]) := by
    unfold rG1
    rw [c0]
    show ((((⟨b, 4, false⟩ : Cur).get 1).get 1).get 1, [(((⟨b, 4, false⟩ : Cur).val 1 : Nat) : Int), ((((⟨b, 4, false⟩ : Cur).get 1).val 1 : Nat) : Int), (((((⟨b, 4, false⟩ : Cur).get 1).get 1).val 1 : Nat) : Int), 0, 0, 0, 0]) = _
    have g1' : (⟨b, 4, false⟩ : Cur).get 1 = ⟨b, 5, false⟩ := g1
    have g2' : (⟨b, 5, false⟩ : Cur).get 1 = ⟨b, 6, false⟩ := g2
    have g3' : (⟨b, 6, false⟩ : Cur).get 1 = ⟨b, 7, false⟩ := g3
    have v1' : (⟨b, 4, false⟩ : Cur).val 1 = G := v1
    have v2' : (⟨b, 5, false⟩ : Cur).val 1 = PH := v2
    have v3' : (⟨b, 6, false⟩ : Cur).val 1 = T := v3
    rw [g1', g2', g3', v1', v2', v3']
  have rl : rLong b = (xs.length : Int) := by
    unfold rLong
    rw [r1]
    exact congrArg Int.ofNat v4
  have rgn : rGen b = (G : Int) := by
    unfold rGen
    rw [c0]
    exact congrArg Int.ofNat v1
  have r2 : rG2 b = (⟨b, 4 + 1 + 1 + 1 + 1 + k + k + k + k, false⟩, [(G : Int), PH, T, X, R, P, L]) := by
    unfold rG2
    rw [r1, rgn, h.hk]
    show gets (k : Int) 4 3 ((⟨b, 7, false⟩ : Cur).get 1) [(G : Int), PH, T, 0, 0, 0, 0] = _
    have g4' : (⟨b, 7, false⟩ : Cur).get 1 = ⟨b, 4 + 1 + 1 + 1 + 1, false⟩ := g4
    rw [g4']
    unfold gets gets gets gets gets
    rw [g5, g6, g7, g8, v5, v6, v7, v8]
    rfl
  have rc : rCursor b = xs := by
    unfold rCursor
    rw [r2, rl]
    exact rd_bytes d12 hle
  have hmk : markedB b = true := by
    unfold markedB
    rw [decide_eq_true hlen, Bool.true_and, Bool.and_eq_true, decide_eq_true_eq, decide_eq_true_eq]
    refine ⟨by rw [d0]; rfl, ?_⟩
    rw [hb, List.drop_left' hp]
    rfl
  refine ⟨?_, by rw [r2], rc⟩
  unfold mdE
  rw [r2, rc, if_neg (by rw [hmk]; decide), if_neg (by rw [hsl]; decide)]
  show (if ¬(gen (G : Int) = true ∧ (T : Int) ≤ 3) then (93 : Int) else if okM (G : Int) PH T X R P L xs.length = true ∧ encB [(G : Int), PH, T, X, R, P, L] xs = b then 0 else 92) = 0
  rw [if_neg (fun hh => hh ⟨by unfold gen; rw [decide_eq_true_eq]; have := h.hG; omega, by have := h.hT; omega⟩), if_pos ⟨decide_eq_true hok, hbe.symm⟩]
end
/-- What was encoded is decoded as it was. -/
theorem enc_back {g ph t x r p l : Int} {xs : Bytes} (hok : okM g ph t x r p l xs.length = true) : mdE (encB [g, ph, t, x, r, p, l] xs) = 0 ∧ mdM (encB [g, ph, t, x, r, p, l] xs) = [g, ph, t, x, r, p, l] ∧ mdX (encB [g, ph, t, x, r, p, l] xs) = xs ∧ (encB [g, ph, t, x, r, p, l] xs).length = 256 := by
  have hp : okP g ph t x r p l xs.length := of_decide_eq_true hok
  obtain ⟨G, PH, T, X, R, P, L, k, rfl, rfl, rfl, rfl, rfl, rfl, rfl, h⟩ := nats_of hp
  obtain ⟨h1, h2, h3⟩ := meta_back h hp
  refine ⟨h1, ?_, ?_, ?_⟩
  · unfold mdM
    rw [if_pos h1, h2]
  · unfold mdX
    rw [if_pos h1, h3]
  · rw [encB_eq h, put4_length _ _ (by rw [metaR_len h]; decide), metaR_len h]
end Go.Proofs.YtbpldkhgiddmlaaGreatDoor
