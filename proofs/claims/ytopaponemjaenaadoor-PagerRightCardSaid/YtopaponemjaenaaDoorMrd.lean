/-
  Metas: read.
-/
import Derived.Test.YtopaponemjaenaaDoorMen
set_option linter.unusedVariables false
namespace Go.Proofs.YtopaponemjaenaaDoor
open Go.RowKit

theorem load_meta {w : World} {q : Nat} {a b c d e f g : Int} {A : Option Addr} {n k : Nat} (h : Blk w q 36 [.int .i64 a, .int .i64 b, .int .i64 c, .int .i64 d, .int .i64 e, .int .i64 f, .int .i64 g, .slice A n k]) : (loadVar 36 ⟨q, 0, none⟩).run Tryd.prog w = .ok (.agg #[.int .i64 a, .int .i64 b, .int .i64 c, .int .i64 d, .int .i64 e, .int .i64 f, .int .i64 g, .slice A n k]) w := by
  have hl := run_loadCells_list (P := Tryd.prog) w ⟨q, 0, none⟩ [.int .i64 a, .int .i64 b, .int .i64 c, .int .i64 d, .int .i64 e, .int .i64 f, .int .i64 g, .slice A n k] (fun j z hz => by rw [Addr.add_lit, h.cell, Nat.zero_add]; exact hz)
  simp only [List.length_cons, List.length_nil] at hl
  simp [loadVar, hl]
/-- A meta came back. -/
def GaveMt (w : World) (M : List Int) (xs : Bytes) (e : Ending) (w' : World) : Prop := ∃ (g ph t x r p l : Int) (A : Option Addr) (n c : Nat), M = [g, ph, t, x, r, p, l] ∧ n = xs.length ∧ e = .returned (.agg #[.int .i64 g, .int .i64 ph, .int .i64 t, .int .i64 x, .int .i64 r, .int .i64 p, .int .i64 l, .slice A n c]) ∧ New w' w.heap.size (.slice A n c) xs ∧ Only (w.heap.size ≤ ·) w w'
/-- What stands while a page is read. -/
structure DecS (w : World) (bm bR B p q : Nat) (M : List Int) (cv : Value) (W : World) (c : Cur) : Prop where
  ho : Only (w.heap.size ≤ ·) w W
  cells : Cells7 W bm M cv
  res : Blk W bR 36 [.int .i64 0, .int .i64 0, .int .i64 0, .int .i64 0, .int .i64 0, .int .i64 0, .int .i64 0, .slice none 0 0]
  arr : At7 W B bm
  hold : Holds W p q 136 c
  lo : w.heap.size ≤ bm ∧ w.heap.size ≤ bR ∧ bm ≠ bR ∧ B ≠ bm ∧ bm < p ∧ bm < q ∧ B < p ∧ B < q ∧ bR < p ∧ bR < q ∧ p < W.heap.size ∧ q < W.heap.size
section
variable {w W W' : World} {bm bR B p q : Nat} {M M' : List Int} {cv cv' : Value} {c c' : Cur}
theorem DecS.nb (h : DecS w bm bR B p q M cv W c) : B ≠ p ∧ B ≠ bm := by have := h.lo; omega
theorem DecS.nm (h : DecS w bm bR B p q M cv W c) : bm ≠ p ∧ bm ≠ q := by have := h.lo; omega
theorem DecS.step (h : DecS w bm bR B p q M cv W c) (hh : Holds W' p q 136 c') (ho : Only (· = p) W W') : DecS w bm bR B p q M cv W' c' :=
  ⟨h.ho.trans (ho.mono fun j hj => by have := h.lo; omega), h.cells.only ho (by have := h.lo; omega), h.res.only ho (by have := h.lo; omega), h.arr.only ho (by have := h.lo; omega), hh, by have := h.lo; have := ho.size; omega⟩
theorem DecS.got (h : DecS w bm bR B p q M cv W c) (hh : Holds W' p q 136 c') (hc : Cells7 W' bm M' cv) (ho : Only (fun j => j = p ∨ j = bm) W W') : DecS w bm bR B p q M' cv W' c' :=
  ⟨h.ho.trans (ho.mono fun j hj => by have := h.lo; omega), hc, h.res.only ho (by have := h.lo; omega), h.arr.only ho (by have := h.lo; omega), hh, by have := h.lo; have := ho.size; omega⟩
theorem DecS.readb (h : DecS w bm bR B p q M cv W c) (hh : Holds W' p q 136 c') (ho : Only (fun k => k = p ∨ W.heap.size ≤ k) W W') : DecS w bm bR B p q M cv W' c' :=
  ⟨h.ho.trans (ho.mono fun j hj => by have := h.lo; have := h.ho.size; omega), h.cells.only ho (by have := h.lo; omega), h.res.only ho (by have := h.lo; omega), h.arr.only ho (by have := h.lo; omega), hh, by have := h.lo; have := ho.size; omega⟩
theorem DecS.later (h : DecS w bm bR B p q M cv W c) (ho : Only (W.heap.size ≤ ·) W W') : DecS w bm bR B p q M cv W' c :=
  ⟨on_new h.ho ho, h.cells.only ho (by have := h.lo; omega), h.res.only ho (by have := h.lo; omega), h.arr.only ho (by have := h.lo; omega), h.hold.later ho, by have := h.lo; have := ho.size; omega⟩
theorem DecS.drew (h : DecS w bm bR B p q M cv W c) : DecS w bm bR B p q M cv W.drew c := h.later (Only.refl _ _).drew
theorem DecS.at0 (h : DecS w bm bR B p q M cv W c) {g : Int} (hg : M[0]? = some g) : W.cell? ⟨bm, 0, none⟩ = some (.int .i64 g) := h.cells.at_ hg
end
/-- The reader's way. -/
def rC0 (b : Bytes) : Cur := (Cur.new b).take 4
def rG1 (b : Bytes) : Cur × List Int := gets 1 3 0 (rC0 b) [0, 0, 0, 0, 0, 0, 0]
def rLong (b : Bytes) : Int := (rG1 b).1.val 1
def rGen (b : Bytes) : Int := (rC0 b).val 1
def rG2 (b : Bytes) : Cur × List Int := gets (tr (rGen b) 4 8 8) 4 3 ((rG1 b).1.get 1) (rG1 b).2
def rCursor (b : Bytes) : Bytes := (rG2 b).1.got (rLong b)
theorem gets_len (k : Int) : ∀ (n o : Nat) (c : Cur) (M : List Int), (gets k n o c M).2.length = M.length
  | 0, _, _, _ => rfl
  | n + 1, o, c, M => (gets_len k n (o + 1) _ _).trans (List.length_set ..)
theorem rG1_gen (b : Bytes) : (rG1 b).2[0]? = some (rGen b) := rfl
theorem rG2_gen (b : Bytes) : (rG2 b).2[0]? = some (rGen b) := rfl
theorem rG2_len (b : Bytes) : (rG2 b).2.length = 7 := by unfold rG2 rG1; rw [gets_len, gets_len]; rfl
set_option maxRecDepth 100000 in
set_option maxHeartbeats 12800000 in
theorem Mread_c (w : World) (v : Value) (b : Bytes) (hG : Gens w) (hs : Src w v b) (hn : b.length ≤ 65536) : Calls Tryd.prog 79 #[v] w (GaveMt w (rG2 b).2 (rCursor b)) := by
  obtain ⟨w1, hw1⟩ : ∃ W0, W0 = (w.alloc (.cells #[.int .i64 0, .int .i64 0, .int .i64 0, .int .i64 0, .int .i64 0, .int .i64 0, .int .i64 0, .slice none 0 0] 36)).alloc (.cells #[.int .i64 0, .int .i64 0, .int .i64 0, .int .i64 0, .int .i64 0, .int .i64 0, .int .i64 0, .slice none 0 0] 36) := ⟨_, rfl⟩
  have HO : Hid (Only (w.heap.size ≤ ·) w w1) := Lib.hid (by rw [hw1]; exact ((Only.refl _ w).alloc (fun _ h => h) _).alloc (fun _ h => h) _)
  have HR : Hid (Blk w1 w.heap.size 36 [.int .i64 0, .int .i64 0, .int .i64 0, .int .i64 0, .int .i64 0, .int .i64 0, .int .i64 0, .slice none 0 0]) := Lib.hid (by rw [hw1]; exact (Blk.new w 36 _).alloc _)
  have HA : Hid (Blk w1 (w.heap.size + 1) 36 [.int .i64 0, .int .i64 0, .int .i64 0, .int .i64 0, .int .i64 0, .int .i64 0, .int .i64 0, .slice none 0 0]) := Lib.hid (by
    rw [hw1]
    have := Blk.new (w.alloc (.cells #[.int .i64 0, .int .i64 0, .int .i64 0, .int .i64 0, .int .i64 0, .int .i64 0, .int .i64 0, .slice none 0 0] 36)) 36 [.int .i64 0, .int .i64 0, .int .i64 0, .int .i64 0, .int .i64 0, .int .i64 0, .int .i64 0, .slice none 0 0]
    simpa using this)
  have HF : Hid (∀ W b, Calls Tryd.prog 49 #[.pointer (some ⟨b, 0, none⟩)] W (Told W (.agg #[.pointer (some ⟨b, 0, none⟩), .pointer (some ⟨b, 1, none⟩), .pointer (some ⟨b, 2, none⟩), .pointer (some ⟨b, 3, none⟩), .pointer (some ⟨b, 4, none⟩), .pointer (some ⟨b, 5, none⟩), .pointer (some ⟨b, 6, none⟩)]))) := Lib.hid fun W b => fields_c W b
  obtain ⟨gg, hgg⟩ : ∃ gg, gg = rGen b := ⟨_, rfl⟩
  have HGG : Hid ((rG1 b).2[0]? = some gg) := Lib.hid (by rw [hgg]; exact rG1_gen b)
  have HG2 : Hid ((rG2 b).2[0]? = some gg) := Lib.hid (by rw [hgg]; exact rG2_gen b)
  have HWD : Hid (∀ W, Only (w.heap.size ≤ ·) w W → Calls Tryd.prog 71 #[.int .i64 gg] W (Told W (.int .i64 (tr (rGen b) 4 8 8)))) := Lib.hid fun W hW => by rw [hgg]; exact Mwide_c W (rGen b) (hG.later hW)
  have HNR : Hid (∀ W, Only (w.heap.size ≤ ·) w W → Calls Tryd.prog 90 #[v] W (Made W 136 (Cur.new b))) := Lib.hid fun W hW => NewReader_c W v b (hs.later hW) (by omega)
  clear hG hs hn hgg
  go_enter Tryd.func79, Tryd.ntmps79
  go_upto_region 1 with (fail)
  go_upto_region 2 with (fail)
  rw [← hw1]
  clear hw1
  go_upto_region 3 with (go_at_call 49; (with_reducible refine (HF.out _ _).mono ?_); rintro ee w3 ⟨rfl, ho⟩; have HRL : Hid (w.heap.size + 1 < w3.heap.size) := Lib.hid (Nat.lt_of_lt_of_le HA.out.lt ho.size); (replace HA := Lib.hid (HA.out.later ho)); (replace HR := Lib.hid (HR.out.later ho)); (replace HO := Lib.hid (on_new HO.out ho)); clear ho)
  obtain ⟨w4, hw4⟩ : ∃ y, y = w3.alloc (.cells #[.pointer (some ⟨(w.heap.size + 1), 0, none⟩), .pointer (some ⟨(w.heap.size + 1), 1, none⟩), .pointer (some ⟨(w.heap.size + 1), 2, none⟩), .pointer (some ⟨(w.heap.size + 1), 3, none⟩), .pointer (some ⟨(w.heap.size + 1), 4, none⟩), .pointer (some ⟨(w.heap.size + 1), 5, none⟩), .pointer (some ⟨(w.heap.size + 1), 6, none⟩)] 90) := ⟨_, rfl⟩
  have HP : Hid (At7 w4 w3.heap.size (w.heap.size + 1)) := Lib.hid (by rw [hw4]; exact Blk.new w3 90 _)
  replace HA : Hid (Cells7 w4 (w.heap.size + 1) [0, 0, 0, 0, 0, 0, 0] (.slice none 0 0)) := Lib.hid (by rw [hw4]; exact ⟨rfl, HA.out.alloc _⟩)
  replace HR := Lib.hid (HR.out.alloc (.cells #[.pointer (some ⟨(w.heap.size + 1), 0, none⟩), .pointer (some ⟨(w.heap.size + 1), 1, none⟩), .pointer (some ⟨(w.heap.size + 1), 2, none⟩), .pointer (some ⟨(w.heap.size + 1), 3, none⟩), .pointer (some ⟨(w.heap.size + 1), 4, none⟩), .pointer (some ⟨(w.heap.size + 1), 5, none⟩), .pointer (some ⟨(w.heap.size + 1), 6, none⟩)] 90))
  rw [← hw4] at HR
  have HLO : Hid (w.heap.size + 1 < w3.heap.size ∧ w3.heap.size < w4.heap.size) := Lib.hid (by have := HRL.out; rw [hw4]; simp; omega)
  replace HO : Hid (Only (w.heap.size ≤ ·) w w4) := Lib.hid (by rw [hw4]; exact HO.out.alloc (fun _ h => h) _)
  rw [← hw4]
  clear hw4 HRL
  go_upto_region 4 with (go_at_call 90; (with_reducible refine (HNR.out _ HO.out).mono ?_); rintro ee w5 ⟨p', q', rfl, hp, hq, hh, ho, hqs⟩; have HS : Hid (DecS w (w.heap.size + 1) w.heap.size w3.heap.size p' q' [0, 0, 0, 0, 0, 0, 0] (.slice none 0 0) w5 (Cur.new b)) := Lib.hid ⟨on_new HO.out ho, HA.out.only ho (by have := HLO.out; omega), HR.out.only ho (by have := HLO.out; omega), HP.out.only ho (by have := HLO.out; omega), hh, by have := HLO.out; have := hh.lt; omega⟩; clear hh ho hp hq hqs)
  go_upto_region 5 with (go_at_call 72; (with_reducible refine (Skip_c _ _ _ _ _ HS.out.hold _).mono ?_); rintro ee w5 ⟨rfl, hh, ho⟩; (replace HS := Lib.hid (HS.out.step hh ho)); clear hh ho)
  go_upto_region 6 with (go_at_call 91; (with_reducible refine (get_c _ _ _ _ _ _ _ _ _ _ _ _ HS.out.hold HS.out.arr HS.out.cells HS.out.nb HS.out.nm (by decide)).mono ?_); rintro ee w5 ⟨rfl, hh, hc, ho⟩; (replace HS := Lib.hid (HS.out.got hh hc ho)); clear hh hc ho)
  go_upto_region 7 with (go_at_call 92; (with_reducible refine (Get_c _ _ _ _ HS.out.hold _).mono ?_); rintro ee w5 ⟨rfl, hh, ho⟩; (replace HS := Lib.hid (HS.out.step hh ho)); clear hh ho)
  replace HS : Hid (DecS w (w.heap.size + 1) w.heap.size w3.heap.size p' q' (rG1 b).2 (.slice none 0 0) w5 ((rG1 b).1.get 1)) := HS
  replace HS := Lib.hid HS.out.drew
  refine wp_region_list (B := [false, false, false, false, false, false]) (S := (fun W => W.cell? ⟨w.heap.size + 1, 0, none⟩ = some (.int .i64 gg))) (by kernel_rfl) (by kernel_rfl) (by kernel_rfl) (HS.out.at0 HGG.out) (fun hsel hHeld => ?_)
  generalize hwz : World.drew _ = wz at HS hHeld ⊢
  clear hwz
  refine oneA 0 19 hsel (h := ?_)
  simp only [Act.put, List.setIfInBounds_toArray, List.set_cons_zero, List.set_cons_succ]
  refine oneA 1 20 hsel (h := ?_)
  simp only [Act.put, List.setIfInBounds_toArray, List.set_cons_zero, List.set_cons_succ]
  refine oneA 2 21 hsel (h := ?_)
  simp only [Act.put, List.setIfInBounds_toArray, List.set_cons_zero, List.set_cons_succ]
  refine oneA 3 22 hsel (h := ?_)
  simp only [Act.put, List.setIfInBounds_toArray, List.set_cons_zero, List.set_cons_succ]
  refine wpAnyL_ready (rs := [4]) (by kernel_rfl) (by kernel_rfl) (by simp) ?_
  refine AllReadyL.cons (o := ?_) ?_ (fun K hK => ?_) AllReadyL.nil
  case refine_2 => (simp only [List.getElem?_cons_succ, List.getElem?_cons_zero]; rfl)
  go_simp
  (go_at_call 71; (with_reducible refine (HWD.out _ HS.out.ho).mono ?_); rintro ee w5 ⟨rfl, ho⟩; (replace HS := Lib.hid (HS.out.later ho)); clear ho)
  go_wp2_with (fail)
  clear hHeld
  refine hK.out _ _ (HS.out.at0 HGG.out) (fun hHeld => ?_)
  clear hK K
  try simp only [List.set_cons_zero, List.set_cons_succ]
  refine wpAnyL_ready (rs := [5]) (by kernel_rfl) (by kernel_rfl) (by simp) ?_
  refine AllReadyL.cons (o := ?_) ?_ (fun K hK => ?_) AllReadyL.nil
  case refine_2 => (simp only [List.getElem?_cons_succ, List.getElem?_cons_zero]; rfl)
  go_simp
  (go_at_call 91; (with_reducible refine (get_c _ _ _ _ _ _ _ _ _ _ _ _ HS.out.hold HS.out.arr HS.out.cells HS.out.nb HS.out.nm (by decide)).mono ?_); rintro ee w5 ⟨rfl, hh, hc, ho⟩; (replace HS := Lib.hid (HS.out.got hh hc ho)); clear hh hc ho)
  go_wp2_with (fail)
  clear hHeld
  refine hK.out _ _ (HS.out.at0 HG2.out) (fun hHeld => ?_)
  clear hK K
  try simp only [List.set_cons_zero, List.set_cons_succ]
  refine wpAnyL_done (by kernel_rfl) (by kernel_rfl) ?_ _
  clear hsel hHeld
  replace HS : Hid (DecS w (w.heap.size + 1) w.heap.size w3.heap.size p' q' (rG2 b).2 (.slice none 0 0) w5 (rG2 b).1) := HS
  obtain ⟨g, ph, t, x, r, p, l, hM⟩ : ∃ g ph t x r p l, (rG2 b).2 = [g, ph, t, x, r, p, l] := by
    have h := rG2_len b
    generalize (rG2 b).2 = L at h
    match L, h with
    | [g, ph, t, x, r, p, l], _ => exact ⟨g, ph, t, x, r, p, l, rfl⟩
  rw [hM] at HS
  have HM := Lib.hid hM
  have HBL : Hid (w.heap.size + 1 < w5.heap.size) := Lib.hid (by have := HS.out.lo; omega)
  clear hM HGG HG2 HWD HNR HF HP HA HR HO
  have f7 := HS.out.cells.2.frozen 7
  have c7 : w5.cell? ⟨w.heap.size + 1, 7, none⟩ = some (.slice none 0 0) := HS.out.cells.2.cell 7
  go_upto_region 9 with (go_at_call 93; (with_reducible refine (RBytes_n _ _ _ _ HS.out.hold _).mono ?_); rintro ee w6 ⟨A, c, rfl, hnew, hh, ho⟩; (replace HS := Lib.hid (HS.out.readb hh ho)); have HNW := Lib.hid hnew; clear hnew hh ho f7 c7; have f7 := HS.out.cells.2.frozen 7; have c7 : w6.cell? ⟨w.heap.size + 1, 7, none⟩ = some (.slice none 0 0) := HS.out.cells.2.cell 7)
  generalize hn : List.length ((rG2 b).1.got (((gets 1 3 0 ((Cur.new b).take 4) [0, 0, 0, 0, 0, 0, 0]).1.val 1 : Nat) : Int)) = n at HNW ⊢
  have HNE : Hid (n = (rCursor b).length) := Lib.hid (by rw [← hn]; rfl)
  obtain ⟨W8, hW8⟩ : ∃ y, y = w6.setCell ⟨w.heap.size + 1, 7, none⟩ (.slice A n c) := ⟨_, rfl⟩
  have HB8 : Hid (Blk W8 (w.heap.size + 1) 36 [.int .i64 g, .int .i64 ph, .int .i64 t, .int .i64 x, .int .i64 r, .int .i64 p, .int .i64 l, .slice A n c]) := Lib.hid (by rw [hW8]; exact HS.out.cells.2.set_ 7 (.slice A n c))
  have HR8 : Hid (Blk W8 w.heap.size 36 [.int .i64 0, .int .i64 0, .int .i64 0, .int .i64 0, .int .i64 0, .int .i64 0, .int .i64 0, .slice none 0 0]) := Lib.hid (by rw [hW8]; exact HS.out.res.far (p := ⟨w.heap.size + 1, 7, none⟩) (by have := HS.out.lo; simp) _)
  have HO8 : Hid (Only (w.heap.size ≤ ·) w W8) := Lib.hid (by rw [hW8]; exact HS.out.ho.setCell (p := ⟨w.heap.size + 1, 7, none⟩) (Nat.le_succ _) _)
  have HW68 : Hid (Only (fun j => j = w.heap.size ∨ j = w.heap.size + 1) w6 W8) := Lib.hid (by rw [hW8]; exact (Only.refl _ w6).setCell (p := ⟨w.heap.size + 1, 7, none⟩) (.inr rfl) _)
  rw [← hW8]
  clear f7 c7 hn hW8
  obtain ⟨b0, b1, b2, b3, b4, b5, b6, b7⟩ := HB8.out.eight
  obtain ⟨r0, r1, r2, r3, r4, r5, r6, r7⟩ := HR8.out.eight
  have z0 := HR8.out.frozen 0
  have z1 := HR8.out.frozen 1
  have z2 := HR8.out.frozen 2
  have z3 := HR8.out.frozen 3
  have z4 := HR8.out.frozen 4
  have z5 := HR8.out.frozen 5
  have z6 := HR8.out.frozen 6
  have z7 := HR8.out.frozen 7
  go_wp2
  refine bodyPost_ret (results_cell rfl rfl (load_meta ((((((((HR8.out.set_ 0 (.int .i64 g)).set_ 1 (.int .i64 ph)).set_ 2 (.int .i64 t)).set_ 3 (.int .i64 x)).set_ 4 (.int .i64 r)).set_ 5 (.int .i64 p)).set_ 6 (.int .i64 l)).set_ 7 (.slice A n c)))) rfl ?_
  refine ⟨g, ph, t, x, r, p, l, A, n, c, HM.out, HNE.out, rfl, ?_, ((((((((HO8.out.setCell (p := ⟨w.heap.size, 0, none⟩) (Nat.le_refl _) (.int .i64 g)).setCell (p := ⟨w.heap.size, 1, none⟩) (Nat.le_refl _) (.int .i64 ph)).setCell (p := ⟨w.heap.size, 2, none⟩) (Nat.le_refl _) (.int .i64 t)).setCell (p := ⟨w.heap.size, 3, none⟩) (Nat.le_refl _) (.int .i64 x)).setCell (p := ⟨w.heap.size, 4, none⟩) (Nat.le_refl _) (.int .i64 r)).setCell (p := ⟨w.heap.size, 5, none⟩) (Nat.le_refl _) (.int .i64 p)).setCell (p := ⟨w.heap.size, 6, none⟩) (Nat.le_refl _) (.int .i64 l)).setCell (p := ⟨w.heap.size, 7, none⟩) (Nat.le_refl _) (.slice A n c))⟩
  exact (HNW.out.keep ((((((((HW68.out.setCell (p := ⟨w.heap.size, 0, none⟩) (.inl rfl) (.int .i64 g)).setCell (p := ⟨w.heap.size, 1, none⟩) (.inl rfl) (.int .i64 ph)).setCell (p := ⟨w.heap.size, 2, none⟩) (.inl rfl) (.int .i64 t)).setCell (p := ⟨w.heap.size, 3, none⟩) (.inl rfl) (.int .i64 x)).setCell (p := ⟨w.heap.size, 4, none⟩) (.inl rfl) (.int .i64 r)).setCell (p := ⟨w.heap.size, 5, none⟩) (.inl rfl) (.int .i64 p)).setCell (p := ⟨w.heap.size, 6, none⟩) (.inl rfl) (.int .i64 l)).setCell (p := ⟨w.heap.size, 7, none⟩) (.inl rfl) (.slice A n c)) (fun k h1 _ h3 => by have := HBL.out; omega)).mono (by have := HBL.out; omega)
end Go.Proofs.YtopaponemjaenaaDoor
