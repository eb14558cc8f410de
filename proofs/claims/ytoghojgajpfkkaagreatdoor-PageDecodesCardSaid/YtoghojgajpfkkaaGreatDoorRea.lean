/-
  readingOf, read: the node that a body tells.
-/
import Derived.Test.YtoghojgajpfkkaaGreatDoorAdd
import Derived.Test.YtoghojgajpfkkaaGreatDoorPhd
import Derived.Test.YtoghojgajpfkkaaGreatDoorGb
set_option linter.unusedVariables false
namespace Go.Proofs.YtoghojgajpfkkaaGreatDoor
open Go.RowKit
attribute [local go_sem] run_store_func

theorem readingOf_L (w : World) : Calls Tryz.prog 50 #[.int .i64 76] w fun e w' => e = .returned (.func (.func 80) #[] #[]) ∧ w = w' := by
  go_enter Tryz.func50, Tryz.ntmps50
  go_wp2
  go_ret
  exact ⟨rfl, rfl⟩
theorem readingOf_K (w : World) (k : Int) (hk : k ≠ 76) : Calls Tryz.prog 50 #[.int .i64 k] w fun e w' => e = .returned (.func (.func 81) #[] #[]) ∧ w = w' := by
  have hb : (k == 76) = false := by rw [beq_eq_false_iff_ne]; exact hk
  clear hk
  go_enter Tryz.func50, Tryz.ntmps50
  go_wp2
  go_ret
  exact ⟨rfl, rfl⟩
/-- So many are read, as long as nothing is missing. -/
def rdLoop {α : Type} (f : Cur → α × Cur) : Nat → List α → Cur → List α × Cur
  | 0, a, c => (a, c)
  | n + 1, a, c => if c.sp = true then (a, c) else rdLoop f n (a ++ [(f c).1]) (f c).2
theorem rdLoop_sp {α : Type} (f : Cur → α × Cur) (n : Nat) (a : List α) {c : Cur} (h : c.sp = true) : rdLoop f n a c = (a, c) := by
  cases n with
  | zero => rfl
  | succ n => rw [rdLoop, if_pos h]
def rdN (lf : Bool) (g : Int) (cnt : Nat) (b : Bytes) : Nd := if lf = true then ⟨true, (rdLoop (rdI g) cnt [] (Cur.new b)).1, []⟩ else ⟨false, [], (rdLoop (rdK g) cnt [] (Cur.new b)).1⟩
def rdC (lf : Bool) (g : Int) (cnt : Nat) (b : Bytes) : Cur := if lf = true then (rdLoop (rdI g) cnt [] (Cur.new b)).2 else (rdLoop (rdK g) cnt [] (Cur.new b)).2
/-- A node came back, and a number. -/
def GaveR (w : World) (x : Nd) (z : Int) (e : Ending) (w' : World) : Prop := ∃ A n c B m d, e = .returned (.tuple #[.agg #[.bool x.leaf, .slice A n c, .slice B m d], .int .i64 z]) ∧ Nod w' x x.leaf (.slice A n c) (.slice B m d) ∧ Only (w.heap.size ≤ ·) w w'
theorem load_node {w : World} {g : Nat} {b : Bool} {v u : Value} (h : Blk w g 28 [.bool b, v, u]) (hv : v.oneCell' = true) (hu : u.oneCell' = true) : (loadVar 28 ⟨g, 0, none⟩).run Tryz.prog w = .ok (.agg #[.bool b, v, u]) w := by
  have hl := run_loadCells_list (P := Tryz.prog) w ⟨g, 0, none⟩ [.bool b, v, u] (fun j z hz => by rw [Addr.add_lit, h.cell, Nat.zero_add]; exact hz)
  simp only [List.length_cons, List.length_nil] at hl
  simp [loadVar, hl]
def itK (B : Nat) (ob : Option Nat) (w : World) (x : It) (cs : List Value) : Prop := ∃ P pc Q qc, cs = [.slice P x.1.length pc, .slice Q x.2.1.length qc, .int .i64 x.2.2.1, .int .i64 x.2.2.2] ∧ KeyAt B w ob (.slice P x.1.length pc) x.1 ∧ KeyAt B w ob (.slice Q x.2.1.length qc) x.2.1
def kdK (B : Nat) (ob : Option Nat) (w : World) (x : Kd) (cs : List Value) : Prop := ∃ P pc, cs = [.slice P x.1.length pc, .int .i64 x.2] ∧ KeyAt B w ob (.slice P x.1.length pc) x.1

/-- Under way: what has been read stands behind the node's variable. -/
def RedL (wB : World) (p q bn : Nat) (c : Cur) (R : Option Addr) (n t : Nat) (l : List It) (wr : World) : Prop :=
  ∃ C, n = l.length ∧ Holds wr p q 84 c ∧ Blk wr bn 28 [.bool true, .slice R n t, .slice none 0 0] ∧ wr.ownsRow wB.heap.size 44 4 (.slice R n t) n C ∧ Den (itK wB.heap.size (Value.slice R n t).ownBlock wr) l C ∧ Only (fun j => j = p ∨ j = bn ∨ wB.heap.size ≤ j) wB wr
theorem RedL.step {wB wr w' : World} {p q bn : Nat} {c' : Cur} {R : Option Addr} {n t : Nat} {l : List It} {y : It} {C : List Value} (hp : p < wB.heap.size) (hbn : bn < wB.heap.size) (hn : n = l.length) (hd : Den (itK wB.heap.size (Value.slice R n t).ownBlock wr) l C) (ho : Only (fun j => j = p ∨ j = bn ∨ wB.heap.size ≤ j) wB wr)
    (hr : wr.ownsRow wB.heap.size 44 4 (.slice R n t) n C)
    (h : AddsI wr p q bn wB.heap.size c' true (.slice none 0 0) R n t C y (.returned (.tuple #[])) w') : ∃ R' t', RedL wB p q bn c' R' (n + 1) t' (l ++ [y]) w' := by
  obtain ⟨R', t', P, pc, Q, qc, _, h1, h2, h3, h4, h5, h6, h7⟩ := h
  have hsz := ho.size
  have hlt := World.ownsRow.lt hr
  refine ⟨R', t', _, by rw [List.length_append, hn]; rfl, h1, h2, h3, ?_, ?_⟩
  · refine Den.append (hd.mono fun x cs hx => ?_) (Den.single ?_)
    · have hF : ∀ j, wB.heap.size ≤ j → j < wr.heap.size → (j = p ∨ j = bn ∨ (Value.slice R n t).ownBlock = some j ∨ wr.heap.size ≤ j) → (Value.slice R n t).ownBlock = some j := fun j j1 j2 j3 => by
        rcases j3 with j3 | j3 | j3 | j3
        · omega
        · omega
        · exact j3
        · omega
      obtain ⟨P1, p1, Q1, q1, e, k1, k2⟩ := hx
      exact ⟨P1, p1, Q1, q1, e, k1.step h7 hF h6, k2.step h7 hF h6⟩
    · exact ⟨P, pc, Q, qc, rfl, h4, h5⟩
  · refine ho.trans (h7.mono fun j hj => ?_)
    rcases hj with hj | hj | hj | hj
    · exact .inl hj
    · exact .inr (.inl hj)
    · exact .inr (.inr (hlt j hj).1)
    · exact .inr (.inr (by omega))
theorem RedL.nod {wB wr w' : World} {p q bn : Nat} {c : Cur} {R : Option Addr} {n t : Nat} {l : List It} {F : Nat → Prop} (h : RedL wB p q bn c R n t l wr) (ho : Only F wr w') (hF : ∀ j, F j → j < wB.heap.size ∨ wr.heap.size ≤ j) :
    Nod w' ⟨true, l, []⟩ true (.slice R n t) (.slice none 0 0) := by
  obtain ⟨C, hn, _, _, hr, hd, _⟩ := h
  have hlt := World.ownsRow.lt hr
  have hr' := own_on hr ho fun j hj hf => by have h1 := hlt j hj; rcases hF j hf with h2 | h2 <;> omega
  have hd' : Den (itE.At w') l C := hd.mono fun x cs hx => by
    have hk : ∀ (v : Value) (xs : Bytes), KeyAt wB.heap.size wr (Value.slice R n t).ownBlock v xs → Src w' v xs := fun v xs h => h.1.on ho fun ad m c e hm hf => by
      have h1 := h.2 ad m c e hm
      have h2 := h.1
      rw [e] at h2
      have h3 := h2.at_block hm
      rcases hF _ hf with h4 | h4 <;> omega
    obtain ⟨P1, p1, Q1, q1, e, k1, k2⟩ := hx
    exact ⟨P1, p1, Q1, q1, e, hk _ _ k1, hk _ _ k2⟩
  have hw := Own.rw_ (E := itE) (t := 44) (B := wB.heap.size) ⟨hn, C, hd', hr'⟩
  exact ⟨rfl, hw, Rw.nil_ _⟩
set_option maxRecDepth 100000 in
set_option maxHeartbeats 12800000 in
theorem read_L (w : World) (v : Value) (b : Bytes) (g xx : Int) (cnt : Nat) (hcnt : cnt ≤ 65535) (hG : Gens w) (hs : Src w v b) (hbl : b.length ≤ 65536) :
    Calls Tryz.prog 18 #[.agg #[.int .i64 76, .int .i64 g, .int .i64 (cnt : Nat), .int .i64 xx], v] w (GaveR w (rdN true g cnt b) (rdC true g cnt b).err) := by
  obtain ⟨w1, hw1⟩ : ∃ w1, w1 = (w.alloc (.cells #[.int .i64 76, .int .i64 g, .int .i64 (cnt : Nat), .int .i64 xx] 47)).alloc (.cells #[.bool false, .slice none 0 0, .slice none 0 0] 28) := ⟨_, rfl⟩
  have HO : Hid (Only (w.heap.size ≤ ·) w w1) := Lib.hid (by rw [hw1]; exact ((Only.refl _ w).alloc (fun _ h => h) _).alloc (fun _ h => h) _)
  have HZ : Hid (w1.heap.size = w.heap.size + 2) := Lib.hid (by rw [hw1]; simp)
  have HHD : Hid (Blk w1 w.heap.size 47 [.int .i64 76, .int .i64 g, .int .i64 (cnt : Nat), .int .i64 xx]) := Lib.hid (by rw [hw1]; exact (Blk.new w 47 _).alloc _)
  have HRS : Hid (Blk w1 (w.heap.size + 1) 28 [.bool false, .slice none 0 0, .slice none 0 0]) := Lib.hid (by
    rw [hw1]
    have := Blk.new (w.alloc (.cells #[.int .i64 76, .int .i64 g, .int .i64 (cnt : Nat), .int .i64 xx] 47)) 28 [.bool false, .slice none 0 0, .slice none 0 0]
    simpa using this)
  have HNR : Hid (∀ W, Only (w.heap.size ≤ ·) w W → Calls Tryz.prog 36 #[v] W (Made W 84 (Cur.new b))) := Lib.hid fun W hW => NewReader_c W v b (hs.later hW) (by omega)
  have HGN := Lib.hid hG
  obtain ⟨RES, hRES⟩ : ∃ x, x = rdLoop (rdI g) cnt [] (Cur.new b) := ⟨_, rfl⟩
  have HRES := Lib.hid hRES.symm
  have HAN : Hid (rdN true g cnt b = ⟨true, RES.1, []⟩ ∧ rdC true g cnt b = RES.2) := Lib.hid (by rw [hRES]; exact ⟨rfl, rfl⟩)
  have KC : Hid (∀ W, Only (w1.heap.size ≤ ·) w1 W → W.cell? ⟨w.heap.size, 0, none⟩ = some (.int .i64 76) ∧ W.cell? ⟨w.heap.size, 1, none⟩ = some (.int .i64 g) ∧ W.cell? ⟨w.heap.size, 2, none⟩ = some (.int .i64 (cnt : Nat)) ∧ W.cell? ⟨w.heap.size, 3, none⟩ = some (.int .i64 xx)) := Lib.hid fun W hW => (HHD.out.later hW).four
  clear hG hs hRES
  go_enter Tryz.func18, Tryz.ntmps18
  go_upto_region 1 with (fail)
  rw [← hw1]
  clear hw1
  have HLC : Hid (Only (w1.heap.size ≤ ·) w1 w1.drew) := Lib.hid (Only.refl _ w1).drew
  go_cut [6] from 10 to 14 (fun y wz => ∃ rb p q : Nat, y = .pointer (some ⟨rb, 0, none⟩) ∧ Hid (Blk wz rb 93 [.pointer (some ⟨p, 0, none⟩), .int .i64 g]) ∧ Hid (Holds wz p q 84 (Cur.new b)) ∧ Hid (Only (w1.heap.size ≤ ·) w1 wz) ∧ Hid (w1.heap.size ≤ p ∧ w1.heap.size ≤ q ∧ w1.heap.size ≤ rb ∧ rb < wz.heap.size ∧ q < wz.heap.size ∧ rb ≠ p ∧ rb ≠ q))
  case first =>
    refine wp_region_list (B := [false, false, false, false, false, false, false]) (S := (fun W => W.cell? ⟨w.heap.size, 0, none⟩ = some (.int .i64 76) ∧ W.cell? ⟨w.heap.size, 1, none⟩ = some (.int .i64 g) ∧ W.cell? ⟨w.heap.size, 2, none⟩ = some (.int .i64 (cnt : Nat)) ∧ W.cell? ⟨w.heap.size, 3, none⟩ = some (.int .i64 xx))) (by kernel_rfl) (by kernel_rfl) (by kernel_rfl) (KC.out _ HLC.out) (fun hsel hHeld => ?_)
    obtain ⟨wx, hwx⟩ : ∃ wx, wx = w1.drew := ⟨_, rfl⟩
    rw [← hwx] at HLC hHeld
    rw [← hwx]
    clear hwx
    have HX0 : Hid (w1.heap.size ≤ wx.heap.size) := Lib.hid HLC.out.size
    refine oneA 0 10 hsel (h := ?_)
    simp only [Act.put, List.setIfInBounds_toArray, List.set_cons_zero, List.set_cons_succ]
    refine oneA 2 12 hsel (h := ?_)
    simp only [Act.put, List.setIfInBounds_toArray, List.set_cons_zero, List.set_cons_succ]
    refine oneA 3 13 hsel (h := ?_)
    simp only [Act.put, List.setIfInBounds_toArray, List.set_cons_zero, List.set_cons_succ]
    refine wpAnyL_ready (rs := [1, 5]) (by kernel_rfl) (by kernel_rfl) (by simp) ?_
    refine AllReadyL.cons (o := ?_) ?_ (fun K hK => ?_) (AllReadyL.cons (o := ?_) ?_ (fun K hK => ?_) AllReadyL.nil)
    case refine_2 => (simp only [List.getElem?_cons_succ, List.getElem?_cons_zero]; rfl)
    case refine_5 => (simp only [List.getElem?_cons_succ, List.getElem?_cons_zero]; rfl)
    case refine_3 =>
      go_simp
      (go_at_call 36; (with_reducible refine (HNR.out _ (on_new HO.out HLC.out)).mono ?_); rintro ee w3 ⟨p, q, rfl, hp, hq, hh, ho, hql⟩; have HH := Lib.hid hh; have HH0 := Lib.hid hh; have HPQ : Hid (w1.heap.size ≤ p ∧ w1.heap.size ≤ q ∧ q < w3.heap.size) := Lib.hid ⟨Nat.le_trans HLC.out.size hp, Nat.le_trans HLC.out.size hq, hql⟩; (replace HLC := Lib.hid (on_new HLC.out ho)); clear hh ho hp hq hql)
      go_wp2_with (fail)
      clear hHeld
      refine hK.out _ _ (KC.out _ HLC.out) (fun hHeld => ?_)
      clear hK K
      try simp only [List.set_cons_zero, List.set_cons_succ]
      refine oneA 4 14 hsel (h := ?_)
      simp only [Act.put, List.setIfInBounds_toArray, List.set_cons_zero, List.set_cons_succ]
      refine wpAnyL_ready (rs := [5]) (by kernel_rfl) (by kernel_rfl) (by simp) ?_
      refine AllReadyL.cons (o := ?_) ?_ (fun K hK => ?_) AllReadyL.nil
      case refine_2 => (simp only [List.getElem?_cons_succ, List.getElem?_cons_zero]; rfl)
      go_simp
      have HBA : Hid (Blk (w3.alloc (.cells #[.pointer none, .int .i64 0] 93)) w3.heap.size 93 [.pointer none, .int .i64 0]) := Lib.hid (Blk.new w3 93 _)
      have HLP := Lib.hid HLC.out
      replace HLC : Hid (Only (w1.heap.size ≤ ·) w1 (w3.alloc (.cells #[.pointer none, .int .i64 0] 93))) := Lib.hid (HLC.out.alloc (fun _ h => h) _)
      obtain ⟨a0, a1⟩ := HBA.out.pair
      have e0 := HBA.out.frozen 0
      have e1 := HBA.out.frozen 1
      clear hHeld
      refine hK.out _ _ (KC.out _ HLC.out) (fun hHeld => ?_)
      clear hK K
      try simp only [List.set_cons_zero, List.set_cons_succ]
      refine wpAnyL_ready (rs := [6]) (by kernel_rfl) (by kernel_rfl) (by simp) ?_
      refine AllReadyL.cons (o := ?_) ?_ (fun K hK => ?_) AllReadyL.nil
      case refine_2 => (simp only [List.getElem?_cons_succ, List.getElem?_cons_zero]; rfl)
      have HLF : Hid (Only (w1.heap.size ≤ ·) w1 (w3.alloc (.cells #[.pointer (some ⟨p, 0, none⟩), .int .i64 g] 93))) := Lib.hid (HLP.out.alloc (fun _ h => h) _)
      go_simp
      clear hHeld
      refine hK.out _ _ (KC.out _ HLF.out) (fun hHeld => ?_)
      clear hK K
      try simp only [List.set_cons_zero, List.set_cons_succ]
      refine wpAnyL_done (by kernel_rfl) (by kernel_rfl) ?_ _
      clear hsel hHeld
      go_wp2_with (fail)
      go_meet
      refine ⟨_, p, q, rfl, Lib.hid (Blk.new w3 93 _), Lib.hid (HH0.out.later ((Only.refl _ _).alloc (fun _ h => h) _)), HLF, Lib.hid ?_⟩
      have h1 := HPQ.out; have h2 := HH0.out.lt; have h4 := HLP.out.size; simp; omega
    case refine_6 =>
      go_simp
      have HBA : Hid (Blk (wx.alloc (.cells #[.pointer none, .int .i64 0] 93)) wx.heap.size 93 [.pointer none, .int .i64 0]) := Lib.hid (Blk.new wx 93 _)
      have HLP := Lib.hid HLC.out
      replace HLC : Hid (Only (w1.heap.size ≤ ·) w1 (wx.alloc (.cells #[.pointer none, .int .i64 0] 93))) := Lib.hid (HLC.out.alloc (fun _ h => h) _)
      clear hHeld
      refine hK.out _ _ (KC.out _ HLC.out) (fun hHeld => ?_)
      clear hK K
      try simp only [List.set_cons_zero, List.set_cons_succ]
      refine wpAnyL_ready (rs := [1]) (by kernel_rfl) (by kernel_rfl) (by simp) ?_
      refine AllReadyL.cons (o := ?_) ?_ (fun K hK => ?_) AllReadyL.nil
      case refine_2 => (simp only [List.getElem?_cons_succ, List.getElem?_cons_zero]; rfl)
      go_simp
      (go_at_call 36; (with_reducible refine (HNR.out _ (on_new HO.out HLC.out)).mono ?_); rintro ee w3 ⟨p, q, rfl, hp, hq, hh, ho, hql⟩; have HH := Lib.hid hh; have HH0 := Lib.hid hh; have HPQ : Hid (w1.heap.size ≤ p ∧ w1.heap.size ≤ q ∧ q < w3.heap.size) := Lib.hid ⟨Nat.le_trans HLC.out.size hp, Nat.le_trans HLC.out.size hq, hql⟩; have HNE : Hid (wx.heap.size < p ∧ wx.heap.size < q) := Lib.hid (by have h9 : (wx.alloc (.cells #[.pointer none, .int .i64 0] 93)).heap.size = wx.heap.size + 1 := (by simp); omega); (replace HBA := Lib.hid (HBA.out.later ho)); (obtain ⟨a0, a1⟩ := HBA.out.pair); have e0 := HBA.out.frozen 0; have e1 := HBA.out.frozen 1; (replace HLC := Lib.hid (on_new HLC.out ho)); clear hh ho hp hq hql)
      go_wp2_with (fail)
      clear hHeld
      refine hK.out _ _ (KC.out _ HLC.out) (fun hHeld => ?_)
      clear hK K
      try simp only [List.set_cons_zero, List.set_cons_succ]
      refine oneA 4 14 hsel (h := ?_)
      simp only [Act.put, List.setIfInBounds_toArray, List.set_cons_zero, List.set_cons_succ]
      refine wpAnyL_ready (rs := [6]) (by kernel_rfl) (by kernel_rfl) (by simp) ?_
      refine AllReadyL.cons (o := ?_) ?_ (fun K hK => ?_) AllReadyL.nil
      case refine_2 => (simp only [List.getElem?_cons_succ, List.getElem?_cons_zero]; rfl)
      have HGE : Hid (w1.heap.size ≤ wx.heap.size) := Lib.hid HX0.out
      have HLF : Hid (Only (w1.heap.size ≤ ·) w1 ((w3.setCell ⟨wx.heap.size, 0, none⟩ (.pointer (some ⟨p, 0, none⟩))).setCell ⟨wx.heap.size, 1, none⟩ (.int .i64 g))) := Lib.hid ((HLC.out.setCell (p := ⟨wx.heap.size, 0, none⟩) HGE.out _).setCell (p := ⟨wx.heap.size, 1, none⟩) HGE.out _)
      go_simp
      clear hHeld
      refine hK.out _ _ (KC.out _ HLF.out) (fun hHeld => ?_)
      clear hK K
      try simp only [List.set_cons_zero, List.set_cons_succ]
      refine wpAnyL_done (by kernel_rfl) (by kernel_rfl) ?_ _
      clear hsel hHeld
      go_wp2_with (fail)
      go_meet
      refine ⟨_, p, q, rfl, Lib.hid ((HBA.out.set_ 0 _).set_ 1 _), Lib.hid (HH.out.only (((Only.refl (· = wx.heap.size) _).setCell (p := ⟨wx.heap.size, 0, none⟩) rfl _).setCell (p := ⟨wx.heap.size, 1, none⟩) rfl _) (fun j hj _ e => ?_)), HLF, Lib.hid ?_⟩
      · have h2 := HNE.out; rcases hj with hj | hj <;> omega
      · have h1 := HPQ.out; have h2 := HNE.out; have h4 := HX0.out; have h5 := HBA.out.lt; simp at h5 ⊢; omega
  case rest =>
    obtain ⟨rb, p, q, rfl, HRB, HH, HLW, HPQ⟩ := hcut
    obtain ⟨i0, i1, i2, i3⟩ := KC.out _ HLW.out
    
    go_upto_region 3 with (fail)
    obtain ⟨bn, hbn⟩ : ∃ x, x = wc.heap.size := ⟨_, rfl⟩
    obtain ⟨wB, hwB⟩ : ∃ x, x = wc.alloc (.cells #[.bool true, .slice none 0 0, .slice none 0 0] 28) := ⟨_, rfl⟩
    have HPC : Hid (p < bn) := Lib.hid (by rw [hbn]; exact HH.out.lt)
    have HSB : Hid (wB.heap.size = bn + 1) := Lib.hid (by rw [hwB, hbn]; simp)
    have hal : Only (wc.heap.size ≤ ·) wc wB := by rw [hwB]; exact (Only.refl _ _).alloc (fun _ h => h) _
    have HBN : Hid (Blk wB bn 28 [.bool true, .slice none 0 0, .slice none 0 0]) := Lib.hid (by rw [hwB, hbn]; exact Blk.new wc 28 _)
    replace HRB := Lib.hid (HRB.out.later hal)
    replace HH := Lib.hid (HH.out.later hal)
    have HNM : Hid (p < bn ∧ q < bn ∧ rb < bn ∧ rb ≠ p ∧ rb ≠ q ∧ w.heap.size + 1 < p ∧ w.heap.size + 1 < q ∧ w.heap.size + 1 < rb ∧ w1.heap.size ≤ bn ∧ wB.heap.size = bn + 1) := Lib.hid (by have h1 := HPQ.out; have h2 := HZ.out; have h3 := HLW.out.size; have h4 := HPC.out; have h5 := HSB.out; omega)
    replace HLW := Lib.hid (on_new HLW.out hal)
    rw [← hwB, ← hbn]
    clear hwB hbn hal i0 i1 i2 i3 HPQ HSB
    obtain ⟨i0, i1, i2, i3⟩ := KC.out _ HLW.out
    go_wp2_with (go_at_call 50; (with_reducible refine (readingOf_L _).mono ?_); rintro ee w' ⟨rfl, rfl⟩)
    clear i0 i1 i2 i3
    go_loopw [9] (fun i wr => ∃ (j : Nat) (l : List It) (R : Option Addr) (t : Nat) (c : Cur), j ≤ cnt ∧ i = .int .i64 j ∧ Hid (rdLoop (rdI g) (cnt - j) l c = RES) ∧ Hid (RedL wB p q bn c R j t l wr)) (fun i _ => cnt - (intOf i).toNat)
    case atStart => exact ⟨0, [], none, 0, _, Nat.zero_le _, rfl, HRES, Lib.hid ⟨[], rfl, HH.out, HBN.out, World.ownsRow_nil _ _ _ _, rfl, Only.refl _ _⟩⟩
    case round =>
      obtain ⟨j, l, R, t, c, hjc, rfl, HRL, HUR⟩ := hrel
      have HOB : Hid (Only (fun j => j = p ∨ j = bn ∨ wB.heap.size ≤ j) wB wr) := Lib.hid (by obtain ⟨_, _, _, _, _, _, h⟩ := HUR.out; exact h)
      have HHR : Hid (Holds wr p q 84 c) := Lib.hid (by obtain ⟨_, _, h, _⟩ := HUR.out; exact h)
      have HBR : Hid (Blk wr bn 28 [.bool true, .slice R j t, .slice none 0 0]) := Lib.hid (by obtain ⟨_, _, _, h, _⟩ := HUR.out; exact h)
      have HL1 : Hid (Only (w1.heap.size ≤ ·) w1 wr) := Lib.hid (HLW.out.trans (HOB.out.mono fun j hj => by have h1 := HNM.out; have h2 := HZ.out; rcases hj with hj | hj | hj <;> omega))
      have HOR : Hid (Only (w.heap.size ≤ ·) w wr) := Lib.hid (HO.out.trans (HL1.out.mono fun j hj => by have := HZ.out; omega))
      have HRR : Hid (Blk wr rb 93 [.pointer (some ⟨p, 0, none⟩), .int .i64 g]) := Lib.hid (HRB.out.only HOB.out (by have h1 := HNM.out; rintro (hj | hj | hj) <;> omega))
      have HRX : Hid (Blk wr (w.heap.size + 1) 28 [.bool false, .slice none 0 0, .slice none 0 0]) := Lib.hid (HRS.out.only HL1.out (by have := HZ.out; omega))
      obtain ⟨i0, i1, i2, i3⟩ := KC.out _ HL1.out
      obtain ⟨r0, r1⟩ := HRR.out.pair
      have HER : Hid (Calls Tryz.prog 42 #[.pointer (some ⟨p, 0, none⟩)] wr fun e w' => e = .returned (.int .i64 (if c.sp = true then 30 else 0)) ∧ wr = w') := Lib.hid (Err_c wr p q c HHR.out)
      by_cases hlt : j < cnt
      · have hji : (j : Int) < (cnt : Int) := by omega
        obtain ⟨sp, hsp⟩ : ∃ x, c.sp = x := ⟨_, rfl⟩
        rw [hsp] at HER
        cases sp
        · simp only [Bool.false_eq_true, if_false] at HER
          have HADD : Hid (Calls Tryz.prog 80 #[.agg #[.pointer (some ⟨p, 0, none⟩), .int .i64 g], .pointer (some ⟨bn, 0, none⟩)] wr fun e w' => e = .returned (.tuple #[]) ∧ ∃ R' t', RedL wB p q bn (rdI g c).2 R' (j + 1) t' (l ++ [(rdI g c).1]) w') := Lib.hid (by
            obtain ⟨CC, hn, h1, h2, h3, h4, h5⟩ := HUR.out
            have hnm := HNM.out
            refine (addI_c wr p q bn wB.heap.size c g true (.slice none 0 0) R j t CC h1 h2 h3 (by omega) (by omega) (by omega) (by omega) (by omega) h5.size (by omega) (fun W hW => HGN.out.later (HOR.out.trans (hW.mono fun j hj => by have := HOR.out.size; rcases hj with hj | hj <;> omega)))).mono ?_
            intro e w' h
            have he : e = .returned (.tuple #[]) := by obtain ⟨_, _, _, _, _, _, h, _⟩ := h; exact h
            subst he
            refine ⟨rfl, ?_⟩
            have hp1 : p < wB.heap.size := by omega
            have hp2 : bn < wB.heap.size := by omega
            exact RedL.step hp1 hp2 hn h4 h5 h3 h)
          have HSP := Lib.hid hsp
          clear hsp
          go_wp2_with (first
            | (go_at_call 42; (with_reducible refine HER.out.mono ?_); rintro ee w' ⟨rfl, rfl⟩)
            | (go_at_call 80; (with_reducible refine HADD.out.mono ?_); rintro ee w6 ⟨rfl, R', t', hu⟩; have HU6 := Lib.hid hu; clear hu))
          go_roundw
          case rel => exact ⟨j + 1, _, R', t', _, by omega, by go_num, Lib.hid (by
            have h := HRL.out
            rw [show cnt - j = (cnt - (j + 1)) + 1 by omega, rdLoop, if_neg (by rw [HSP.out]; decide)] at h
            exact h), HU6⟩
          case measure => simp [intOf]; omega
        · simp only [if_true] at HER
          have HEX : Hid (RES = (l, c)) := Lib.hid (by rw [← HRL.out]; exact rdLoop_sp _ _ _ hsp)
          clear hsp
          go_wp2_with (go_at_call 42; (with_reducible refine HER.out.mono ?_); rintro ee w' ⟨rfl, rfl⟩)
          clear i0 i1 i2 i3 r0 r1
          have KN0 : Hid (∀ W, Only (fun j => j = w.heap.size + 1) wr W → (W.cell? ⟨bn, 0, none⟩ = some (.bool true) ∧ W.cell? ⟨bn, 1, none⟩ = some (.slice R j t) ∧ W.cell? ⟨bn, 2, none⟩ = some (.slice none 0 0)) ∧ W.cell? ⟨rb, 0, none⟩ = some (.pointer (some ⟨p, 0, none⟩)) ∧ W.cell? ⟨rb, 1, none⟩ = some (.int .i64 g)) := Lib.hid fun W hW => ⟨(HBR.out.only hW (by have := HNM.out; omega)).tri, (HRR.out.only hW (by have := HNM.out; omega)).pair⟩
          refine wp_region_list (B := [false, false, false, false, false, false]) (S := (fun W => (W.cell? ⟨bn, 0, none⟩ = some (.bool true) ∧ W.cell? ⟨bn, 1, none⟩ = some (.slice R j t) ∧ W.cell? ⟨bn, 2, none⟩ = some (.slice none 0 0)) ∧ W.cell? ⟨rb, 0, none⟩ = some (.pointer (some ⟨p, 0, none⟩)) ∧ W.cell? ⟨rb, 1, none⟩ = some (.int .i64 g))) (by kernel_rfl) (by kernel_rfl) (by kernel_rfl) (KN0.out _ (Only.refl _ _).drew) (fun hsel hHeld => ?_)
          obtain ⟨wy, hwy⟩ : ∃ wy, wy = wr.drew := ⟨_, rfl⟩
          have HEY : Hid (Calls Tryz.prog 42 #[.pointer (some ⟨p, 0, none⟩)] wy fun e w' => e = .returned (.int .i64 c.err) ∧ wy = w') := Lib.hid (by rw [hwy]; exact Err_c _ p q c (HHR.out.drewN 1))
          have KN : Hid (∀ W, Only (fun j => j = w.heap.size + 1) wy W → (W.cell? ⟨bn, 0, none⟩ = some (.bool true) ∧ W.cell? ⟨bn, 1, none⟩ = some (.slice R j t) ∧ W.cell? ⟨bn, 2, none⟩ = some (.slice none 0 0)) ∧ W.cell? ⟨rb, 0, none⟩ = some (.pointer (some ⟨p, 0, none⟩)) ∧ W.cell? ⟨rb, 1, none⟩ = some (.int .i64 g)) := Lib.hid fun W hW => KN0.out W (((Only.refl _ _).drew : Only (fun j => j = w.heap.size + 1) wr wr.drew).trans (by rw [← hwy]; exact hW))
          have HSY : Hid (Blk wy (w.heap.size + 1) 28 [.bool false, .slice none 0 0, .slice none 0 0]) := Lib.hid (by rw [hwy]; exact HRX.out.drew)
          have HOS : Hid (Only (fun j => j = w.heap.size + 1) wy (((wy.setCell ⟨w.heap.size + 1, 0, none⟩ (.bool true)).setCell ⟨w.heap.size + 1, 1, none⟩ (.slice R j t)).setCell ⟨w.heap.size + 1, 2, none⟩ (.slice none 0 0))) := Lib.hid ((((Only.refl (fun j => j = w.heap.size + 1) wy).setCell (p := ⟨w.heap.size + 1, 0, none⟩) rfl _).setCell (p := ⟨w.heap.size + 1, 1, none⟩) rfl _).setCell (p := ⟨w.heap.size + 1, 2, none⟩) rfl _)
          have HOW : Hid (Only (fun j => j = w.heap.size + 1) wr (((wy.setCell ⟨w.heap.size + 1, 0, none⟩ (.bool true)).setCell ⟨w.heap.size + 1, 1, none⟩ (.slice R j t)).setCell ⟨w.heap.size + 1, 2, none⟩ (.slice none 0 0))) := Lib.hid (((Only.refl _ _).drew : Only (fun j => j = w.heap.size + 1) wr wr.drew).trans (by rw [← hwy]; exact HOS.out))
          rw [← hwy] at hHeld
          rw [← hwy]
          clear hwy
          obtain ⟨s0, s1, s2⟩ := HSY.out.tri
          obtain ⟨z0, z1, z2⟩ := HSY.out.melt3
          refine oneA 0 37 hsel (h := ?_)
          simp only [Act.put, List.setIfInBounds_toArray, List.set_cons_zero, List.set_cons_succ]
          refine oneA 1 38 hsel (h := ?_)
          simp only [Act.put, List.setIfInBounds_toArray, List.set_cons_zero, List.set_cons_succ]
          refine oneA 2 39 hsel (h := ?_)
          simp only [Act.put, List.setIfInBounds_toArray, List.set_cons_zero, List.set_cons_succ]
          refine wpAnyL_ready (rs := [3]) (by kernel_rfl) (by kernel_rfl) (by simp) ?_
          refine AllReadyL.cons (o := ?_) ?_ (fun K hK => ?_) AllReadyL.nil
          case refine_2 => (simp only [List.getElem?_cons_succ, List.getElem?_cons_zero]; rfl)
          go_simp
          (go_at_call 42; (with_reducible refine (HEY.out).mono ?_); rintro ee w' ⟨rfl, rfl⟩)
          go_wp2_with (fail)
          clear hHeld
          refine hK.out _ _ (KN.out _ (Only.refl _ _)) (fun hHeld => ?_)
          clear hK K
          try simp only [List.set_cons_zero, List.set_cons_succ]
          refine wpAnyL_ready (rs := [4]) (by kernel_rfl) (by kernel_rfl) (by simp) ?_
          refine AllReadyL.cons (o := ?_) ?_ (fun K hK => ?_) AllReadyL.nil
          case refine_2 => (simp only [List.getElem?_cons_succ, List.getElem?_cons_zero]; rfl)
          go_simp
          clear hHeld
          refine hK.out _ _ (KN.out _ HOS.out) (fun hHeld => ?_)
          clear hK K
          try simp only [List.set_cons_zero, List.set_cons_succ]
          refine oneA 5 5 hsel (h := ?_)
          simp only [Act.put, List.setIfInBounds_toArray, List.set_cons_zero, List.set_cons_succ]
          refine wpAnyL_done (by kernel_rfl) (by kernel_rfl) ?_ _
          clear hsel hHeld
          go_wp2
          refine bodyPost_ret (results_cell_tmp rfl rfl (load_node (((HSY.out.set_ 0 (.bool true)).set_ 1 (.slice R j t)).set_ 2 (.slice none 0 0)) rfl rfl)) rfl ?_
          rw [HAN.out.1, HAN.out.2, HEX.out]
          exact ⟨_, _, _, _, _, _, rfl, HUR.out.nod HOW.out (fun j hj => .inl (by rw [hj]; have := HNM.out; omega)), HOR.out.trans (HOW.out.mono fun j hj => by rw [hj]; omega)⟩
      · have hji : ¬ (j : Int) < (cnt : Int) := by omega
        have HEX : Hid (RES = (l, c)) := Lib.hid (by rw [← HRL.out, show cnt - j = 0 by omega]; rfl)
        go_wp2_with (fail)
        clear i0 i1 i2 i3 r0 r1
        have KN0 : Hid (∀ W, Only (fun j => j = w.heap.size + 1) wr W → (W.cell? ⟨bn, 0, none⟩ = some (.bool true) ∧ W.cell? ⟨bn, 1, none⟩ = some (.slice R j t) ∧ W.cell? ⟨bn, 2, none⟩ = some (.slice none 0 0)) ∧ W.cell? ⟨rb, 0, none⟩ = some (.pointer (some ⟨p, 0, none⟩)) ∧ W.cell? ⟨rb, 1, none⟩ = some (.int .i64 g)) := Lib.hid fun W hW => ⟨(HBR.out.only hW (by have := HNM.out; omega)).tri, (HRR.out.only hW (by have := HNM.out; omega)).pair⟩
        refine wp_region_list (B := [false, false, false, false, false, false]) (S := (fun W => (W.cell? ⟨bn, 0, none⟩ = some (.bool true) ∧ W.cell? ⟨bn, 1, none⟩ = some (.slice R j t) ∧ W.cell? ⟨bn, 2, none⟩ = some (.slice none 0 0)) ∧ W.cell? ⟨rb, 0, none⟩ = some (.pointer (some ⟨p, 0, none⟩)) ∧ W.cell? ⟨rb, 1, none⟩ = some (.int .i64 g))) (by kernel_rfl) (by kernel_rfl) (by kernel_rfl) (KN0.out _ (Only.refl _ _).drew) (fun hsel hHeld => ?_)
        obtain ⟨wy, hwy⟩ : ∃ wy, wy = wr.drew := ⟨_, rfl⟩
        have HEY : Hid (Calls Tryz.prog 42 #[.pointer (some ⟨p, 0, none⟩)] wy fun e w' => e = .returned (.int .i64 c.err) ∧ wy = w') := Lib.hid (by rw [hwy]; exact Err_c _ p q c (HHR.out.drewN 1))
        have KN : Hid (∀ W, Only (fun j => j = w.heap.size + 1) wy W → (W.cell? ⟨bn, 0, none⟩ = some (.bool true) ∧ W.cell? ⟨bn, 1, none⟩ = some (.slice R j t) ∧ W.cell? ⟨bn, 2, none⟩ = some (.slice none 0 0)) ∧ W.cell? ⟨rb, 0, none⟩ = some (.pointer (some ⟨p, 0, none⟩)) ∧ W.cell? ⟨rb, 1, none⟩ = some (.int .i64 g)) := Lib.hid fun W hW => KN0.out W (((Only.refl _ _).drew : Only (fun j => j = w.heap.size + 1) wr wr.drew).trans (by rw [← hwy]; exact hW))
        have HSY : Hid (Blk wy (w.heap.size + 1) 28 [.bool false, .slice none 0 0, .slice none 0 0]) := Lib.hid (by rw [hwy]; exact HRX.out.drew)
        have HOS : Hid (Only (fun j => j = w.heap.size + 1) wy (((wy.setCell ⟨w.heap.size + 1, 0, none⟩ (.bool true)).setCell ⟨w.heap.size + 1, 1, none⟩ (.slice R j t)).setCell ⟨w.heap.size + 1, 2, none⟩ (.slice none 0 0))) := Lib.hid ((((Only.refl (fun j => j = w.heap.size + 1) wy).setCell (p := ⟨w.heap.size + 1, 0, none⟩) rfl _).setCell (p := ⟨w.heap.size + 1, 1, none⟩) rfl _).setCell (p := ⟨w.heap.size + 1, 2, none⟩) rfl _)
        have HOW : Hid (Only (fun j => j = w.heap.size + 1) wr (((wy.setCell ⟨w.heap.size + 1, 0, none⟩ (.bool true)).setCell ⟨w.heap.size + 1, 1, none⟩ (.slice R j t)).setCell ⟨w.heap.size + 1, 2, none⟩ (.slice none 0 0))) := Lib.hid (((Only.refl _ _).drew : Only (fun j => j = w.heap.size + 1) wr wr.drew).trans (by rw [← hwy]; exact HOS.out))
        rw [← hwy] at hHeld
        rw [← hwy]
        clear hwy
        obtain ⟨s0, s1, s2⟩ := HSY.out.tri
        obtain ⟨z0, z1, z2⟩ := HSY.out.melt3
        refine oneA 0 37 hsel (h := ?_)
        simp only [Act.put, List.setIfInBounds_toArray, List.set_cons_zero, List.set_cons_succ]
        refine oneA 1 38 hsel (h := ?_)
        simp only [Act.put, List.setIfInBounds_toArray, List.set_cons_zero, List.set_cons_succ]
        refine oneA 2 39 hsel (h := ?_)
        simp only [Act.put, List.setIfInBounds_toArray, List.set_cons_zero, List.set_cons_succ]
        refine wpAnyL_ready (rs := [3]) (by kernel_rfl) (by kernel_rfl) (by simp) ?_
        refine AllReadyL.cons (o := ?_) ?_ (fun K hK => ?_) AllReadyL.nil
        case refine_2 => (simp only [List.getElem?_cons_succ, List.getElem?_cons_zero]; rfl)
        go_simp
        (go_at_call 42; (with_reducible refine (HEY.out).mono ?_); rintro ee w' ⟨rfl, rfl⟩)
        go_wp2_with (fail)
        clear hHeld
        refine hK.out _ _ (KN.out _ (Only.refl _ _)) (fun hHeld => ?_)
        clear hK K
        try simp only [List.set_cons_zero, List.set_cons_succ]
        refine wpAnyL_ready (rs := [4]) (by kernel_rfl) (by kernel_rfl) (by simp) ?_
        refine AllReadyL.cons (o := ?_) ?_ (fun K hK => ?_) AllReadyL.nil
        case refine_2 => (simp only [List.getElem?_cons_succ, List.getElem?_cons_zero]; rfl)
        go_simp
        clear hHeld
        refine hK.out _ _ (KN.out _ HOS.out) (fun hHeld => ?_)
        clear hK K
        try simp only [List.set_cons_zero, List.set_cons_succ]
        refine oneA 5 5 hsel (h := ?_)
        simp only [Act.put, List.setIfInBounds_toArray, List.set_cons_zero, List.set_cons_succ]
        refine wpAnyL_done (by kernel_rfl) (by kernel_rfl) ?_ _
        clear hsel hHeld
        go_wp2
        refine bodyPost_ret (results_cell_tmp rfl rfl (load_node (((HSY.out.set_ 0 (.bool true)).set_ 1 (.slice R j t)).set_ 2 (.slice none 0 0)) rfl rfl)) rfl ?_
        rw [HAN.out.1, HAN.out.2, HEX.out]
        exact ⟨_, _, _, _, _, _, rfl, HUR.out.nod HOW.out (fun j hj => .inl (by rw [hj]; have := HNM.out; omega)), HOR.out.trans (HOW.out.mono fun j hj => by rw [hj]; omega)⟩

/-- Under way: what has been read stands behind the node's variable. -/
def RedK (wB : World) (p q bn : Nat) (c : Cur) (R : Option Addr) (n t : Nat) (l : List Kd) (wr : World) : Prop :=
  ∃ C, n = l.length ∧ Holds wr p q 84 c ∧ Blk wr bn 28 [.bool false, .slice none 0 0, .slice R n t] ∧ wr.ownsRow wB.heap.size 67 2 (.slice R n t) n C ∧ Den (kdK wB.heap.size (Value.slice R n t).ownBlock wr) l C ∧ Only (fun j => j = p ∨ j = bn ∨ wB.heap.size ≤ j) wB wr
theorem RedK.step {wB wr w' : World} {p q bn : Nat} {c' : Cur} {R : Option Addr} {n t : Nat} {l : List Kd} {y : Kd} {C : List Value} (hp : p < wB.heap.size) (hbn : bn < wB.heap.size) (hn : n = l.length) (hd : Den (kdK wB.heap.size (Value.slice R n t).ownBlock wr) l C) (ho : Only (fun j => j = p ∨ j = bn ∨ wB.heap.size ≤ j) wB wr)
    (hr : wr.ownsRow wB.heap.size 67 2 (.slice R n t) n C)
    (h : AddsK wr p q bn wB.heap.size c' false (.slice none 0 0) R n t C y (.returned (.tuple #[])) w') : ∃ R' t', RedK wB p q bn c' R' (n + 1) t' (l ++ [y]) w' := by
  obtain ⟨R', t', P, pc, _, h1, h2, h3, h4, h6, h7⟩ := h
  have hsz := ho.size
  have hlt := World.ownsRow.lt hr
  refine ⟨R', t', _, by rw [List.length_append, hn]; rfl, h1, h2, h3, ?_, ?_⟩
  · refine Den.append (hd.mono fun x cs hx => ?_) (Den.single ?_)
    · have hF : ∀ j, wB.heap.size ≤ j → j < wr.heap.size → (j = p ∨ j = bn ∨ (Value.slice R n t).ownBlock = some j ∨ wr.heap.size ≤ j) → (Value.slice R n t).ownBlock = some j := fun j j1 j2 j3 => by
        rcases j3 with j3 | j3 | j3 | j3
        · omega
        · omega
        · exact j3
        · omega
      obtain ⟨P1, p1, e, k1⟩ := hx
      exact ⟨P1, p1, e, k1.step h7 hF h6⟩
    · exact ⟨P, pc, rfl, h4⟩
  · refine ho.trans (h7.mono fun j hj => ?_)
    rcases hj with hj | hj | hj | hj
    · exact .inl hj
    · exact .inr (.inl hj)
    · exact .inr (.inr (hlt j hj).1)
    · exact .inr (.inr (by omega))
theorem RedK.nod {wB wr w' : World} {p q bn : Nat} {c : Cur} {R : Option Addr} {n t : Nat} {l : List Kd} {F : Nat → Prop} (h : RedK wB p q bn c R n t l wr) (ho : Only F wr w') (hF : ∀ j, F j → j < wB.heap.size ∨ wr.heap.size ≤ j) :
    Nod w' ⟨false, [], l⟩ false (.slice none 0 0) (.slice R n t) := by
  obtain ⟨C, hn, _, _, hr, hd, _⟩ := h
  have hlt := World.ownsRow.lt hr
  have hr' := own_on hr ho fun j hj hf => by have h1 := hlt j hj; rcases hF j hf with h2 | h2 <;> omega
  have hd' : Den (kdE.At w') l C := hd.mono fun x cs hx => by
    have hk : ∀ (v : Value) (xs : Bytes), KeyAt wB.heap.size wr (Value.slice R n t).ownBlock v xs → Src w' v xs := fun v xs h => h.1.on ho fun ad m c e hm hf => by
      have h1 := h.2 ad m c e hm
      have h2 := h.1
      rw [e] at h2
      have h3 := h2.at_block hm
      rcases hF _ hf with h4 | h4 <;> omega
    obtain ⟨P1, p1, e, k1⟩ := hx
    exact ⟨P1, p1, e, hk _ _ k1⟩
  have hw := Own.rw_ (E := kdE) (t := 67) (B := wB.heap.size) ⟨hn, C, hd', hr'⟩
  exact ⟨rfl, Rw.nil_ _, hw⟩
set_option maxRecDepth 100000 in
set_option maxHeartbeats 12800000 in
theorem read_K (w : World) (v : Value) (b : Bytes) (k : Int) (hk : k ≠ 76) (g xx : Int) (cnt : Nat) (hcnt : cnt ≤ 65535) (hG : Gens w) (hs : Src w v b) (hbl : b.length ≤ 65536) :
    Calls Tryz.prog 18 #[.agg #[.int .i64 k, .int .i64 g, .int .i64 (cnt : Nat), .int .i64 xx], v] w (GaveR w (rdN false g cnt b) (rdC false g cnt b).err) := by
  obtain ⟨w1, hw1⟩ : ∃ w1, w1 = (w.alloc (.cells #[.int .i64 k, .int .i64 g, .int .i64 (cnt : Nat), .int .i64 xx] 47)).alloc (.cells #[.bool false, .slice none 0 0, .slice none 0 0] 28) := ⟨_, rfl⟩
  have HO : Hid (Only (w.heap.size ≤ ·) w w1) := Lib.hid (by rw [hw1]; exact ((Only.refl _ w).alloc (fun _ h => h) _).alloc (fun _ h => h) _)
  have HZ : Hid (w1.heap.size = w.heap.size + 2) := Lib.hid (by rw [hw1]; simp)
  have HHD : Hid (Blk w1 w.heap.size 47 [.int .i64 k, .int .i64 g, .int .i64 (cnt : Nat), .int .i64 xx]) := Lib.hid (by rw [hw1]; exact (Blk.new w 47 _).alloc _)
  have HRS : Hid (Blk w1 (w.heap.size + 1) 28 [.bool false, .slice none 0 0, .slice none 0 0]) := Lib.hid (by
    rw [hw1]
    have := Blk.new (w.alloc (.cells #[.int .i64 k, .int .i64 g, .int .i64 (cnt : Nat), .int .i64 xx] 47)) 28 [.bool false, .slice none 0 0, .slice none 0 0]
    simpa using this)
  have HNR : Hid (∀ W, Only (w.heap.size ≤ ·) w W → Calls Tryz.prog 36 #[v] W (Made W 84 (Cur.new b))) := Lib.hid fun W hW => NewReader_c W v b (hs.later hW) (by omega)
  have HGN := Lib.hid hG
  obtain ⟨RES, hRES⟩ : ∃ x, x = rdLoop (rdK g) cnt [] (Cur.new b) := ⟨_, rfl⟩
  have HRES := Lib.hid hRES.symm
  have HAN : Hid (rdN false g cnt b = ⟨false, [], RES.1⟩ ∧ rdC false g cnt b = RES.2) := Lib.hid (by rw [hRES]; exact ⟨rfl, rfl⟩)
  have KC : Hid (∀ W, Only (w1.heap.size ≤ ·) w1 W → W.cell? ⟨w.heap.size, 0, none⟩ = some (.int .i64 k) ∧ W.cell? ⟨w.heap.size, 1, none⟩ = some (.int .i64 g) ∧ W.cell? ⟨w.heap.size, 2, none⟩ = some (.int .i64 (cnt : Nat)) ∧ W.cell? ⟨w.heap.size, 3, none⟩ = some (.int .i64 xx)) := Lib.hid fun W hW => (HHD.out.later hW).four
  clear hG hs hRES
  go_enter Tryz.func18, Tryz.ntmps18
  go_upto_region 1 with (fail)
  rw [← hw1]
  clear hw1
  have HLC : Hid (Only (w1.heap.size ≤ ·) w1 w1.drew) := Lib.hid (Only.refl _ w1).drew
  go_cut [6] from 10 to 14 (fun y wz => ∃ rb p q : Nat, y = .pointer (some ⟨rb, 0, none⟩) ∧ Hid (Blk wz rb 93 [.pointer (some ⟨p, 0, none⟩), .int .i64 g]) ∧ Hid (Holds wz p q 84 (Cur.new b)) ∧ Hid (Only (w1.heap.size ≤ ·) w1 wz) ∧ Hid (w1.heap.size ≤ p ∧ w1.heap.size ≤ q ∧ w1.heap.size ≤ rb ∧ rb < wz.heap.size ∧ q < wz.heap.size ∧ rb ≠ p ∧ rb ≠ q))
  case first =>
    refine wp_region_list (B := [false, false, false, false, false, false, false]) (S := (fun W => W.cell? ⟨w.heap.size, 0, none⟩ = some (.int .i64 k) ∧ W.cell? ⟨w.heap.size, 1, none⟩ = some (.int .i64 g) ∧ W.cell? ⟨w.heap.size, 2, none⟩ = some (.int .i64 (cnt : Nat)) ∧ W.cell? ⟨w.heap.size, 3, none⟩ = some (.int .i64 xx))) (by kernel_rfl) (by kernel_rfl) (by kernel_rfl) (KC.out _ HLC.out) (fun hsel hHeld => ?_)
    obtain ⟨wx, hwx⟩ : ∃ wx, wx = w1.drew := ⟨_, rfl⟩
    rw [← hwx] at HLC hHeld
    rw [← hwx]
    clear hwx
    have HX0 : Hid (w1.heap.size ≤ wx.heap.size) := Lib.hid HLC.out.size
    refine oneA 0 10 hsel (h := ?_)
    simp only [Act.put, List.setIfInBounds_toArray, List.set_cons_zero, List.set_cons_succ]
    refine oneA 2 12 hsel (h := ?_)
    simp only [Act.put, List.setIfInBounds_toArray, List.set_cons_zero, List.set_cons_succ]
    refine oneA 3 13 hsel (h := ?_)
    simp only [Act.put, List.setIfInBounds_toArray, List.set_cons_zero, List.set_cons_succ]
    refine wpAnyL_ready (rs := [1, 5]) (by kernel_rfl) (by kernel_rfl) (by simp) ?_
    refine AllReadyL.cons (o := ?_) ?_ (fun K hK => ?_) (AllReadyL.cons (o := ?_) ?_ (fun K hK => ?_) AllReadyL.nil)
    case refine_2 => (simp only [List.getElem?_cons_succ, List.getElem?_cons_zero]; rfl)
    case refine_5 => (simp only [List.getElem?_cons_succ, List.getElem?_cons_zero]; rfl)
    case refine_3 =>
      go_simp
      (go_at_call 36; (with_reducible refine (HNR.out _ (on_new HO.out HLC.out)).mono ?_); rintro ee w3 ⟨p, q, rfl, hp, hq, hh, ho, hql⟩; have HH := Lib.hid hh; have HH0 := Lib.hid hh; have HPQ : Hid (w1.heap.size ≤ p ∧ w1.heap.size ≤ q ∧ q < w3.heap.size) := Lib.hid ⟨Nat.le_trans HLC.out.size hp, Nat.le_trans HLC.out.size hq, hql⟩; (replace HLC := Lib.hid (on_new HLC.out ho)); clear hh ho hp hq hql)
      go_wp2_with (fail)
      clear hHeld
      refine hK.out _ _ (KC.out _ HLC.out) (fun hHeld => ?_)
      clear hK K
      try simp only [List.set_cons_zero, List.set_cons_succ]
      refine oneA 4 14 hsel (h := ?_)
      simp only [Act.put, List.setIfInBounds_toArray, List.set_cons_zero, List.set_cons_succ]
      refine wpAnyL_ready (rs := [5]) (by kernel_rfl) (by kernel_rfl) (by simp) ?_
      refine AllReadyL.cons (o := ?_) ?_ (fun K hK => ?_) AllReadyL.nil
      case refine_2 => (simp only [List.getElem?_cons_succ, List.getElem?_cons_zero]; rfl)
      go_simp
      have HBA : Hid (Blk (w3.alloc (.cells #[.pointer none, .int .i64 0] 93)) w3.heap.size 93 [.pointer none, .int .i64 0]) := Lib.hid (Blk.new w3 93 _)
      have HLP := Lib.hid HLC.out
      replace HLC : Hid (Only (w1.heap.size ≤ ·) w1 (w3.alloc (.cells #[.pointer none, .int .i64 0] 93))) := Lib.hid (HLC.out.alloc (fun _ h => h) _)
      obtain ⟨a0, a1⟩ := HBA.out.pair
      have e0 := HBA.out.frozen 0
      have e1 := HBA.out.frozen 1
      clear hHeld
      refine hK.out _ _ (KC.out _ HLC.out) (fun hHeld => ?_)
      clear hK K
      try simp only [List.set_cons_zero, List.set_cons_succ]
      refine wpAnyL_ready (rs := [6]) (by kernel_rfl) (by kernel_rfl) (by simp) ?_
      refine AllReadyL.cons (o := ?_) ?_ (fun K hK => ?_) AllReadyL.nil
      case refine_2 => (simp only [List.getElem?_cons_succ, List.getElem?_cons_zero]; rfl)
      have HLF : Hid (Only (w1.heap.size ≤ ·) w1 (w3.alloc (.cells #[.pointer (some ⟨p, 0, none⟩), .int .i64 g] 93))) := Lib.hid (HLP.out.alloc (fun _ h => h) _)
      go_simp
      clear hHeld
      refine hK.out _ _ (KC.out _ HLF.out) (fun hHeld => ?_)
      clear hK K
      try simp only [List.set_cons_zero, List.set_cons_succ]
      refine wpAnyL_done (by kernel_rfl) (by kernel_rfl) ?_ _
      clear hsel hHeld
      go_wp2_with (fail)
      go_meet
      refine ⟨_, p, q, rfl, Lib.hid (Blk.new w3 93 _), Lib.hid (HH0.out.later ((Only.refl _ _).alloc (fun _ h => h) _)), HLF, Lib.hid ?_⟩
      have h1 := HPQ.out; have h2 := HH0.out.lt; have h4 := HLP.out.size; simp; omega
    case refine_6 =>
      go_simp
      have HBA : Hid (Blk (wx.alloc (.cells #[.pointer none, .int .i64 0] 93)) wx.heap.size 93 [.pointer none, .int .i64 0]) := Lib.hid (Blk.new wx 93 _)
      have HLP := Lib.hid HLC.out
      replace HLC : Hid (Only (w1.heap.size ≤ ·) w1 (wx.alloc (.cells #[.pointer none, .int .i64 0] 93))) := Lib.hid (HLC.out.alloc (fun _ h => h) _)
      clear hHeld
      refine hK.out _ _ (KC.out _ HLC.out) (fun hHeld => ?_)
      clear hK K
      try simp only [List.set_cons_zero, List.set_cons_succ]
      refine wpAnyL_ready (rs := [1]) (by kernel_rfl) (by kernel_rfl) (by simp) ?_
      refine AllReadyL.cons (o := ?_) ?_ (fun K hK => ?_) AllReadyL.nil
      case refine_2 => (simp only [List.getElem?_cons_succ, List.getElem?_cons_zero]; rfl)
      go_simp
      (go_at_call 36; (with_reducible refine (HNR.out _ (on_new HO.out HLC.out)).mono ?_); rintro ee w3 ⟨p, q, rfl, hp, hq, hh, ho, hql⟩; have HH := Lib.hid hh; have HH0 := Lib.hid hh; have HPQ : Hid (w1.heap.size ≤ p ∧ w1.heap.size ≤ q ∧ q < w3.heap.size) := Lib.hid ⟨Nat.le_trans HLC.out.size hp, Nat.le_trans HLC.out.size hq, hql⟩; have HNE : Hid (wx.heap.size < p ∧ wx.heap.size < q) := Lib.hid (by have h9 : (wx.alloc (.cells #[.pointer none, .int .i64 0] 93)).heap.size = wx.heap.size + 1 := (by simp); omega); (replace HBA := Lib.hid (HBA.out.later ho)); (obtain ⟨a0, a1⟩ := HBA.out.pair); have e0 := HBA.out.frozen 0; have e1 := HBA.out.frozen 1; (replace HLC := Lib.hid (on_new HLC.out ho)); clear hh ho hp hq hql)
      go_wp2_with (fail)
      clear hHeld
      refine hK.out _ _ (KC.out _ HLC.out) (fun hHeld => ?_)
      clear hK K
      try simp only [List.set_cons_zero, List.set_cons_succ]
      refine oneA 4 14 hsel (h := ?_)
      simp only [Act.put, List.setIfInBounds_toArray, List.set_cons_zero, List.set_cons_succ]
      refine wpAnyL_ready (rs := [6]) (by kernel_rfl) (by kernel_rfl) (by simp) ?_
      refine AllReadyL.cons (o := ?_) ?_ (fun K hK => ?_) AllReadyL.nil
      case refine_2 => (simp only [List.getElem?_cons_succ, List.getElem?_cons_zero]; rfl)
      have HGE : Hid (w1.heap.size ≤ wx.heap.size) := Lib.hid HX0.out
      have HLF : Hid (Only (w1.heap.size ≤ ·) w1 ((w3.setCell ⟨wx.heap.size, 0, none⟩ (.pointer (some ⟨p, 0, none⟩))).setCell ⟨wx.heap.size, 1, none⟩ (.int .i64 g))) := Lib.hid ((HLC.out.setCell (p := ⟨wx.heap.size, 0, none⟩) HGE.out _).setCell (p := ⟨wx.heap.size, 1, none⟩) HGE.out _)
      go_simp
      clear hHeld
      refine hK.out _ _ (KC.out _ HLF.out) (fun hHeld => ?_)
      clear hK K
      try simp only [List.set_cons_zero, List.set_cons_succ]
      refine wpAnyL_done (by kernel_rfl) (by kernel_rfl) ?_ _
      clear hsel hHeld
      go_wp2_with (fail)
      go_meet
      refine ⟨_, p, q, rfl, Lib.hid ((HBA.out.set_ 0 _).set_ 1 _), Lib.hid (HH.out.only (((Only.refl (· = wx.heap.size) _).setCell (p := ⟨wx.heap.size, 0, none⟩) rfl _).setCell (p := ⟨wx.heap.size, 1, none⟩) rfl _) (fun j hj _ e => ?_)), HLF, Lib.hid ?_⟩
      · have h2 := HNE.out; rcases hj with hj | hj <;> omega
      · have h1 := HPQ.out; have h2 := HNE.out; have h4 := HX0.out; have h5 := HBA.out.lt; simp at h5 ⊢; omega
  case rest =>
    obtain ⟨rb, p, q, rfl, HRB, HH, HLW, HPQ⟩ := hcut
    obtain ⟨i0, i1, i2, i3⟩ := KC.out _ HLW.out
    have hkb : (k == 76) = false := by rw [beq_eq_false_iff_ne]; exact hk
    go_upto_region 3 with (fail)
    obtain ⟨bn, hbn⟩ : ∃ x, x = wc.heap.size := ⟨_, rfl⟩
    obtain ⟨wB, hwB⟩ : ∃ x, x = wc.alloc (.cells #[.bool false, .slice none 0 0, .slice none 0 0] 28) := ⟨_, rfl⟩
    have HPC : Hid (p < bn) := Lib.hid (by rw [hbn]; exact HH.out.lt)
    have HSB : Hid (wB.heap.size = bn + 1) := Lib.hid (by rw [hwB, hbn]; simp)
    have hal : Only (wc.heap.size ≤ ·) wc wB := by rw [hwB]; exact (Only.refl _ _).alloc (fun _ h => h) _
    have HBN : Hid (Blk wB bn 28 [.bool false, .slice none 0 0, .slice none 0 0]) := Lib.hid (by rw [hwB, hbn]; exact Blk.new wc 28 _)
    replace HRB := Lib.hid (HRB.out.later hal)
    replace HH := Lib.hid (HH.out.later hal)
    have HNM : Hid (p < bn ∧ q < bn ∧ rb < bn ∧ rb ≠ p ∧ rb ≠ q ∧ w.heap.size + 1 < p ∧ w.heap.size + 1 < q ∧ w.heap.size + 1 < rb ∧ w1.heap.size ≤ bn ∧ wB.heap.size = bn + 1) := Lib.hid (by have h1 := HPQ.out; have h2 := HZ.out; have h3 := HLW.out.size; have h4 := HPC.out; have h5 := HSB.out; omega)
    replace HLW := Lib.hid (on_new HLW.out hal)
    rw [← hwB, ← hbn]
    clear hwB hbn hal i0 i1 i2 i3 HPQ HSB
    obtain ⟨i0, i1, i2, i3⟩ := KC.out _ HLW.out
    go_wp2_with (go_at_call 50; (with_reducible refine (readingOf_K _ k hk).mono ?_); rintro ee w' ⟨rfl, rfl⟩)
    clear i0 i1 i2 i3 hkb
    go_loopw [9] (fun i wr => ∃ (j : Nat) (l : List Kd) (R : Option Addr) (t : Nat) (c : Cur), j ≤ cnt ∧ i = .int .i64 j ∧ Hid (rdLoop (rdK g) (cnt - j) l c = RES) ∧ Hid (RedK wB p q bn c R j t l wr)) (fun i _ => cnt - (intOf i).toNat)
    case atStart => exact ⟨0, [], none, 0, _, Nat.zero_le _, rfl, HRES, Lib.hid ⟨[], rfl, HH.out, HBN.out, World.ownsRow_nil _ _ _ _, rfl, Only.refl _ _⟩⟩
    case round =>
      obtain ⟨j, l, R, t, c, hjc, rfl, HRL, HUR⟩ := hrel
      have HOB : Hid (Only (fun j => j = p ∨ j = bn ∨ wB.heap.size ≤ j) wB wr) := Lib.hid (by obtain ⟨_, _, _, _, _, _, h⟩ := HUR.out; exact h)
      have HHR : Hid (Holds wr p q 84 c) := Lib.hid (by obtain ⟨_, _, h, _⟩ := HUR.out; exact h)
      have HBR : Hid (Blk wr bn 28 [.bool false, .slice none 0 0, .slice R j t]) := Lib.hid (by obtain ⟨_, _, _, h, _⟩ := HUR.out; exact h)
      have HL1 : Hid (Only (w1.heap.size ≤ ·) w1 wr) := Lib.hid (HLW.out.trans (HOB.out.mono fun j hj => by have h1 := HNM.out; have h2 := HZ.out; rcases hj with hj | hj | hj <;> omega))
      have HOR : Hid (Only (w.heap.size ≤ ·) w wr) := Lib.hid (HO.out.trans (HL1.out.mono fun j hj => by have := HZ.out; omega))
      have HRR : Hid (Blk wr rb 93 [.pointer (some ⟨p, 0, none⟩), .int .i64 g]) := Lib.hid (HRB.out.only HOB.out (by have h1 := HNM.out; rintro (hj | hj | hj) <;> omega))
      have HRX : Hid (Blk wr (w.heap.size + 1) 28 [.bool false, .slice none 0 0, .slice none 0 0]) := Lib.hid (HRS.out.only HL1.out (by have := HZ.out; omega))
      obtain ⟨i0, i1, i2, i3⟩ := KC.out _ HL1.out
      obtain ⟨r0, r1⟩ := HRR.out.pair
      have HER : Hid (Calls Tryz.prog 42 #[.pointer (some ⟨p, 0, none⟩)] wr fun e w' => e = .returned (.int .i64 (if c.sp = true then 30 else 0)) ∧ wr = w') := Lib.hid (Err_c wr p q c HHR.out)
      by_cases hlt : j < cnt
      · have hji : (j : Int) < (cnt : Int) := by omega
        obtain ⟨sp, hsp⟩ : ∃ x, c.sp = x := ⟨_, rfl⟩
        rw [hsp] at HER
        cases sp
        · simp only [Bool.false_eq_true, if_false] at HER
          have HADD : Hid (Calls Tryz.prog 81 #[.agg #[.pointer (some ⟨p, 0, none⟩), .int .i64 g], .pointer (some ⟨bn, 0, none⟩)] wr fun e w' => e = .returned (.tuple #[]) ∧ ∃ R' t', RedK wB p q bn (rdK g c).2 R' (j + 1) t' (l ++ [(rdK g c).1]) w') := Lib.hid (by
            obtain ⟨CC, hn, h1, h2, h3, h4, h5⟩ := HUR.out
            have hnm := HNM.out
            refine (addK_c wr p q bn wB.heap.size c g false (.slice none 0 0) R j t CC h1 h2 h3 (by omega) (by omega) (by omega) (by omega) (by omega) h5.size (by omega) (fun W hW => HGN.out.later (HOR.out.trans (hW.mono fun j hj => by have := HOR.out.size; rcases hj with hj | hj <;> omega)))).mono ?_
            intro e w' h
            have he : e = .returned (.tuple #[]) := by obtain ⟨_, _, _, _, h, _⟩ := h; exact h
            subst he
            refine ⟨rfl, ?_⟩
            have hp1 : p < wB.heap.size := by omega
            have hp2 : bn < wB.heap.size := by omega
            exact RedK.step hp1 hp2 hn h4 h5 h3 h)
          have HSP := Lib.hid hsp
          clear hsp
          go_wp2_with (first
            | (go_at_call 42; (with_reducible refine HER.out.mono ?_); rintro ee w' ⟨rfl, rfl⟩)
            | (go_at_call 81; (with_reducible refine HADD.out.mono ?_); rintro ee w6 ⟨rfl, R', t', hu⟩; have HU6 := Lib.hid hu; clear hu))
          go_roundw
          case rel => exact ⟨j + 1, _, R', t', _, by omega, by go_num, Lib.hid (by
            have h := HRL.out
            rw [show cnt - j = (cnt - (j + 1)) + 1 by omega, rdLoop, if_neg (by rw [HSP.out]; decide)] at h
            exact h), HU6⟩
          case measure => simp [intOf]; omega
        · simp only [if_true] at HER
          have HEX : Hid (RES = (l, c)) := Lib.hid (by rw [← HRL.out]; exact rdLoop_sp _ _ _ hsp)
          clear hsp
          go_wp2_with (go_at_call 42; (with_reducible refine HER.out.mono ?_); rintro ee w' ⟨rfl, rfl⟩)
          clear i0 i1 i2 i3 r0 r1
          have KN0 : Hid (∀ W, Only (fun j => j = w.heap.size + 1) wr W → (W.cell? ⟨bn, 0, none⟩ = some (.bool false) ∧ W.cell? ⟨bn, 1, none⟩ = some (.slice none 0 0) ∧ W.cell? ⟨bn, 2, none⟩ = some (.slice R j t)) ∧ W.cell? ⟨rb, 0, none⟩ = some (.pointer (some ⟨p, 0, none⟩)) ∧ W.cell? ⟨rb, 1, none⟩ = some (.int .i64 g)) := Lib.hid fun W hW => ⟨(HBR.out.only hW (by have := HNM.out; omega)).tri, (HRR.out.only hW (by have := HNM.out; omega)).pair⟩
          refine wp_region_list (B := [false, false, false, false, false, false]) (S := (fun W => (W.cell? ⟨bn, 0, none⟩ = some (.bool false) ∧ W.cell? ⟨bn, 1, none⟩ = some (.slice none 0 0) ∧ W.cell? ⟨bn, 2, none⟩ = some (.slice R j t)) ∧ W.cell? ⟨rb, 0, none⟩ = some (.pointer (some ⟨p, 0, none⟩)) ∧ W.cell? ⟨rb, 1, none⟩ = some (.int .i64 g))) (by kernel_rfl) (by kernel_rfl) (by kernel_rfl) (KN0.out _ (Only.refl _ _).drew) (fun hsel hHeld => ?_)
          obtain ⟨wy, hwy⟩ : ∃ wy, wy = wr.drew := ⟨_, rfl⟩
          have HEY : Hid (Calls Tryz.prog 42 #[.pointer (some ⟨p, 0, none⟩)] wy fun e w' => e = .returned (.int .i64 c.err) ∧ wy = w') := Lib.hid (by rw [hwy]; exact Err_c _ p q c (HHR.out.drewN 1))
          have KN : Hid (∀ W, Only (fun j => j = w.heap.size + 1) wy W → (W.cell? ⟨bn, 0, none⟩ = some (.bool false) ∧ W.cell? ⟨bn, 1, none⟩ = some (.slice none 0 0) ∧ W.cell? ⟨bn, 2, none⟩ = some (.slice R j t)) ∧ W.cell? ⟨rb, 0, none⟩ = some (.pointer (some ⟨p, 0, none⟩)) ∧ W.cell? ⟨rb, 1, none⟩ = some (.int .i64 g)) := Lib.hid fun W hW => KN0.out W (((Only.refl _ _).drew : Only (fun j => j = w.heap.size + 1) wr wr.drew).trans (by rw [← hwy]; exact hW))
          have HSY : Hid (Blk wy (w.heap.size + 1) 28 [.bool false, .slice none 0 0, .slice none 0 0]) := Lib.hid (by rw [hwy]; exact HRX.out.drew)
          have HOS : Hid (Only (fun j => j = w.heap.size + 1) wy (((wy.setCell ⟨w.heap.size + 1, 0, none⟩ (.bool false)).setCell ⟨w.heap.size + 1, 1, none⟩ (.slice none 0 0)).setCell ⟨w.heap.size + 1, 2, none⟩ (.slice R j t))) := Lib.hid ((((Only.refl (fun j => j = w.heap.size + 1) wy).setCell (p := ⟨w.heap.size + 1, 0, none⟩) rfl _).setCell (p := ⟨w.heap.size + 1, 1, none⟩) rfl _).setCell (p := ⟨w.heap.size + 1, 2, none⟩) rfl _)
          have HOW : Hid (Only (fun j => j = w.heap.size + 1) wr (((wy.setCell ⟨w.heap.size + 1, 0, none⟩ (.bool false)).setCell ⟨w.heap.size + 1, 1, none⟩ (.slice none 0 0)).setCell ⟨w.heap.size + 1, 2, none⟩ (.slice R j t))) := Lib.hid (((Only.refl _ _).drew : Only (fun j => j = w.heap.size + 1) wr wr.drew).trans (by rw [← hwy]; exact HOS.out))
          rw [← hwy] at hHeld
          rw [← hwy]
          clear hwy
          obtain ⟨s0, s1, s2⟩ := HSY.out.tri
          obtain ⟨z0, z1, z2⟩ := HSY.out.melt3
          refine oneA 0 37 hsel (h := ?_)
          simp only [Act.put, List.setIfInBounds_toArray, List.set_cons_zero, List.set_cons_succ]
          refine oneA 1 38 hsel (h := ?_)
          simp only [Act.put, List.setIfInBounds_toArray, List.set_cons_zero, List.set_cons_succ]
          refine oneA 2 39 hsel (h := ?_)
          simp only [Act.put, List.setIfInBounds_toArray, List.set_cons_zero, List.set_cons_succ]
          refine wpAnyL_ready (rs := [3]) (by kernel_rfl) (by kernel_rfl) (by simp) ?_
          refine AllReadyL.cons (o := ?_) ?_ (fun K hK => ?_) AllReadyL.nil
          case refine_2 => (simp only [List.getElem?_cons_succ, List.getElem?_cons_zero]; rfl)
          go_simp
          (go_at_call 42; (with_reducible refine (HEY.out).mono ?_); rintro ee w' ⟨rfl, rfl⟩)
          go_wp2_with (fail)
          clear hHeld
          refine hK.out _ _ (KN.out _ (Only.refl _ _)) (fun hHeld => ?_)
          clear hK K
          try simp only [List.set_cons_zero, List.set_cons_succ]
          refine wpAnyL_ready (rs := [4]) (by kernel_rfl) (by kernel_rfl) (by simp) ?_
          refine AllReadyL.cons (o := ?_) ?_ (fun K hK => ?_) AllReadyL.nil
          case refine_2 => (simp only [List.getElem?_cons_succ, List.getElem?_cons_zero]; rfl)
          go_simp
          clear hHeld
          refine hK.out _ _ (KN.out _ HOS.out) (fun hHeld => ?_)
          clear hK K
          try simp only [List.set_cons_zero, List.set_cons_succ]
          refine oneA 5 5 hsel (h := ?_)
          simp only [Act.put, List.setIfInBounds_toArray, List.set_cons_zero, List.set_cons_succ]
          refine wpAnyL_done (by kernel_rfl) (by kernel_rfl) ?_ _
          clear hsel hHeld
          go_wp2
          refine bodyPost_ret (results_cell_tmp rfl rfl (load_node (((HSY.out.set_ 0 (.bool false)).set_ 1 (.slice none 0 0)).set_ 2 (.slice R j t)) rfl rfl)) rfl ?_
          rw [HAN.out.1, HAN.out.2, HEX.out]
          exact ⟨_, _, _, _, _, _, rfl, HUR.out.nod HOW.out (fun j hj => .inl (by rw [hj]; have := HNM.out; omega)), HOR.out.trans (HOW.out.mono fun j hj => by rw [hj]; omega)⟩
      · have hji : ¬ (j : Int) < (cnt : Int) := by omega
        have HEX : Hid (RES = (l, c)) := Lib.hid (by rw [← HRL.out, show cnt - j = 0 by omega]; rfl)
        go_wp2_with (fail)
        clear i0 i1 i2 i3 r0 r1
        have KN0 : Hid (∀ W, Only (fun j => j = w.heap.size + 1) wr W → (W.cell? ⟨bn, 0, none⟩ = some (.bool false) ∧ W.cell? ⟨bn, 1, none⟩ = some (.slice none 0 0) ∧ W.cell? ⟨bn, 2, none⟩ = some (.slice R j t)) ∧ W.cell? ⟨rb, 0, none⟩ = some (.pointer (some ⟨p, 0, none⟩)) ∧ W.cell? ⟨rb, 1, none⟩ = some (.int .i64 g)) := Lib.hid fun W hW => ⟨(HBR.out.only hW (by have := HNM.out; omega)).tri, (HRR.out.only hW (by have := HNM.out; omega)).pair⟩
        refine wp_region_list (B := [false, false, false, false, false, false]) (S := (fun W => (W.cell? ⟨bn, 0, none⟩ = some (.bool false) ∧ W.cell? ⟨bn, 1, none⟩ = some (.slice none 0 0) ∧ W.cell? ⟨bn, 2, none⟩ = some (.slice R j t)) ∧ W.cell? ⟨rb, 0, none⟩ = some (.pointer (some ⟨p, 0, none⟩)) ∧ W.cell? ⟨rb, 1, none⟩ = some (.int .i64 g))) (by kernel_rfl) (by kernel_rfl) (by kernel_rfl) (KN0.out _ (Only.refl _ _).drew) (fun hsel hHeld => ?_)
        obtain ⟨wy, hwy⟩ : ∃ wy, wy = wr.drew := ⟨_, rfl⟩
        have HEY : Hid (Calls Tryz.prog 42 #[.pointer (some ⟨p, 0, none⟩)] wy fun e w' => e = .returned (.int .i64 c.err) ∧ wy = w') := Lib.hid (by rw [hwy]; exact Err_c _ p q c (HHR.out.drewN 1))
        have KN : Hid (∀ W, Only (fun j => j = w.heap.size + 1) wy W → (W.cell? ⟨bn, 0, none⟩ = some (.bool false) ∧ W.cell? ⟨bn, 1, none⟩ = some (.slice none 0 0) ∧ W.cell? ⟨bn, 2, none⟩ = some (.slice R j t)) ∧ W.cell? ⟨rb, 0, none⟩ = some (.pointer (some ⟨p, 0, none⟩)) ∧ W.cell? ⟨rb, 1, none⟩ = some (.int .i64 g)) := Lib.hid fun W hW => KN0.out W (((Only.refl _ _).drew : Only (fun j => j = w.heap.size + 1) wr wr.drew).trans (by rw [← hwy]; exact hW))
        have HSY : Hid (Blk wy (w.heap.size + 1) 28 [.bool false, .slice none 0 0, .slice none 0 0]) := Lib.hid (by rw [hwy]; exact HRX.out.drew)
        have HOS : Hid (Only (fun j => j = w.heap.size + 1) wy (((wy.setCell ⟨w.heap.size + 1, 0, none⟩ (.bool false)).setCell ⟨w.heap.size + 1, 1, none⟩ (.slice none 0 0)).setCell ⟨w.heap.size + 1, 2, none⟩ (.slice R j t))) := Lib.hid ((((Only.refl (fun j => j = w.heap.size + 1) wy).setCell (p := ⟨w.heap.size + 1, 0, none⟩) rfl _).setCell (p := ⟨w.heap.size + 1, 1, none⟩) rfl _).setCell (p := ⟨w.heap.size + 1, 2, none⟩) rfl _)
        have HOW : Hid (Only (fun j => j = w.heap.size + 1) wr (((wy.setCell ⟨w.heap.size + 1, 0, none⟩ (.bool false)).setCell ⟨w.heap.size + 1, 1, none⟩ (.slice none 0 0)).setCell ⟨w.heap.size + 1, 2, none⟩ (.slice R j t))) := Lib.hid (((Only.refl _ _).drew : Only (fun j => j = w.heap.size + 1) wr wr.drew).trans (by rw [← hwy]; exact HOS.out))
        rw [← hwy] at hHeld
        rw [← hwy]
        clear hwy
        obtain ⟨s0, s1, s2⟩ := HSY.out.tri
        obtain ⟨z0, z1, z2⟩ := HSY.out.melt3
        refine oneA 0 37 hsel (h := ?_)
        simp only [Act.put, List.setIfInBounds_toArray, List.set_cons_zero, List.set_cons_succ]
        refine oneA 1 38 hsel (h := ?_)
        simp only [Act.put, List.setIfInBounds_toArray, List.set_cons_zero, List.set_cons_succ]
        refine oneA 2 39 hsel (h := ?_)
        simp only [Act.put, List.setIfInBounds_toArray, List.set_cons_zero, List.set_cons_succ]
        refine wpAnyL_ready (rs := [3]) (by kernel_rfl) (by kernel_rfl) (by simp) ?_
        refine AllReadyL.cons (o := ?_) ?_ (fun K hK => ?_) AllReadyL.nil
        case refine_2 => (simp only [List.getElem?_cons_succ, List.getElem?_cons_zero]; rfl)
        go_simp
        (go_at_call 42; (with_reducible refine (HEY.out).mono ?_); rintro ee w' ⟨rfl, rfl⟩)
        go_wp2_with (fail)
        clear hHeld
        refine hK.out _ _ (KN.out _ (Only.refl _ _)) (fun hHeld => ?_)
        clear hK K
        try simp only [List.set_cons_zero, List.set_cons_succ]
        refine wpAnyL_ready (rs := [4]) (by kernel_rfl) (by kernel_rfl) (by simp) ?_
        refine AllReadyL.cons (o := ?_) ?_ (fun K hK => ?_) AllReadyL.nil
        case refine_2 => (simp only [List.getElem?_cons_succ, List.getElem?_cons_zero]; rfl)
        go_simp
        clear hHeld
        refine hK.out _ _ (KN.out _ HOS.out) (fun hHeld => ?_)
        clear hK K
        try simp only [List.set_cons_zero, List.set_cons_succ]
        refine oneA 5 5 hsel (h := ?_)
        simp only [Act.put, List.setIfInBounds_toArray, List.set_cons_zero, List.set_cons_succ]
        refine wpAnyL_done (by kernel_rfl) (by kernel_rfl) ?_ _
        clear hsel hHeld
        go_wp2
        refine bodyPost_ret (results_cell_tmp rfl rfl (load_node (((HSY.out.set_ 0 (.bool false)).set_ 1 (.slice none 0 0)).set_ 2 (.slice R j t)) rfl rfl)) rfl ?_
        rw [HAN.out.1, HAN.out.2, HEX.out]
        exact ⟨_, _, _, _, _, _, rfl, HUR.out.nod HOW.out (fun j hj => .inl (by rw [hj]; have := HNM.out; omega)), HOR.out.trans (HOW.out.mono fun j hj => by rw [hj]; omega)⟩
end Go.Proofs.YtoghojgajpfkkaaGreatDoor
