/-
  Decode.
-/
import Derived.Test.YtoghojgajpfkkaaGreatDoorEnc
import Derived.Test.YtoghojgajpfkkaaGreatDoorPnh
import Derived.Test.YtoghojgajpfkkaaGreatDoorRea
import Derived.Test.YtoghojgajpfkkaaGreatDoorGa
set_option linter.unusedVariables false
namespace Go.Proofs.YtoghojgajpfkkaaGreatDoor
open Go.RowKit

theorem results_tct {fn : Func} {P : Program} {p t u : Tmp} {ty : TypeId} {tmps : Array Value} {w : World} {a : Addr} {v : Value} (h : fn.results = #[.tmp t, .cell p ty, .tmp u]) (ha : tmps.getD p undef = .pointer (some a)) (hl : (loadVar ty a).run P w = .ok v w) :
    (results fn tmps).run P w = .ok (.tuple #[tmps.getD t undef, v, tmps.getD u undef]) w := by
  rw [Array.getD_eq_getD_getElem?] at ha
  simp only [results, h]
  simp [ha, asAddr, hl]
theorem get_yes {c : Cur} {k : Int} (h : (c.get k).sp = false) : c.sp = false ∧ c.may k = true ∧ (c.get k).at_ = c.at_ + k.toNat ∧ (c.get k).b = c.b := by
  unfold Cur.get at h ⊢
  by_cases hm : c.may k = true
  · rw [if_pos hm] at h ⊢
    have hh : c.has k = true := by unfold Cur.may at hm; simp only [Bool.and_eq_true] at hm; exact hm.2.1
    refine ⟨(Cur.has_parts hh).1, hm, ?_, Cur.take_b _ _⟩
    unfold Cur.take
    rw [if_pos hh]
  · rw [if_neg hm] at h
    cases h
theorem take_yes {c : Cur} {k : Int} (h : (c.take k).sp = false) : c.sp = false ∧ c.has k = true ∧ (c.take k).at_ = c.at_ + k.toNat ∧ (c.take k).b = c.b := by
  unfold Cur.take at h ⊢
  by_cases hm : c.has k = true
  · rw [if_pos hm] at h ⊢
    exact ⟨(Cur.has_parts hm).1, hm, rfl, rfl⟩
  · rw [if_neg hm] at h
    cases h
/-- An item that is there has four bytes at least. -/
theorem rdI_yes {g : Int} {c : Cur} (h : (rdI g c).2.sp = false) : c.sp = false ∧ c.at_ + 4 ≤ (rdI g c).2.at_ ∧ (rdI g c).2.b = c.b := by
  have key : ∀ c5 : Cur, c5.sp = false → (c5 = ((((c.get 1).get 1).get 2).take (c.val 1)).take (((c.get 1).get 1).val 2) ∨ c5 = ((((c.get 1).get 1).get 2).take (c.val 1)).get (tr g 4 8 8)) → c.sp = false ∧ c.at_ + 4 ≤ c5.at_ ∧ c5.b = c.b := by
    intro c5 h5 e
    have h4 : ((((c.get 1).get 1).get 2).take (c.val 1)).sp = false ∧ ((((c.get 1).get 1).get 2).take (c.val 1)).at_ ≤ c5.at_ ∧ c5.b = ((((c.get 1).get 1).get 2).take (c.val 1)).b := by
      rcases e with rfl | rfl
      · obtain ⟨a1, _, a2, a3⟩ := take_yes h5
        exact ⟨a1, by omega, a3⟩
      · obtain ⟨a1, _, a2, a3⟩ := get_yes h5
        exact ⟨a1, by omega, a3⟩
    obtain ⟨b1, _, b2, b3⟩ := take_yes h4.1
    obtain ⟨d1, _, d2, d3⟩ := get_yes b1
    obtain ⟨e1, _, e2, e3⟩ := get_yes d1
    obtain ⟨f1, _, f2, f3⟩ := get_yes e1
    refine ⟨f1, ?_, ?_⟩
    · have h2 : (2 : Int).toNat = 2 := rfl
      have h1 : (1 : Int).toNat = 1 := rfl
      omega
    · rw [h4.2.2, b3, d3, e3, f3]
  unfold rdI at h ⊢
  simp only at h ⊢
  split at h
  · rename_i h0
    rw [if_pos h0]
    exact key _ h (.inl rfl)
  · rename_i h0
    rw [if_neg h0]
    exact key _ h (.inr rfl)
theorem rdK_yes {g : Int} {c : Cur} (h : (rdK g c).2.sp = false) : c.sp = false ∧ c.at_ + 1 ≤ (rdK g c).2.at_ ∧ (rdK g c).2.b = c.b := by
  unfold rdK at h ⊢
  simp only at h ⊢
  obtain ⟨a1, _, a2, a3⟩ := get_yes h
  obtain ⟨b1, _, b2, b3⟩ := take_yes a1
  obtain ⟨d1, _, d2, d3⟩ := get_yes b1
  have h1 : (1 : Int).toNat = 1 := rfl
  exact ⟨d1, by omega, by rw [a3, b3, d3]⟩
theorem rdLoop_yes {α : Type} {f : Cur → α × Cur} {k : Nat} (hf : ∀ c, (f c).2.sp = false → c.sp = false ∧ c.at_ + k ≤ (f c).2.at_ ∧ (f c).2.b = c.b) : ∀ (n : Nat) (a : List α) (c : Cur), (rdLoop f n a c).2.sp = false →
    c.sp = false ∧ (rdLoop f n a c).2.b = c.b ∧ (rdLoop f n a c).1.length = a.length + n ∧ c.at_ + n * k ≤ (rdLoop f n a c).2.at_
  | 0, a, c, h => ⟨h, rfl, rfl, by rw [Nat.zero_mul]; exact Nat.le_refl _⟩
  | n + 1, a, c, h => by
    by_cases hc : c.sp = true
    · rw [rdLoop_sp f _ a hc] at h
      rw [hc] at h
      cases h
    · rw [rdLoop, if_neg hc] at h ⊢
      obtain ⟨h1, h2, h3, h4⟩ := rdLoop_yes hf n _ _ h
      obtain ⟨k1, k2, k3⟩ := hf c h1
      rw [Nat.succ_mul]
      refine ⟨k1, by rw [h2, k3], by rw [h3, List.length_append]; simp; omega, by omega⟩
theorem rdLoop_wf {α : Type} {f : Cur → α × Cur} (hf : ∀ c, c.WF → (f c).2.WF) : ∀ (n : Nat) (a : List α) (c : Cur), c.WF → (rdLoop f n a c).2.WF
  | 0, a, c, h => h
  | n + 1, a, c, h => by
    rw [rdLoop]
    split
    · exact h
    · exact rdLoop_wf hf n _ _ (hf c h)
theorem rdI_wf {g : Int} {c : Cur} (h : c.WF) : (rdI g c).2.WF := by
  unfold rdI
  simp only
  split
  · exact (((((h.get 1).get 1).get 2).take _).take _)
  · exact (((((h.get 1).get 1).get 2).take _).get _)
theorem rdK_wf {g : Int} {c : Cur} (h : c.WF) : (rdK g c).2.WF := ((h.get 1).take _).get _
/-- A node that was read to the end is small. -/
theorem rd_few {lf : Bool} {g : Int} {cnt : Nat} {b : Bytes} (hb : b.length ≤ 256) (h : (rdC lf g cnt b).sp = false) : (rdN lf g cnt b).its.length ≤ 1000 ∧ (rdN lf g cnt b).kds.length ≤ 1000 ∧ ((if lf = true then (rdN lf g cnt b).its.length else (rdN lf g cnt b).kds.length) = cnt) := by
  have w0 : (Cur.new b).WF := ⟨Nat.zero_le _, by show b.length ≤ _; omega⟩
  unfold rdC at h
  unfold rdN
  cases lf
  · simp only [Bool.false_eq_true, if_false] at h ⊢
    obtain ⟨_, h2, h3, h4⟩ := rdLoop_yes (f := rdK g) (k := 1) (fun c => rdK_yes) cnt [] (Cur.new b) h
    have h5 := (rdLoop_wf (f := rdK g) (fun c => rdK_wf) cnt [] (Cur.new b) w0).at_
    rw [h2] at h5
    simp only [Cur.new, List.length_nil] at h3 h4 h5 ⊢
    omega
  · simp only [if_true] at h ⊢
    obtain ⟨_, h2, h3, h4⟩ := rdLoop_yes (f := rdI g) (k := 4) (fun c => rdI_yes) cnt [] (Cur.new b) h
    have h5 := (rdLoop_wf (f := rdI g) (fun c => rdI_wf) cnt [] (Cur.new b) w0).at_
    rw [h2] at h5
    simp only [Cur.new, List.length_nil] at h3 h4 h5 ⊢
    omega
def isLf (b : Bytes) : Bool := decide (hdK b = 76)
/-- The node that a page's body tells. -/
def dcN (b : Bytes) : Nd := rdN (isLf b) (hdG b) (hdN b) (bodyOf b)
def dcC (b : Bytes) : Cur := rdC (isLf b) (hdG b) (hdN b) (bodyOf b)
/-- Is it what Encode makes of some node? -/
def DecOk (b : Bytes) : Prop := nhE b = 0 ∧ (dcC b).sp = false ∧ (RightN (hdG b) (dcN b) ∧ anyU (dcN b).its = false) ∧ pageB (hdG b) (dcN b) = b
def zeroN : Nd := ⟨false, [], []⟩
/-- What Decode answers. -/
def GaveD (w : World) (b : Bytes) (e : Ending) (w' : World) : Prop := ∃ ok : Bool, (ok = true ↔ DecOk b) ∧ ∃ (f : Bool) (A : Option Addr) (n c : Nat) (B : Option Addr) (m d : Nat), e = .returned (.tuple #[.int .i64 (if ok = true then (hdG b : Int) else 0), .agg #[.bool f, .slice A n c, .slice B m d], .int .i64 (if ok = true then 0 else if nhE b = 0 then 72 else nhE b)]) ∧
  Nod w' (if ok = true then dcN b else zeroN) f (.slice A n c) (.slice B m d) ∧ Only (w.heap.size ≤ ·) w w'
theorem zero_nod (w : World) : Nod w zeroN false (.slice none 0 0) (.slice none 0 0) := ⟨rfl, Rw.nil_ _, Rw.nil_ _⟩
theorem nd_set {wz : World} {q : Nat} {a b c x y z : Value} (h : Blk wz q 28 [a, b, c]) : Blk (((wz.setCell ⟨q, 0, none⟩ x).setCell ⟨q, 1, none⟩ y).setCell ⟨q, 2, none⟩ z) q 28 [x, y, z] := ((h.set_ 0 _).set_ 1 _).set_ 2 _
theorem nd_only {F : Nat → Prop} {w wz : World} {q : Nat} {x y z : Value} (h : Only F w wz) (hq : F q) : Only F w (((wz.setCell ⟨q, 0, none⟩ x).setCell ⟨q, 1, none⟩ y).setCell ⟨q, 2, none⟩ z) :=
  ((h.setCell (p := ⟨q, 0, none⟩) hq _).setCell (p := ⟨q, 1, none⟩) hq _).setCell (p := ⟨q, 2, none⟩) hq _

set_option maxRecDepth 100000 in
set_option maxHeartbeats 3200000 in
theorem dec_bad (w : World) (v : Value) (b : Bytes) (z : Int) (hz : z ≠ 0) (he : nhE b = z) (hH : ∀ W, Only (w.heap.size ≤ ·) w W → Calls Tryz.prog 17 #[v] W (Told W (hdBad z))) : Calls Tryz.prog 6 #[v] w (GaveD w b) := by
  obtain ⟨W0, hW0⟩ : ∃ W0, W0 = w.alloc (.cells #[.bool false, .slice none 0 0, .slice none 0 0] 28) := ⟨_, rfl⟩
  have HO : Hid (Only (w.heap.size ≤ ·) w W0) := Lib.hid (by rw [hW0]; exact (Only.refl _ w).alloc (fun _ h => h) _)
  have HI : Hid (Blk W0 w.heap.size 28 [.bool false, .slice none 0 0, .slice none 0 0]) := Lib.hid (by rw [hW0]; exact Blk.new w 28 _)
  have HHO := Lib.hid hH
  have hb : (z == 0) = false := by rw [beq_eq_false_iff_ne]; exact hz
  have HZZ := Lib.hid (And.intro hz he)
  clear hz hH he
  unfold hdBad at HHO
  go_enter Tryz.func6, Tryz.ntmps6
  go_upto_region 1 with (fail)
  rw [← hW0]
  clear hW0
  go_upto_region 2 with (go_at_call 17; (with_reducible refine (HHO.out _ HO.out).mono ?_); rintro e w1 ⟨rfl, ho⟩; have HI1 := Lib.hid (HI.out.later ho); have HO1 := Lib.hid (on_new HO.out ho); clear ho)
  have HI2 := Lib.hid (HI1.out.alloc (.cells #[.int .i64 0, .int .i64 0, .int .i64 0, .int .i64 0] 47))
  have HO2 := Lib.hid (HO1.out.alloc (fun _ h => h) (.cells #[.int .i64 0, .int .i64 0, .int .i64 0, .int .i64 0] 47))
  obtain ⟨i0, i1, i2⟩ := HI2.out.tri
  obtain ⟨f0, f1, f2⟩ := HI2.out.melt3
  go_wp2
  exact bodyPost_ret (results_tct rfl rfl (load_node (nd_set HI2.out) rfl rfl)) rfl ⟨false, ⟨fun h => (by simp at h), fun h => absurd (HZZ.out.2.symm.trans h.1) HZZ.out.1⟩, false, none, 0, 0, none, 0, 0, by rw [show (if nhE b = 0 then (72 : Int) else nhE b) = z from by rw [if_neg (by rw [HZZ.out.2]; exact HZZ.out.1), HZZ.out.2]]; rfl, zero_nod _, nd_only HO2.out (Nat.le_refl _)⟩

/-- A generation and a node came back, or an error. -/
def GaveG (w : World) (g : Int) (x : Nd) (Q : Prop) (e : Ending) (w' : World) : Prop := ∃ ok : Bool, (ok = true ↔ Q) ∧ ∃ (f : Bool) (A : Option Addr) (n c : Nat) (B : Option Addr) (m d : Nat), e = .returned (.tuple #[.int .i64 (if ok = true then g else 0), .agg #[.bool f, .slice A n c, .slice B m d], .int .i64 (if ok = true then 0 else 72)]) ∧ Nod w' (if ok = true then x else zeroN) f (.slice A n c) (.slice B m d) ∧ Only (w.heap.size ≤ ·) w w'
/-- The head may be, and the body tells this. -/
theorem dec_go (w : World) (v : Value) (k g xx : Int) (cnt : Nat) (x : Nd) (z : Int) (PB body b : Bytes) (R : Prop) (hg : I64 g)
    (hN : ∀ W, Only (w.heap.size ≤ ·) w W → Calls Tryz.prog 17 #[v] W (Told W (.tuple #[.agg #[.int .i64 k, .int .i64 g, .int .i64 (cnt : Nat), .int .i64 xx], .int .i64 0])))
    (hB : ∀ W, Only (w.heap.size ≤ ·) w W → Calls Tryz.prog 16 #[v] W (GaveB W body))
    (hR : ∀ W u, Only (w.heap.size ≤ ·) w W → Src W u body → Calls Tryz.prog 18 #[.agg #[.int .i64 k, .int .i64 g, .int .i64 (cnt : Nat), .int .i64 xx], u] W (GaveR W x z))
    (hE : z = 0 → ∀ W A n c B m d, Only (w.heap.size ≤ ·) w W → Nod W x x.leaf (.slice A n c) (.slice B m d) → Calls Tryz.prog 10 #[.int .i64 g, .agg #[.bool x.leaf, .slice A n c, .slice B m d]] W (fun e w' => ∃ b : Bool, (b = true ↔ R) ∧ GaveBE W (if b = true then PB else []) (if b = true then 0 else 73) e w'))
    (hV : ∀ W, Only (w.heap.size ≤ ·) w W → Src W v b) :
    Calls Tryz.prog 6 #[v] w (GaveG w g x (z = 0 ∧ R ∧ PB = b)) := by
  obtain ⟨W0, hW0⟩ : ∃ W0, W0 = w.alloc (.cells #[.bool false, .slice none 0 0, .slice none 0 0] 28) := ⟨_, rfl⟩
  have HO : Hid (Only (w.heap.size ≤ ·) w W0) := Lib.hid (by rw [hW0]; exact (Only.refl _ w).alloc (fun _ h => h) _)
  have HI : Hid (Blk W0 w.heap.size 28 [.bool false, .slice none 0 0, .slice none 0 0]) := Lib.hid (by rw [hW0]; exact Blk.new w 28 _)
  have HHO := Lib.hid hN
  have HBD := Lib.hid hB
  have HRD := Lib.hid hR
  have HEN := Lib.hid hE
  have HVS := Lib.hid hV
  clear hN hB hR hE hV hg
  go_enter Tryz.func6, Tryz.ntmps6
  go_upto_region 1 with (fail)
  rw [← hW0]
  clear hW0
  go_upto_region 2 with (go_at_call 17; (with_reducible refine (HHO.out _ HO.out).mono ?_); rintro e w1 ⟨rfl, ho⟩; (replace HI := Lib.hid (HI.out.later ho)); (replace HO := Lib.hid (on_new HO.out ho)); clear ho)
  obtain ⟨hb, hhb⟩ : ∃ x, x = w1.heap.size := ⟨_, rfl⟩
  obtain ⟨w4, hw4⟩ : ∃ x, x = w1.alloc (.cells #[.int .i64 k, .int .i64 g, .int .i64 (cnt : Nat), .int .i64 xx] 47) := ⟨_, rfl⟩
  have HHB : Hid (Blk w4 hb 47 [.int .i64 k, .int .i64 g, .int .i64 (cnt : Nat), .int .i64 xx]) := Lib.hid (by rw [hw4, hhb]; exact Blk.new w1 47 _)
  have HWL : Hid (w.heap.size < hb) := Lib.hid (by rw [hhb]; exact HI.out.lt)
  have HI4 : Hid (Blk w4 w.heap.size 28 [.bool false, .slice none 0 0, .slice none 0 0]) := Lib.hid (by rw [hw4]; exact HI.out.alloc _)
  have HO4 : Hid (Only (w.heap.size ≤ ·) w w4) := Lib.hid (by rw [hw4]; exact HO.out.alloc (fun _ h => h) _)
  rw [← hw4, ← hhb]
  clear hw4 hhb HI HO
  have KC : Hid (∀ W, Only (w4.heap.size ≤ ·) w4 W → W.cell? ⟨hb, 0, none⟩ = some (.int .i64 k) ∧ W.cell? ⟨hb, 1, none⟩ = some (.int .i64 g) ∧ W.cell? ⟨hb, 2, none⟩ = some (.int .i64 (cnt : Nat)) ∧ W.cell? ⟨hb, 3, none⟩ = some (.int .i64 xx)) := Lib.hid fun W hW => (HHB.out.later hW).four
  go_upto_region 4 with (fail)
  have HLC : Hid (Only (w4.heap.size ≤ ·) w4 w4.drew) := Lib.hid (Only.refl _ w4).drew
  go_cut [6, 7] from 18 to 24 (fun e6 y wz => e6 = .int .i64 z ∧ ∃ (nb : Nat) (A : Option Addr) (n c : Nat) (B : Option Addr) (m d : Nat), y = .pointer (some ⟨nb, 0, none⟩) ∧ Hid (Blk wz nb 28 [.bool x.leaf, .slice A n c, .slice B m d]) ∧ Hid (Nod wz x x.leaf (.slice A n c) (.slice B m d)) ∧ Hid (Only (w4.heap.size ≤ ·) w4 wz) ∧ Hid (w4.heap.size ≤ nb ∧ nb < wz.heap.size))
  case first =>
    refine wp_region_list (B := [false, false, false, false, false, false, false, false, false, false]) (S := (fun W => W.cell? ⟨hb, 0, none⟩ = some (.int .i64 k) ∧ W.cell? ⟨hb, 1, none⟩ = some (.int .i64 g) ∧ W.cell? ⟨hb, 2, none⟩ = some (.int .i64 (cnt : Nat)) ∧ W.cell? ⟨hb, 3, none⟩ = some (.int .i64 xx))) (by kernel_rfl) (by kernel_rfl) (by kernel_rfl) (KC.out _ HLC.out) (fun hsel hHeld => ?_)
    obtain ⟨wx, hwx⟩ : ∃ wx, wx = w4.drew := ⟨_, rfl⟩
    rw [← hwx] at HLC hHeld
    rw [← hwx]
    clear hwx
    refine oneA 0 19 hsel (h := ?_)
    simp only [Act.put, List.setIfInBounds_toArray, List.set_cons_zero, List.set_cons_succ]
    refine oneA 1 20 hsel (h := ?_)
    simp only [Act.put, List.setIfInBounds_toArray, List.set_cons_zero, List.set_cons_succ]
    refine wpAnyL_ready (rs := [2, 7]) (by kernel_rfl) (by kernel_rfl) (by simp) ?_
    refine AllReadyL.cons (o := ?_) ?_ (fun K hK => ?_) (AllReadyL.cons (o := ?_) ?_ (fun K hK => ?_) AllReadyL.nil)
    case refine_2 => (simp only [List.getElem?_cons_succ, List.getElem?_cons_zero]; rfl)
    case refine_5 => (simp only [List.getElem?_cons_succ, List.getElem?_cons_zero]; rfl)
    case refine_3 =>
      go_simp
      (go_at_call 16; (with_reducible refine (HBD.out _ (on_new HO4.out HLC.out)).mono ?_); rintro ee w5 ⟨bv, rfl, hsv, ho⟩; have HSV := Lib.hid hsv; (replace HLC := Lib.hid (on_new HLC.out ho)); clear hsv ho)
      go_wp2_with (fail)
      clear hHeld
      refine hK.out _ _ (KC.out _ HLC.out) (fun hHeld => ?_)
      clear hK K
      try simp only [List.set_cons_zero, List.set_cons_succ]
      refine wpAnyL_ready (rs := [3, 7]) (by kernel_rfl) (by kernel_rfl) (by simp) ?_
      refine AllReadyL.cons (o := ?_) ?_ (fun K hK => ?_) (AllReadyL.cons (o := ?_) ?_ (fun K hK => ?_) AllReadyL.nil)
      case refine_2 => (simp only [List.getElem?_cons_succ, List.getElem?_cons_zero]; rfl)
      case refine_5 => (simp only [List.getElem?_cons_succ, List.getElem?_cons_zero]; rfl)
      case refine_3 =>
        go_simp
        (go_at_call 18; (with_reducible refine (HRD.out _ _ (on_new HO4.out HLC.out) HSV.out).mono ?_); rintro ee w6 ⟨A2, n2, c2, B2, m2, d2, rfl, hnd, ho⟩; have HND := Lib.hid hnd; (replace HLC := Lib.hid (on_new HLC.out ho)); clear hnd ho)
        go_wp2_with (fail)
        clear hHeld
        refine hK.out _ _ (KC.out _ HLC.out) (fun hHeld => ?_)
        clear hK K
        try simp only [List.set_cons_zero, List.set_cons_succ]
        refine oneA 4 18 hsel (h := ?_)
        simp only [Act.put, List.setIfInBounds_toArray, List.set_cons_zero, List.set_cons_succ]
        refine oneA 5 23 hsel (h := ?_)
        simp only [Act.put, List.setIfInBounds_toArray, List.set_cons_zero, List.set_cons_succ]
        refine oneA 6 24 hsel (h := ?_)
        simp only [Act.put, List.setIfInBounds_toArray, List.set_cons_zero, List.set_cons_succ]
        refine wpAnyL_ready (rs := [7]) (by kernel_rfl) (by kernel_rfl) (by simp) ?_
        refine AllReadyL.cons (o := ?_) ?_ (fun K hK => ?_) AllReadyL.nil
        case refine_2 => (simp only [List.getElem?_cons_succ, List.getElem?_cons_zero]; rfl)
        go_simp
        have HBA : Hid (Blk (w6.alloc (.cells #[.bool false, .slice none 0 0, .slice none 0 0] 28)) w6.heap.size 28 [.bool false, .slice none 0 0, .slice none 0 0]) := Lib.hid (Blk.new w6 28 _)
        have HAL : Hid (Only (w6.heap.size ≤ ·) w6 (w6.alloc (.cells #[.bool false, .slice none 0 0, .slice none 0 0] 28))) := Lib.hid ((Only.refl _ _).alloc (fun _ h => h) _)
        have HLP := Lib.hid HLC.out
        have HSZ : Hid (w4.heap.size ≤ w6.heap.size) := Lib.hid HLC.out.size
        replace HLC : Hid (Only (w4.heap.size ≤ ·) w4 (w6.alloc (.cells #[.bool false, .slice none 0 0, .slice none 0 0] 28))) := Lib.hid (HLC.out.alloc (fun _ h => h) _)
        obtain ⟨a0, a1, a2⟩ := HBA.out.tri
        obtain ⟨e0, e1, e2⟩ := HBA.out.melt3
        clear hHeld
        refine hK.out _ _ (KC.out _ HLC.out) (fun hHeld => ?_)
        clear hK K
        try simp only [List.set_cons_zero, List.set_cons_succ]
        refine wpAnyL_ready (rs := [8]) (by kernel_rfl) (by kernel_rfl) (by simp) ?_
        refine AllReadyL.cons (o := ?_) ?_ (fun K hK => ?_) AllReadyL.nil
        case refine_2 => (simp only [List.getElem?_cons_succ, List.getElem?_cons_zero]; rfl)
        have HLF : Hid (Only (w4.heap.size ≤ ·) w4 (w6.alloc (.cells #[.bool x.leaf, .slice A2 n2 c2, .slice B2 m2 d2] 28))) := Lib.hid (HLP.out.alloc (fun _ h => h) _)
        go_simp
        clear hHeld
        refine hK.out _ _ (KC.out _ HLF.out) (fun hHeld => ?_)
        clear hK K
        try simp only [List.set_cons_zero, List.set_cons_succ]
        refine oneA 9 6 hsel (h := ?_)
        simp only [Act.put, List.setIfInBounds_toArray, List.set_cons_zero, List.set_cons_succ]
        refine wpAnyL_done (by kernel_rfl) (by kernel_rfl) ?_ _
        clear hsel hHeld
        go_wp2_with (fail)
        go_meet
        exact ⟨rfl, _, A2, n2, c2, B2, m2, d2, rfl, Lib.hid (Blk.new w6 28 _), Lib.hid (HND.out.later ((Only.refl _ _).alloc (fun _ h => h) _)), HLF, Lib.hid ⟨HSZ.out, by simp⟩⟩
      case refine_6 =>
        go_simp
        have HBA : Hid (Blk (w5.alloc (.cells #[.bool false, .slice none 0 0, .slice none 0 0] 28)) w5.heap.size 28 [.bool false, .slice none 0 0, .slice none 0 0]) := Lib.hid (Blk.new w5 28 _)
        have HAL : Hid (Only (w5.heap.size ≤ ·) w5 (w5.alloc (.cells #[.bool false, .slice none 0 0, .slice none 0 0] 28))) := Lib.hid ((Only.refl _ _).alloc (fun _ h => h) _)
        have HLP := Lib.hid HLC.out
        have HSZ : Hid (w4.heap.size ≤ w5.heap.size) := Lib.hid HLC.out.size
        replace HLC : Hid (Only (w4.heap.size ≤ ·) w4 (w5.alloc (.cells #[.bool false, .slice none 0 0, .slice none 0 0] 28))) := Lib.hid (HLC.out.alloc (fun _ h => h) _)
        clear hHeld
        refine hK.out _ _ (KC.out _ HLC.out) (fun hHeld => ?_)
        clear hK K
        try simp only [List.set_cons_zero, List.set_cons_succ]
        refine wpAnyL_ready (rs := [3]) (by kernel_rfl) (by kernel_rfl) (by simp) ?_
        refine AllReadyL.cons (o := ?_) ?_ (fun K hK => ?_) AllReadyL.nil
        case refine_2 => (simp only [List.getElem?_cons_succ, List.getElem?_cons_zero]; rfl)
        go_simp
        (go_at_call 18; (with_reducible refine (HRD.out _ _ (on_new HO4.out HLC.out) (HSV.out.later HAL.out)).mono ?_); rintro ee w6 ⟨A2, n2, c2, B2, m2, d2, rfl, hnd, ho⟩; have HND := Lib.hid hnd; (replace HBA := Lib.hid (HBA.out.later ho)); (obtain ⟨a0, a1, a2⟩ := HBA.out.tri); (obtain ⟨e0, e1, e2⟩ := HBA.out.melt3); (replace HLC := Lib.hid (on_new HLC.out ho)); clear hnd ho)
        go_wp2_with (fail)
        clear hHeld
        refine hK.out _ _ (KC.out _ HLC.out) (fun hHeld => ?_)
        clear hK K
        try simp only [List.set_cons_zero, List.set_cons_succ]
        refine oneA 4 18 hsel (h := ?_)
        simp only [Act.put, List.setIfInBounds_toArray, List.set_cons_zero, List.set_cons_succ]
        refine oneA 5 23 hsel (h := ?_)
        simp only [Act.put, List.setIfInBounds_toArray, List.set_cons_zero, List.set_cons_succ]
        refine oneA 6 24 hsel (h := ?_)
        simp only [Act.put, List.setIfInBounds_toArray, List.set_cons_zero, List.set_cons_succ]
        refine wpAnyL_ready (rs := [8]) (by kernel_rfl) (by kernel_rfl) (by simp) ?_
        refine AllReadyL.cons (o := ?_) ?_ (fun K hK => ?_) AllReadyL.nil
        case refine_2 => (simp only [List.getElem?_cons_succ, List.getElem?_cons_zero]; rfl)
        have HLF : Hid (Only (w4.heap.size ≤ ·) w4 (((w6.setCell ⟨w5.heap.size, 0, none⟩ (.bool x.leaf)).setCell ⟨w5.heap.size, 1, none⟩ (.slice A2 n2 c2)).setCell ⟨w5.heap.size, 2, none⟩ (.slice B2 m2 d2))) := Lib.hid (nd_only HLC.out HSZ.out)
        go_simp
        clear hHeld
        refine hK.out _ _ (KC.out _ HLF.out) (fun hHeld => ?_)
        clear hK K
        try simp only [List.set_cons_zero, List.set_cons_succ]
        refine oneA 9 6 hsel (h := ?_)
        simp only [Act.put, List.setIfInBounds_toArray, List.set_cons_zero, List.set_cons_succ]
        refine wpAnyL_done (by kernel_rfl) (by kernel_rfl) ?_ _
        clear hsel hHeld
        go_wp2_with (fail)
        go_meet
        exact ⟨rfl, _, A2, n2, c2, B2, m2, d2, rfl, Lib.hid (nd_set HBA.out), Lib.hid ((nod_free HBA.out HND.out).nod _ ((nd_only (Only.refl (· = w5.heap.size) _) rfl).mono fun _ h => .inl h)), HLF, Lib.hid ⟨HSZ.out, by have := HBA.out.lt; simpa using this⟩⟩
    case refine_6 =>
      go_simp
      have HBA : Hid (Blk (wx.alloc (.cells #[.bool false, .slice none 0 0, .slice none 0 0] 28)) wx.heap.size 28 [.bool false, .slice none 0 0, .slice none 0 0]) := Lib.hid (Blk.new wx 28 _)
      have HAL : Hid (Only (wx.heap.size ≤ ·) wx (wx.alloc (.cells #[.bool false, .slice none 0 0, .slice none 0 0] 28))) := Lib.hid ((Only.refl _ _).alloc (fun _ h => h) _)
      have HLP := Lib.hid HLC.out
      have HSZ : Hid (w4.heap.size ≤ wx.heap.size) := Lib.hid HLC.out.size
      replace HLC : Hid (Only (w4.heap.size ≤ ·) w4 (wx.alloc (.cells #[.bool false, .slice none 0 0, .slice none 0 0] 28))) := Lib.hid (HLC.out.alloc (fun _ h => h) _)
      clear hHeld
      refine hK.out _ _ (KC.out _ HLC.out) (fun hHeld => ?_)
      clear hK K
      try simp only [List.set_cons_zero, List.set_cons_succ]
      refine wpAnyL_ready (rs := [2]) (by kernel_rfl) (by kernel_rfl) (by simp) ?_
      refine AllReadyL.cons (o := ?_) ?_ (fun K hK => ?_) AllReadyL.nil
      case refine_2 => (simp only [List.getElem?_cons_succ, List.getElem?_cons_zero]; rfl)
      go_simp
      (go_at_call 16; (with_reducible refine (HBD.out _ (on_new HO4.out HLC.out)).mono ?_); rintro ee w5 ⟨bv, rfl, hsv, ho⟩; have HSV := Lib.hid hsv; (replace HBA := Lib.hid (HBA.out.later ho)); (replace HLC := Lib.hid (on_new HLC.out ho)); clear hsv ho)
      go_wp2_with (fail)
      clear hHeld
      refine hK.out _ _ (KC.out _ HLC.out) (fun hHeld => ?_)
      clear hK K
      try simp only [List.set_cons_zero, List.set_cons_succ]
      refine wpAnyL_ready (rs := [3]) (by kernel_rfl) (by kernel_rfl) (by simp) ?_
      refine AllReadyL.cons (o := ?_) ?_ (fun K hK => ?_) AllReadyL.nil
      case refine_2 => (simp only [List.getElem?_cons_succ, List.getElem?_cons_zero]; rfl)
      go_simp
      (go_at_call 18; (with_reducible refine (HRD.out _ _ (on_new HO4.out HLC.out) HSV.out).mono ?_); rintro ee w6 ⟨A2, n2, c2, B2, m2, d2, rfl, hnd, ho⟩; have HND := Lib.hid hnd; (replace HBA := Lib.hid (HBA.out.later ho)); (obtain ⟨a0, a1, a2⟩ := HBA.out.tri); (obtain ⟨e0, e1, e2⟩ := HBA.out.melt3); (replace HLC := Lib.hid (on_new HLC.out ho)); clear hnd ho)
      go_wp2_with (fail)
      clear hHeld
      refine hK.out _ _ (KC.out _ HLC.out) (fun hHeld => ?_)
      clear hK K
      try simp only [List.set_cons_zero, List.set_cons_succ]
      refine oneA 4 18 hsel (h := ?_)
      simp only [Act.put, List.setIfInBounds_toArray, List.set_cons_zero, List.set_cons_succ]
      refine oneA 5 23 hsel (h := ?_)
      simp only [Act.put, List.setIfInBounds_toArray, List.set_cons_zero, List.set_cons_succ]
      refine oneA 6 24 hsel (h := ?_)
      simp only [Act.put, List.setIfInBounds_toArray, List.set_cons_zero, List.set_cons_succ]
      refine wpAnyL_ready (rs := [8]) (by kernel_rfl) (by kernel_rfl) (by simp) ?_
      refine AllReadyL.cons (o := ?_) ?_ (fun K hK => ?_) AllReadyL.nil
      case refine_2 => (simp only [List.getElem?_cons_succ, List.getElem?_cons_zero]; rfl)
      have HLF : Hid (Only (w4.heap.size ≤ ·) w4 (((w6.setCell ⟨wx.heap.size, 0, none⟩ (.bool x.leaf)).setCell ⟨wx.heap.size, 1, none⟩ (.slice A2 n2 c2)).setCell ⟨wx.heap.size, 2, none⟩ (.slice B2 m2 d2))) := Lib.hid (nd_only HLC.out HSZ.out)
      go_simp
      clear hHeld
      refine hK.out _ _ (KC.out _ HLF.out) (fun hHeld => ?_)
      clear hK K
      try simp only [List.set_cons_zero, List.set_cons_succ]
      refine oneA 9 6 hsel (h := ?_)
      simp only [Act.put, List.setIfInBounds_toArray, List.set_cons_zero, List.set_cons_succ]
      refine wpAnyL_done (by kernel_rfl) (by kernel_rfl) ?_ _
      clear hsel hHeld
      go_wp2_with (fail)
      go_meet
      exact ⟨rfl, _, A2, n2, c2, B2, m2, d2, rfl, Lib.hid (nd_set HBA.out), Lib.hid ((nod_free HBA.out HND.out).nod _ ((nd_only (Only.refl (· = wx.heap.size) _) rfl).mono fun _ h => .inl h)), HLF, Lib.hid ⟨HSZ.out, by have := HBA.out.lt; simpa using this⟩⟩
  case rest =>
    obtain ⟨rfl, nb, A, n, c, B, m, d, rfl, HNB, HND, HLW, HNN⟩ := hcut
    have HI := Lib.hid (HI4.out.later HLW.out)
    have HO := Lib.hid (on_new HO4.out HLW.out)
    have HHW := Lib.hid (HHB.out.later HLW.out)
    by_cases hz : z = 0
    · have HEZ := Lib.hid (HEN.out hz)
      subst hz
      obtain ⟨h0, h1, h2, h3⟩ := HHW.out.four
      obtain ⟨n0, n1, n2⟩ := HNB.out.tri
      go_upto_region 8 with (go_at_call 10; (with_reducible refine (HEZ.out _ _ _ _ _ _ _ HO.out HND.out).mono ?_); rintro ee w7 ⟨eb, heb, v7, rfl, hv7, ho⟩; have HEB := Lib.hid heb; have HV7 := Lib.hid hv7; (replace HI := Lib.hid (HI.out.later ho)); (replace HNB := Lib.hid (HNB.out.later ho)); (replace HND := Lib.hid (HND.out.later ho)); (replace HHW := Lib.hid (HHW.out.later ho)); (replace HO := Lib.hid (on_new HO.out ho)); clear ho heb hv7 h0 h1 h2 h3 n0 n1 n2; cases eb)
      · have HEB' : Hid (¬ R) := Lib.hid fun h => absurd (HEB.out.2 h) (by simp)
        clear HEB HV7
        (obtain ⟨i0, i1, i2⟩ := HI.out.tri); (obtain ⟨f0, f1, f2⟩ := HI.out.melt3)
        go_wp2
        exact bodyPost_ret (results_tct rfl rfl (load_node (nd_set HI.out) rfl rfl)) rfl ⟨false, ⟨fun h => (by simp at h), fun h => absurd h.2.1 HEB'.out⟩, false, none, 0, 0, none, 0, 0, rfl, zero_nod _, nd_only HO.out (Nat.le_refl _)⟩
      · have HEB' : Hid R := Lib.hid (HEB.out.1 (by simp))
        have HV8 : Hid (Src w7 v7 PB) := Lib.hid (by have := HV7.out; simpa using this)
        clear HEB HV7
        obtain ⟨q, hq⟩ : ∃ q, decide (PB = b) = q := ⟨_, rfl⟩
        have HEQ : Hid (Calls Tryz.prog 11 #[v7, v] w7 fun e w' => e = .returned (.bool q) ∧ w7 = w') := Lib.hid (Equal_b w7 v7 v PB b q HV8.out (HVS.out _ HO.out) hq)
        have HQ := Lib.hid hq
        clear hq
        cases q
        · (obtain ⟨i0, i1, i2⟩ := HI.out.tri); (obtain ⟨f0, f1, f2⟩ := HI.out.melt3)
          go_wp2_with (go_at_call 11; (with_reducible refine HEQ.out.mono ?_); rintro ee w' ⟨rfl, rfl⟩)
          exact bodyPost_ret (results_tct rfl rfl (load_node (nd_set HI.out) rfl rfl)) rfl ⟨false, ⟨fun h => (by simp at h), fun h => absurd h.2.2 (of_decide_eq_false HQ.out)⟩, false, none, 0, 0, none, 0, 0, rfl, zero_nod _, nd_only HO.out (Nat.le_refl _)⟩
        · go_upto_region 10 with (go_at_call 11; (with_reducible refine HEQ.out.mono ?_); rintro ee w' ⟨rfl, rfl⟩)
          have KN0 : Hid (∀ W, Only (fun j => j = w.heap.size) w7 W → (W.cell? ⟨hb, 0, none⟩ = some (.int .i64 k) ∧ W.cell? ⟨hb, 1, none⟩ = some (.int .i64 g) ∧ W.cell? ⟨hb, 2, none⟩ = some (.int .i64 (cnt : Nat)) ∧ W.cell? ⟨hb, 3, none⟩ = some (.int .i64 xx)) ∧ W.cell? ⟨nb, 0, none⟩ = some (.bool x.leaf) ∧ W.cell? ⟨nb, 1, none⟩ = some (.slice A n c) ∧ W.cell? ⟨nb, 2, none⟩ = some (.slice B m d)) := Lib.hid fun W hW => ⟨(HHW.out.only hW (by have := HWL.out; omega)).four, (HNB.out.only hW (by have := HNN.out; have := HWL.out; have := HHB.out.lt; omega)).tri⟩
          refine wp_region_list (B := [false, false, false, false, false, false]) (S := (fun W => (W.cell? ⟨hb, 0, none⟩ = some (.int .i64 k) ∧ W.cell? ⟨hb, 1, none⟩ = some (.int .i64 g) ∧ W.cell? ⟨hb, 2, none⟩ = some (.int .i64 (cnt : Nat)) ∧ W.cell? ⟨hb, 3, none⟩ = some (.int .i64 xx)) ∧ W.cell? ⟨nb, 0, none⟩ = some (.bool x.leaf) ∧ W.cell? ⟨nb, 1, none⟩ = some (.slice A n c) ∧ W.cell? ⟨nb, 2, none⟩ = some (.slice B m d))) (by kernel_rfl) (by kernel_rfl) (by kernel_rfl) (KN0.out _ (Only.refl _ _).drew) (fun hsel hHeld => ?_)
          obtain ⟨wy, hwy⟩ : ∃ wy, wy = w7.drew := ⟨_, rfl⟩
          have KN : Hid (∀ W, Only (fun j => j = w.heap.size) wy W → (W.cell? ⟨hb, 0, none⟩ = some (.int .i64 k) ∧ W.cell? ⟨hb, 1, none⟩ = some (.int .i64 g) ∧ W.cell? ⟨hb, 2, none⟩ = some (.int .i64 (cnt : Nat)) ∧ W.cell? ⟨hb, 3, none⟩ = some (.int .i64 xx)) ∧ W.cell? ⟨nb, 0, none⟩ = some (.bool x.leaf) ∧ W.cell? ⟨nb, 1, none⟩ = some (.slice A n c) ∧ W.cell? ⟨nb, 2, none⟩ = some (.slice B m d)) := Lib.hid fun W hW => KN0.out W (((Only.refl _ _).drew : Only (fun j => j = w.heap.size) w7 w7.drew).trans (by rw [← hwy]; exact hW))
          have HSY : Hid (Blk wy w.heap.size 28 [.bool false, .slice none 0 0, .slice none 0 0]) := Lib.hid (by rw [hwy]; exact HI.out.drew)
          have HOS : Hid (Only (fun j => j = w.heap.size) wy (((wy.setCell ⟨w.heap.size, 0, none⟩ (.bool x.leaf)).setCell ⟨w.heap.size, 1, none⟩ (.slice A n c)).setCell ⟨w.heap.size, 2, none⟩ (.slice B m d))) := Lib.hid (nd_only (Only.refl _ _) rfl)
          have HOW : Hid (Only (fun j => j = w.heap.size) w7 (((wy.setCell ⟨w.heap.size, 0, none⟩ (.bool x.leaf)).setCell ⟨w.heap.size, 1, none⟩ (.slice A n c)).setCell ⟨w.heap.size, 2, none⟩ (.slice B m d))) := Lib.hid (((Only.refl _ _).drew : Only (fun j => j = w.heap.size) w7 w7.drew).trans (by rw [← hwy]; exact HOS.out))
          rw [← hwy] at hHeld
          rw [← hwy]
          clear hwy
          obtain ⟨s0, s1, s2⟩ := HSY.out.tri
          obtain ⟨z0, z1, z2⟩ := HSY.out.melt3
          refine oneA 0 44 hsel (h := ?_)
          simp only [Act.put, List.setIfInBounds_toArray, List.set_cons_zero, List.set_cons_succ]
          refine oneA 1 45 hsel (h := ?_)
          simp only [Act.put, List.setIfInBounds_toArray, List.set_cons_zero, List.set_cons_succ]
          refine oneA 2 46 hsel (h := ?_)
          simp only [Act.put, List.setIfInBounds_toArray, List.set_cons_zero, List.set_cons_succ]
          refine oneA 3 2 hsel (h := ?_)
          simp only [Act.put, List.setIfInBounds_toArray, List.set_cons_zero, List.set_cons_succ]
          refine wpAnyL_ready (rs := [4]) (by kernel_rfl) (by kernel_rfl) (by simp) ?_
          refine AllReadyL.cons (o := ?_) ?_ (fun K hK => ?_) AllReadyL.nil
          case refine_2 => (simp only [List.getElem?_cons_succ, List.getElem?_cons_zero]; rfl)
          go_simp
          clear hHeld
          refine hK.out _ _ (KN.out _ HOS.out) (fun hHeld => ?_)
          clear hK K
          try simp only [List.set_cons_zero, List.set_cons_succ]
          refine oneA 5 4 hsel (h := ?_)
          simp only [Act.put, List.setIfInBounds_toArray, List.set_cons_zero, List.set_cons_succ]
          refine wpAnyL_done (by kernel_rfl) (by kernel_rfl) ?_ _
          clear hsel hHeld
          go_wp2
          exact bodyPost_ret (results_tct rfl rfl (load_node (nd_set HSY.out) rfl rfl)) rfl ⟨true, ⟨fun _ => ⟨(by simp), HEB'.out, of_decide_eq_true HQ.out⟩, fun _ => rfl⟩, x.leaf, A, n, c, B, m, d, rfl, (nod_free HI.out HND.out).nod _ (HOW.out.mono fun _ h => .inl h), HO.out.trans (HOW.out.mono fun j hj => by rw [hj]; exact Nat.le_refl _)⟩
    · have hzb : (z == 0) = false := by rw [beq_eq_false_iff_ne]; exact hz
      have HZ := Lib.hid hz
      clear hz HEN
      (obtain ⟨i0, i1, i2⟩ := HI.out.tri); (obtain ⟨f0, f1, f2⟩ := HI.out.melt3)
      go_wp2
      exact bodyPost_ret (results_tct rfl rfl (load_node (nd_set HI.out) rfl rfl)) rfl ⟨false, ⟨fun h => (by simp at h), fun h => absurd h.1 HZ.out⟩, false, none, 0, 0, none, 0, 0, rfl, zero_nod _, nd_only HO.out (Nat.le_refl _)⟩

theorem hdN_le (b : Bytes) : hdN b ≤ 65535 := by
  unfold hdN hdCnt Cur.val
  split
  · rename_i h
    have h1 := num_lt (Cur.got ((Cur.new (b.take (min b.length (tr ((hdG b : Nat) : Int) 8 16 16).toNat))).take 2) 2)
    have hh : Cur.has ((Cur.new (b.take (min b.length (tr ((hdG b : Nat) : Int) 8 16 16).toNat))).take 2) 2 = true := by
      unfold Cur.may at h
      simp only [Bool.and_eq_true] at h
      exact h.2.1
    rw [Cur.got_length hh] at h1
    have : 256 ^ (2 : Int).toNat = 65536 := by decide
    omega
  · omega
theorem body_len (b : Bytes) : (bodyOf b).length ≤ 256 := by
  unfold bodyOf
  split
  · rename_i h
    rw [List.length_drop]
    omega
  · exact Nat.zero_le _
theorem Decode_c (w : World) (v : Value) (b : Bytes) (hG : Gens w) (hs : Src w v b) (hn : b.length ≤ 65536) : Calls Tryz.prog 6 #[v] w (GaveD w b) := by
  have hH : ∀ W, Only (w.heap.size ≤ ·) w W → Calls Tryz.prog 17 #[v] W (Told W (nhV b)) := fun W hW => nodeHead_c W v b (hG.later hW) (hs.later hW) hn
  unfold nhV at hH
  by_cases he : nhE b = 0
  · rw [if_pos he] at hH
    unfold hdOk at hH
    have hg : gen (hdG b : Int) = true := by
      unfold nhE at he
      split at he
      · cases he
      · split at he
        · rename_i h1 h2
          exact absurd he h2
        · rename_i h1 h2
          exact (hdV_ok (Classical.byContradiction h2)).2.1
    have hl : hdK b ≠ 76 → (hdK b : Int) ≠ 76 := by omega
    have hR : ∀ W u, Only (w.heap.size ≤ ·) w W → Src W u (bodyOf b) → Calls Tryz.prog 18 #[.agg #[.int .i64 (hdK b : Nat), .int .i64 (hdG b : Nat), .int .i64 (hdN b : Nat), .int .i64 (hdX b : Nat)], u] W (GaveR W (dcN b) (dcC b).err) := fun W u hW hu => by
      unfold dcN dcC
      have hbl := body_len b
      by_cases hk : hdK b = 76
      · have hlf : isLf b = true := by unfold isLf; rw [decide_eq_true hk]
        rw [hlf, hk]
        exact read_L W u (bodyOf b) (hdG b) (hdX b) (hdN b) (hdN_le b) (hG.later hW) hu (by omega)
      · have hlf : isLf b = false := by unfold isLf; rw [decide_eq_false hk]
        rw [hlf]
        exact read_K W u (bodyOf b) (hdK b) (hl hk) (hdG b) (hdX b) (hdN b) (hdN_le b) (hG.later hW) hu (by omega)
    have hgi : I64 (hdG b : Int) := by unfold I64; have := (gen_iff _).1 hg; omega
    refine (dec_go w v _ _ _ (hdN b) (dcN b) (dcC b).err (pageB (hdG b) (dcN b)) (bodyOf b) b (RightN (hdG b) (dcN b) ∧ anyU (dcN b).its = false) hgi hH (fun W hW => Body_c W v b (hG.later hW) (hs.later hW) hn) hR (fun hz W A n c B m d hW hN => ?_) (fun W hW => hs.later hW)).mono ?_
    · have hsp : (dcC b).sp = false := by
        unfold Cur.err at hz
        cases h : (dcC b).sp
        · rfl
        · rw [h] at hz
          cases hz
      obtain ⟨f1, f2, _⟩ := rd_few (body_len b) hsp
      exact Encode_c W (hdG b) A B n c m d (dcN b).leaf (dcN b) hN (hG.later hW) (by rw [hN.2.1.len]; exact f1) (by rw [hN.2.2.len]; exact f2)
    · rintro e w' ⟨ok, hok, f, A, n, c, B, m, d, rfl, h1, h2⟩
      refine ⟨ok, hok.trans ?_, f, A, n, c, B, m, d, by rw [if_pos he], h1, h2⟩
      unfold DecOk
      rw [show ((dcC b).err = 0 ↔ (dcC b).sp = false) from by unfold Cur.err; cases (dcC b).sp <;> simp]
      exact ⟨fun h => ⟨he, h⟩, fun h => h.2⟩
  · rw [if_neg he] at hH
    exact dec_bad w v b _ he rfl hH
end Go.Proofs.YtoghojgajpfkkaaGreatDoor
