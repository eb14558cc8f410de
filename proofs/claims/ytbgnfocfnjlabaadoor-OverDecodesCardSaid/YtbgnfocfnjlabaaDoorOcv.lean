/-
  chain.value: the pages of a chain, one by one.
-/
import Derived.Test.YtbgnfocfnjlabaaDoorOtr
import Derived.Test.YtbgnfocfnjlabaaDoorObe
import Derived.Test.YtbgnfocfnjlabaaDoorOen
import Derived.Test.YtbgnfocfnjlabaaDoorGb
set_option linter.unusedVariables false
namespace Go.Proofs.YtbgnfocfnjlabaaDoor
open Go.RowKit

theorem askP_len (ans : Int → Int → Int × Bytes) (id : Int) : (askP ans id 1).2.length ≤ 256 := by
  unfold askP
  split
  · simp
  · split
    · simp
    · rename_i h
      simp only
      omega
theorem behP_len (ans : Int → Int → Int × Bytes) (b : Bytes) : (behP ans b).2.1.length ≤ 256 := by
  unfold behP
  split
  · exact askP_len _ _
  · simp
theorem bodyOf_len (b : Bytes) : (bodyOf b).length ≤ b.length := by
  unfold bodyOf
  split
  · rw [List.length_drop]; omega
  · simp
/-- k pages more behind one. -/
def folP (ans : Int → Int → Int × Bytes) : Nat → Bytes → Option (List (Int × Bytes))
  | 0, _ => some []
  | k + 1, b => if (behP ans b).2.2 = true then (folP ans k (behP ans b).2.1).map (((behP ans b).1, (behP ans b).2.1) :: ·) else none
/-- What is asked for on the way. -/
def folS (ans : Int → Int → Int × Bytes) : Nat → Bytes → List (Int × Int)
  | 0, _ => []
  | k + 1, b => behS b ++ (if (behP ans b).2.2 = true then folS ans k (behP ans b).2.1 else [])
def bodies (ps : List Bytes) : Bytes := ps.flatMap bodyOf
/-- What chain.value tells of a first page, K more, and what they are. -/
def chR (g : Int) (m N : Nat) (id : Int) (first : Bytes) : Option (List (Int × Bytes)) → Bytes × List Int × Bool
  | none => ([], [], false)
  | some l => if (bodies (first :: l.map (·.2))).length < N then ([], [], false) else
    ((bodies (first :: l.map (·.2))).take N, id :: l.map (·.1), encOk g N (id :: l.map (·.1)) && decide (linksB g ((bodies (first :: l.map (·.2))).take N) m (id :: l.map (·.1)) (List.range (l.length + 1)) = first :: l.map (·.2)))
theorem gens_keep {w W : World} {F : Nat → Prop} (h : Gens w) (ho : Only (fun k => F k ∨ w.heap.size ≤ k) w W) (h0 : ¬ F 1) : Gens W := ⟨Nat.lt_of_lt_of_le h.1 ho.size, fun i v hv => (ho.cell (p := ⟨1, i, none⟩) (fun h1 => h1.elim h0 fun h1 => by have := h.1; simp only at h1; omega)).trans (h.2 i v hv)⟩
def slLen : Value → Nat
  | .slice _ n _ => n
  | _ => 0
theorem Tri.rw_ {b0 b : Nat} {W : World} {P I V : Value} {ps : List Bytes} {is : List Int} {vs : Bytes} {C : List Value} (h : Tri b0 b W P I V ps is vs C) : Rw pgE W P ps := by
  obtain ⟨A, c, rfl, hr, h4, h5, h6, _⟩ := raw_of_own h.pg
  exact ⟨A, c, C, rfl, h.den.mono fun x cs ⟨A, c, e, hn, _⟩ => ⟨A, c, e, hn.src⟩, hr, h4, h5, h6⟩
theorem tri_start {b : Nat} {w W : World} {FA : Option Addr} {fc : Nat} {first : Bytes} {id : Int} {V : Value} (hf : New w b (.slice FA first.length fc) first) (hb : b ≤ w.heap.size) (hO : Only (w.heap.size ≤ ·) w W) (h1 : Blk W (w.heap.size + 1) 27 [.slice FA first.length fc]) (h2 : Blk W (w.heap.size + 1 + 1) 3 [.int .i64 id]) (h3 : W.ownsRow w.heap.size 5 1 V (bodyOf first).length (cb (bodyOf first))) :
    Tri b w.heap.size W (.slice (some ⟨w.heap.size + 1, 0, none⟩) 1 1) (.slice (some ⟨w.heap.size + 1 + 1, 0, none⟩) 1 1) V [first] [id] (bodies [first]) [.slice FA first.length fc] := by
  have hl : ∀ ad, FA = some ad → ad.block < w.heap.size := fun ad e => (hf.in_ ad e).2
  refine ⟨hb, ⟨rfl, .inr ⟨w.heap.size + 1, 1, _, rfl, by omega, h1, Nat.le_refl _, by simp only [maxLen]; omega, rfl, rfl⟩⟩, Den.single ⟨FA, fc, rfl, hf.later hO, fun ad e => ⟨fun h => ?_, fun h => ?_, fun h => ?_⟩⟩, ⟨rfl, .inr ⟨w.heap.size + 1 + 1, 1, _, rfl, by omega, h2, Nat.le_refl _, by simp only [maxLen]; omega, rfl, rfl⟩⟩, by rw [show bodies [first] = bodyOf first by simp [bodies]]; exact h3⟩
  · have := hl ad e; have h4 := Option.some.inj h; simp only at h4; omega
  · have := hl ad e; have h4 := Option.some.inj h; simp only at h4; omega
  · have := hl ad e; have := (World.ownsRow.lt h3 _ h.symm).1; omega

theorem src_cut {w : World} {A : Option Addr} {n c k : Nat} {xs : Bytes} (h : Src w (.slice A n c) xs) (hk : k ≤ xs.length) : Src w (.slice A k c) (xs.take k) := by
  obtain ⟨A', c', e, ht, h3, h4, h5⟩ := h
  simp only [Value.slice.injEq] at e
  obtain ⟨rfl, rfl, rfl⟩ := e
  have hl : (xs.take k).length = k := by rw [List.length_take]; omega
  refine ⟨A, c, by rw [hl], ?_, h3, by omega, h5⟩
  rw [hl]
  refine ⟨hl, fun hn => ?_⟩
  obtain ⟨ad, e, hc⟩ := ht.2 (by omega)
  refine ⟨ad, e, fun j u hu => hc j u ?_⟩
  rw [cb_take, List.getElem?_take] at hu
  split at hu
  · exact hu
  · cases hu
theorem tri_last {b0 b : Nat} {W : World} {P I V : Value} {ps : List Bytes} {is : List Int} {vs x : Bytes} {C : List Value} {UA : Option Addr} {n uc : Nat} (h : Tri b0 b W P I V (ps ++ [x]) is vs (C ++ [.slice UA n uc])) : Src W (.slice UA n uc) x := by
  have hz : ∀ x cs, triAt b0 P I V W x cs → cs.length = 1 := fun x cs ⟨A, c, e, _⟩ => by rw [e]; rfl
  have hl := Den.length hz h.den
  have h1 := Den.drop hz ps.length h.den
  have hc : C.length = ps.length := by simpa using hl
  rw [List.drop_left, Nat.mul_one, ← hc, List.drop_left] at h1
  obtain ⟨cs, D, e, ⟨A, c, rfl, hn, _⟩, hD⟩ := h1
  obtain rfl : D = [] := hD
  simp only [List.append_nil, List.cons.injEq, and_true] at e
  rw [e]
  exact hn.src
theorem tri_pg {b0 b q : Nat} {W : World} {P I V : Value} {ps : List Bytes} {is : List Int} {vs : Bytes} {C : List Value} (hq : ps.length = q) (h : Tri b0 b W P I V ps is vs C) (o : Obj) : (W.alloc o).ownsRow b 27 1 P q C := by rw [← hq]; exact h.pg.alloc o
theorem tri_id {b0 b q : Nat} {W : World} {P I V : Value} {ps : List Bytes} {is : List Int} {vs : Bytes} {C : List Value} (hq : is.length = q) (h : Tri b0 b W P I V ps is vs C) (o : Obj) : (W.alloc o).ownsRow b 3 1 I q (ci is) := by rw [← hq]; exact h.id.alloc o
section
variable {n₀ : Nat} {F : Nat → Prop} {J : List (Int × Int) → World → Prop} {f : Nat} {lb : Array Value} {ans : Int → Int → Int × Bytes}
set_option maxRecDepth 100000 in
set_option maxHeartbeats 12800000 in
theorem chainV_c (R : Rdg n₀ F J f lb ans) (s : List (Int × Int)) (w : World) (g id : Int) (m K N : Nat) (FA : Option Addr) (fn fc : Nat) (first : Bytes) (hJ : J s w) (hn : n₀ ≤ w.heap.size) (hG : Gens w) (hg : g = 1 ∨ g = 2) (hm : (m : Int) = tr g 248 240 240) (hf : New w n₀ (.slice FA fn fc) first) (hfn : fn = first.length) (hfl : first.length ≤ 256) (hid : I64 id) (hK : manyP g N = ((K + 1 : Nat) : Int)) :
    Calls Tryd.prog 53 #[.agg #[.func (.func f) #[] lb, .int .i64 g, .int .i64 N], .int .i64 id, .slice FA fn fc] w fun e w' => ∃ v i, e = .returned (.tuple #[v, i, .bool (chR g m N id first (folP ans K first)).2.2]) ∧ Src w' v (chR g m N id first (folP ans K first)).1 ∧ Ints w' i (chR g m N id first (folP ans K first)).2.1 ∧ J (s ++ folS ans K first) w' ∧ Only (fun k => F k ∨ w.heap.size ≤ k) w w' := by
  obtain ⟨W0, hW0⟩ : ∃ W, W = ((w.alloc (.cells #[.func (.func f) #[] lb, .int .i64 g, .int .i64 N] 93)).alloc (.cells #[.slice FA fn fc] 27)).alloc (.cells #[.int .i64 id] 3) := ⟨_, rfl⟩
  have hO0 : Only (w.heap.size ≤ ·) w W0 := by rw [hW0]; exact (((Only.refl _ w).alloc (fun _ h => h) _).alloc (fun _ h => h) _).alloc (fun _ h => h) _
  have hB0 : Blk W0 w.heap.size 93 [.func (.func f) #[] lb, .int .i64 g, .int .i64 N] := by rw [hW0]; exact ((Blk.new w 93 _).alloc _).alloc _
  have hB1 : Blk W0 (w.heap.size + 1) 27 [.slice FA fn fc] := by
    rw [hW0]
    have := (Blk.new (w.alloc (.cells #[.func (.func f) #[] lb, .int .i64 g, .int .i64 N] 93)) 27 [.slice FA fn fc]).alloc (.cells #[.int .i64 id] 3)
    simpa using this
  have hB2 : Blk W0 (w.heap.size + 1 + 1) 3 [.int .i64 id] := by
    rw [hW0]
    have := Blk.new ((w.alloc (.cells #[.func (.func f) #[] lb, .int .i64 g, .int .i64 N] 93)).alloc (.cells #[.slice FA fn fc] 27)) 3 [.int .i64 id]
    simpa using this
  have HBO : Hid (Calls Tryd.prog 80 #[.slice FA fn fc] W0 (GaveO8 W0 (bodyOf first))) := Lib.hid (Body_o W0 _ first (hG.later hO0) ((hf.src).later hO0) (by omega))
  have HR := Lib.hid R
  obtain ⟨iB, hiB, hiB0, hiB1, hiB2⟩ := info_parts info_B
  have HIB := Lib.hid (And.intro hiB (And.intro hiB0 (And.intro hiB1 hiB2)))
  obtain ⟨iN, hiN, hiN0, hiN1, hiN2⟩ := info_parts info_N
  have HIN := Lib.hid (And.intro hiN (And.intro hiN0 (And.intro hiN1 hiN2)))
  clear hiB hiB0 hiB1 hiB2 hiN hiN0 hiN1 hiN2
  have HO0 := Lib.hid hO0
  have HG := Lib.hid hG
  have HF := Lib.hid hf
  have HB0 := Lib.hid hB0
  have HB1 := Lib.hid hB1
  have HB2 := Lib.hid hB2
  have HM : Hid (∀ W, Gens W → Calls Tryd.prog 81 #[.agg #[.func (.func f) #[] lb, .int .i64 g, .int .i64 N]] W (Told W (.int .i64 ((K + 1 : Nat) : Int)))) := Lib.hid fun W hW => by have := Ormany_c W (.func (.func f) #[] lb) g N hW ⟨f, lb, rfl⟩; rwa [hK] at this
  have hKl : K ≤ 100000 := by have := manyP_le g N; omega
  have HJ := Lib.hid hJ
  have HFN := Lib.hid hfn
  clear R hO0 hG hf hB0 hB1 hB2 hK hJ hfn
  go_enter Tryd.func53, Tryd.ntmps53
  go_upto_region 3 with (go_at_call 80; go_loud (rw [← hW0]; refine HBO.out.mono ?_; rintro e w1 ⟨V0, rfl, hv0, ho1⟩; have HV0 := Lib.hid hv0; have HO1 := Lib.hid ho1; clear hv0 ho1))
  clear hW0
  have hO1 := on_new HO0.out HO1.out
  have HT0 := Lib.hid (tri_start (id := id) (by rw [HFN.out] at HF; exact HF.out) hn hO1 (by rw [HFN.out] at HB1; exact HB1.out.later HO1.out) (HB2.out.later HO1.out) (own_low HV0.out HO0.out.size))
  have HB3 := Lib.hid (HB0.out.later HO1.out)
  have HJ1 := Lib.hid (HR.out.keep s w w1 HJ.out hn (hO1.mono fun k h => Nat.le_trans hn h))
  have HO3 : Hid (Only (fun k => F k ∨ w.heap.size ≤ k) w w1) := Lib.hid (hO1.mono fun k h => .inr h)
  clear hO1 HB0 HB1 HB2 HBO HV0 HO1 HO0
  go_loopw [9, 10, 11] (fun p i v wr => ∃ (t : Nat) (l : List (Int × Bytes)) (S : List (Int × Int)) (last : Bytes) (C : List Value) (PA IA : Option Addr) (pc ic : Nat) (VV : Value), p = .slice PA (t + 1) pc ∧ i = .slice IA (t + 1) ic ∧ v = VV ∧ t ≤ K ∧ Hid (l.length = t) ∧ Hid (folP ans K first = (folP ans (K - t) last).map (l ++ ·)) ∧ Hid (folS ans K first = S ++ folS ans (K - t) last) ∧ Hid ((first :: l.map (·.2))[t]? = some last ∧ last.length ≤ 256) ∧ Hid ((bodies (first :: l.map (·.2))).length ≤ 256 * (t + 1)) ∧ Hid (Tri n₀ w.heap.size wr p i v (first :: l.map (·.2)) (id :: l.map (·.1)) (bodies (first :: l.map (·.2))) C) ∧ Hid (J (s ++ S) wr) ∧ Hid (Blk wr w.heap.size 93 [.func (.func f) #[] lb, .int .i64 g, .int .i64 N]) ∧ Hid (Only (fun k => F k ∨ w.heap.size ≤ k) w wr)) (fun p _ _ _ => K + 1 - slLen p)
  case atStart => exact ⟨0, [], [], first, _, _, _, _, _, _, rfl, rfl, rfl, Nat.zero_le _, rfl, Lib.hid (by simp), Lib.hid (by simp), ⟨rfl, hfl⟩, Lib.hid (by have := bodyOf_len first; simp [bodies]; omega), HT0.out, Lib.hid (by simpa using HJ1.out), HB3.out, HO3.out⟩
  case round =>
    obtain ⟨t, l, S, last, C, PA, IA, pc, ic, VV, rfl, rfl, eV, htK, HL, HFP, HFS, HLA, HBL, HT, HJT, HBX, HOT⟩ := hrel
    have eV2 := eV.symm
    clear eV
    subst eV2
    have HGT : Hid (Gens wr) := Lib.hid (gens_keep HG.out HOT.out HR.out.zero)
    have hnr : n₀ ≤ wr.heap.size := Nat.le_trans hn HOT.out.size
    obtain ⟨pb, po, x0, LP, lp, ePA, hpb, hx0, hcell, hsrc⟩ := pg_at (k := t) HT.out.rw_ (by omega)
    cases ePA
    obtain rfl : last = x0 := Option.some.inj (HLA.out.1.symm.trans hx0)
    have hpc := HT.out.rw_.cap
    by_cases ht : t < K
    · have ht1 : (((t + 1 : Nat) : Int)) < ((K + 1 : Nat) : Int) := by omega
      have hbx := HBX.out.tri
      obtain ⟨y0, y1, y2⟩ := hbx
      have hwl := HBX.out.lt
      go_upto_region 4 with (go_at_call 81; go_loud (refine (HM.out _ HGT.out).mono ?_; rintro e wm ⟨rfl, hom⟩; have HOM := Lib.hid hom; clear hom))
      have HTm := Lib.hid (HT.out.step HOM.out (fun k _ h => Nat.not_le.2 h))
      have HJm := Lib.hid (HR.out.keep _ wr wm HJT.out hnr (HOM.out.mono fun k h => Nat.le_trans hnr h))
      have HBm := Lib.hid (HBX.out.later HOM.out)
      have HGm := Lib.hid (HGT.out.later HOM.out)
      have HOm := Lib.hid (HOT.out.trans (HOM.out.mono fun k h => Or.inr (Nat.le_trans HOT.out.size h)))
      have hnm : n₀ ≤ wm.heap.size := Nat.le_trans hnr HOM.out.size
      have HLC := Lib.hid ((HOM.out.cell (p := ⟨pb, po + t, none⟩) (Nat.not_le.2 hpb)).trans hcell)
      have HLS := Lib.hid (hsrc.later HOM.out)
      have hpm := Nat.lt_of_lt_of_le hpb HOM.out.size
      have HKC : Hid (∀ w' : World, Only (fun k => F k ∨ wm.heap.size ≤ k) wm w' → w'.cell? ⟨w.heap.size, 0, none⟩ = some (.func (.func f) #[] lb) ∧ w'.cell? ⟨w.heap.size, 1, none⟩ = some (.int .i64 g) ∧ w'.cell? ⟨w.heap.size, 2, none⟩ = some (.int .i64 N) ∧ w'.cell? ⟨pb, po + t, none⟩ = some (.slice LP last.length lp)) := Lib.hid fun w' hw' => by
        have hlo := HR.out.low
        have e1 := hw'.cell (p := ⟨w.heap.size, 0, none⟩) (fun h => h.elim (fun h => by have := hlo _ h; simp only at this; omega) fun h => by have := HBm.out.lt; simp only at h; omega)
        have e2 := hw'.cell (p := ⟨w.heap.size, 1, none⟩) (fun h => h.elim (fun h => by have := hlo _ h; simp only at this; omega) fun h => by have := HBm.out.lt; simp only at h; omega)
        have e3 := hw'.cell (p := ⟨w.heap.size, 2, none⟩) (fun h => h.elim (fun h => by have := hlo _ h; simp only at this; omega) fun h => by have := HBm.out.lt; simp only at h; omega)
        obtain ⟨z0, z1, z2⟩ := HBm.out.tri
        have e4 := hw'.cell (p := ⟨pb, po + t, none⟩) (fun h => h.elim (fun h => by have h1 := hlo _ h; have h2 := (World.ownsRow.lt HT.out.pg pb rfl).1; simp only at h1; omega) fun h => by simp only at h; omega)
        exact ⟨e1.trans z0, e2.trans z1, e3.trans z2, e4.trans HLC.out⟩
      have HNW : Hid (∀ w' : World, Only (wm.heap.size ≤ ·) wm w' → Only (fun k => F k ∨ wm.heap.size ≤ k) wm w') := Lib.hid fun w' h => h.mono fun k h => Or.inr h
      have HBE : Hid (∀ W, Only (wm.heap.size ≤ ·) wm W → Calls Tryd.prog 82 #[.agg #[.func (.func f) #[] lb, .int .i64 g, .int .i64 N], .slice LP last.length lp] W fun e w' => ∃ u, e = .returned (.tuple #[.int .i64 (behP ans last).1, u, .bool (behP ans last).2.2]) ∧ New w' W.heap.size u (behP ans last).2.1 ∧ J (s ++ S ++ behS last) w' ∧ Only (fun k => F k ∨ W.heap.size ≤ k) W w') := Lib.hid fun W hW =>
        behind_c HR.out (s ++ S) W g N _ last (HR.out.keep _ wm W HJm.out hnm (hW.mono fun k h => Nat.le_trans hnm h)) (Nat.le_trans hnm hW.size) (HGm.out.later hW) (HLS.out.later hW) (by have := HLA.out.2; omega)
      obtain ⟨x, hx⟩ : ∃ x, x = (behP ans last).2.1 := ⟨_, rfl⟩
      obtain ⟨r1, hr1⟩ : ∃ x, x = (behP ans last).1 := ⟨_, rfl⟩
      obtain ⟨r3, hr3⟩ : ∃ x, x = (behP ans last).2.2 := ⟨_, rfl⟩
      rw [← hx, ← hr1, ← hr3] at HBE
      have HX := Lib.hid hx
      have HR1 := Lib.hid hr1
      have HR3 := Lib.hid hr3
      clear hx hr1 hr3 y0 y1 y2 hcell hsrc hx0
      have hzt : (0 : Int) ≤ (t : Int) := by omega
      have hzt1 : (t : Int) < ((t : Int) + 1) := by omega
      have hwt : IntKind.i64.wrap (t : Int) = (t : Int) := IntWalk.i64_in _ (by omega)
      refine wp_region_list (B := [false, false, false, false, false, false, false, false, false, false, false, false, false, false, false]) (S := (fun w' => w'.cell? ⟨w.heap.size, 0, none⟩ = some (.func (.func f) #[] lb) ∧ w'.cell? ⟨w.heap.size, 1, none⟩ = some (.int .i64 g) ∧ w'.cell? ⟨w.heap.size, 2, none⟩ = some (.int .i64 N) ∧ w'.cell? ⟨pb, po + t, none⟩ = some (.slice LP last.length lp))) (by kernel_rfl) (by kernel_rfl) (by kernel_rfl) (HKC.out _ (HNW.out _ (Only.refl _ wm).drew)) (fun hsel hHeld => ?_)
      refine oneA 0 30 hsel (h := ?_)
      simp only [Act.put, List.setIfInBounds_toArray, List.set_cons_zero, List.set_cons_succ]
      refine oneA 1 31 hsel (h := ?_)
      simp only [Act.put, List.setIfInBounds_toArray, List.set_cons_zero, List.set_cons_succ]
      refine oneA 2 32 hsel (h := ?_)
      simp only [Act.put, List.setIfInBounds_toArray, List.set_cons_zero, List.set_cons_succ]
      refine oneA 3 33 hsel (h := ?_)
      simp only [Act.put, List.setIfInBounds_toArray, List.set_cons_zero, List.set_cons_succ]
      refine oneA 4 34 hsel (h := ?_)
      simp only [Act.put, List.setIfInBounds_toArray, List.set_cons_zero, List.set_cons_succ]
      refine oneA 5 35 hsel (h := ?_)
      simp only [Act.put, List.setIfInBounds_toArray, List.set_cons_zero, List.set_cons_succ]
      refine oneA 6 36 hsel (h := ?_)
      simp only [Act.put, List.setIfInBounds_toArray, List.set_cons_zero, List.set_cons_succ]
      refine wpAnyL_ready (rs := [7]) (by kernel_rfl) (by kernel_rfl) (by simp) ?_
      refine AllReadyL.cons (o := ?_) ?_ (fun K hK => ?_) AllReadyL.nil
      case refine_2 => (simp only [List.getElem?_cons_succ, List.getElem?_cons_zero]; rfl)
      go_simp
      (go_at_call 82; go_loud ((with_reducible refine (HBE.out _ ((Only.refl (wm.heap.size ≤ ·) wm).drew)).mono ?_); rintro ee w3 ⟨u, rfl, hu, hj3, ho3⟩; have HU : Hid (New w3 wm.heap.size _ _) := Lib.hid hu; have HJ3 := Lib.hid hj3; (replace ho3 : Only (fun k => F k ∨ wm.heap.size ≤ k) wm w3 := (Only.refl _ wm).drew.trans ho3); have HO3 := Lib.hid ho3; (obtain ⟨UA, uc, rfl, _⟩ := hu); clear hj3 ho3))
      clear hHeld
      refine hK.out _ _ (HKC.out _ HO3.out) (fun hHeld => ?_)
      clear hK K
      try simp only [List.set_cons_zero, List.set_cons_succ]
      refine oneA 8 29 hsel (h := ?_)
      simp only [Act.put, List.setIfInBounds_toArray, List.set_cons_zero, List.set_cons_succ]
      refine oneA 9 38 hsel (h := ?_)
      simp only [Act.put, List.setIfInBounds_toArray, List.set_cons_zero, List.set_cons_succ]
      refine oneA 10 39 hsel (h := ?_)
      simp only [Act.put, List.setIfInBounds_toArray, List.set_cons_zero, List.set_cons_succ]
      refine oneA 11 40 hsel (h := ?_)
      simp only [Act.put, List.setIfInBounds_toArray, List.set_cons_zero, List.set_cons_succ]
      refine oneA 12 12 hsel (h := ?_)
      simp only [Act.put, List.setIfInBounds_toArray, List.set_cons_zero, List.set_cons_succ]
      refine oneA 13 13 hsel (h := ?_)
      simp only [Act.put, List.setIfInBounds_toArray, List.set_cons_zero, List.set_cons_succ]
      refine oneA 14 14 hsel (h := ?_)
      simp only [Act.put, List.setIfInBounds_toArray, List.set_cons_zero, List.set_cons_succ]
      refine wpAnyL_done (by kernel_rfl) (by kernel_rfl) ?_ _
      clear hsel hHeld
      have HT3 := Lib.hid (HTm.out.step HO3.out (fun k h1 h2 h => h.elim (fun h => by have := HR.out.low _ h; omega) fun h => by omega))
      have HG3 := Lib.hid (gens_keep HGm.out HO3.out HR.out.zero)
      have HB3' : Hid (Blk w3 w.heap.size 93 [.func (.func f) #[] lb, .int .i64 g, .int .i64 N]) := Lib.hid (HBm.out.only HO3.out fun h => h.elim (fun h => by have := HR.out.low _ h; omega) fun h => by have := HBm.out.lt; omega)
      have HO4 : Hid (Only (fun k => F k ∨ w.heap.size ≤ k) w w3) := Lib.hid (HOm.out.trans (HO3.out.mono fun k h => h.imp (fun h => h) fun h => Nat.le_trans HOm.out.size h))
      have hn3 : n₀ ≤ w3.heap.size := Nat.le_trans hnm HO3.out.size
      clear HBE HKC HNW HLC HLS
      cases r3
      · have e1 : folP ans K first = none := by
          rw [HFP.out]
          obtain ⟨k, hk⟩ : ∃ k, K - t = k + 1 := ⟨K - t - 1, by omega⟩
          rw [hk, folP, ← HR3.out, if_neg (by simp)]
          rfl
        have e2 : folS ans K first = S ++ behS last := by
          rw [HFS.out]
          obtain ⟨k, hk⟩ : ∃ k, K - t = k + 1 := ⟨K - t - 1, by omega⟩
          rw [hk, folS, ← HR3.out, if_neg (by simp), List.append_nil]
        have HE1 := Lib.hid e1
        have HE2 := Lib.hid e2
        clear e1 e2
        go_wp2
        go_ret3
        rw [HE1.out, HE2.out]
        exact ⟨_, _, rfl, Src.nil_ _, Ints.nil_ _, by rw [← List.append_assoc]; exact HJ3.out, HO4.out⟩
      · have HLC : Hid ((id :: l.map (·.1)).length = t + 1) := Lib.hid (by rw [List.length_cons, List.length_map, HL.out])
        have HLD : Hid ((first :: l.map (·.2)).length = t + 1) := Lib.hid (by rw [List.length_cons, List.length_map, HL.out])
        have HGK : Hid (∀ W', Only (w.heap.size ≤ ·) w3 W' → Gens W') := Lib.hid fun W' hW' => ⟨Nat.lt_of_lt_of_le HG3.out.1 hW'.size, fun i v hv => (hW'.cell (p := ⟨1, i, none⟩) (Nat.not_le.2 (Nat.lt_of_lt_of_le HR.out.gb hn))).trans (HG3.out.2 i v hv)⟩
        have HXL : Hid ((bodyOf x).length ≤ 256) := Lib.hid (Nat.le_trans (bodyOf_len x) (by rw [HX.out]; exact behP_len ans last))
        have HUB : Hid (∀ ad, UA = some ad → some ad.block ≠ (Value.slice (some ⟨pb, po, none⟩) (t + 1) pc).ownBlock ∧ some ad.block ≠ (Value.slice IA (t + 1) ic).ownBlock ∧ some ad.block ≠ VV.ownBlock) := Lib.hid fun ad e => by
          have h1 := (HU.out.in_ ad e).1
          exact ⟨fun h => by have := (World.ownsRow.lt HTm.out.pg _ h.symm).2; omega, fun h => by have := (World.ownsRow.lt HTm.out.id _ h.symm).2; omega, fun h => by have := (World.ownsRow.lt HTm.out.vl _ h.symm).2; omega⟩
        go_wp2_with (first
          | (at_builtin; refine wpList_append_at rfl (.tmp 43) (.tmp 45) 43 rfl w.heap.size 27 iB zB 1 24 Tryd.underlying43 HIB.out.1 HIB.out.2.1 HIB.out.2.2.1 HIB.out.2.2.2 (by rfl) (by omega) (.slice (some ⟨pb, po, none⟩) (t + 1) pc) (t + 1) C rfl (tri_pg HLD.out HT3.out _) ⟨w3.heap.size, 0, none⟩ 1 1 [.slice UA _ uc] rfl rfl (fun j u hu => by rw [Addr.add_lit, (Blk.new w3 27 _).cell, Nat.zero_add]; exact hu) (by simp [Value.oneCell']) (by simp only [maxLen]; omega) (by omega) (by have := HO4.out.size; simp; omega) ?_; go_loud (intro P' w5 ho5 hg5 hat5; obtain ⟨ht5, ho5'⟩ := HT3.out.page (HU.out.mono hnm) HUB.out hg5 (by rw [HLD.out]; exact ho5) hat5; have HT5 := Lib.hid ht5; have HO5 := Lib.hid (only_own HT3.out.pg ho5' HO4.out.size); have HB5 := Lib.hid (blk_row HB3'.out HT3.out.pg (by decide) ho5'); obtain ⟨g5, c5, rfl⟩ := ownsRow_succ ho5; clear ht5 ho5' ho5 hg5 hat5))
          | (at_builtin; refine wpList_append_at rfl (.tmp 47) (.tmp 49) 28 rfl w.heap.size 3 iN zN0 1 8 Tryd.underlying28 HIN.out.1 HIN.out.2.1 HIN.out.2.2.1 HIN.out.2.2.2 (by rfl) (by omega) (.slice IA (t + 1) ic) (t + 1) (ci (id :: l.map (·.1))) rfl (tri_id HLC.out HT5.out _) ⟨w5.heap.size, 0, none⟩ 1 1 [.int .i64 r1] rfl rfl (fun j u hu => by rw [Addr.add_lit, (Blk.new w5 3 _).cell, Nat.zero_add]; exact hu) (by simp [Value.oneCell']) (by simp only [maxLen]; omega) (by omega) (by have := HO5.out.size; have := HO4.out.size; simp; omega) ?_; go_loud (intro I' w7 ho7 hg7 hat7; obtain ⟨ht7, ho7'⟩ := HT5.out.num hg7 (by rw [HLC.out]; exact ho7) hat7; have HT7 := Lib.hid ht7; have HO7 := Lib.hid (HO5.out.trans (only_own HT5.out.id ho7' (Nat.le_trans HO4.out.size HO5.out.size))); have HB7 := Lib.hid (blk_row HB5.out HT5.out.id (by decide) ho7'); obtain ⟨g7, c7, rfl⟩ := ownsRow_succ ho7; clear ht7 ho7' ho7 hg7 hat7))
          | (go_at_call 80; go_loud (refine (Body_o w7 _ x (HGK.out _ HO7.out) (tri_last HT7.out) (by rw [HX.out]; have := behP_len ans last; omega)).mono ?_; rintro ee w8 ⟨Y, rfl, hY, ho8⟩; have HT8 := Lib.hid (HT7.out.step ho8 (fun k _ h => Nat.not_le.2 h)); have HB8 := Lib.hid (HB7.out.later ho8); have HY := Lib.hid (Src.own hY); have HO8 := Lib.hid (HO7.out.trans (ho8.mono fun k h => Nat.le_trans HO4.out.size (Nat.le_trans HO7.out.size h))); clear hY ho8))
          | (at_builtin; refine wpList_bytes rfl (.tmp 51) (.tmp 53) rfl w.heap.size VV Y (bodies (first :: l.map (·.2))) (bodyOf x) rfl HT8.out.vl rfl HY.out (by have := HBL.out; have := HXL.out; omega) (Nat.le_trans HO4.out.size HO8.out.size) ?_; go_loud (intro V' w9 ho9 hg9 hat9; obtain ⟨ht9, ho9'⟩ := HT8.out.bytes hg9 ho9 hat9; have HT9 := Lib.hid ht9; have HO9 := Lib.hid (HO8.out.trans (only_own HT8.out.vl ho9' (Nat.le_trans HO4.out.size HO8.out.size))); have HB9 := Lib.hid (blk_row HB8.out HT8.out.vl (by decide) ho9'); clear ht9 ho9' ho9 hg9 hat9)))
        go_roundw
        case rel =>
          obtain ⟨k, hk⟩ : ∃ k, K - t = k + 1 := ⟨K - t - 1, by omega⟩
          have hk1 : K - (t + 1) = k := by omega
          have e1 : first :: (l ++ [(r1, x)]).map (·.2) = (first :: l.map (·.2)) ++ [x] := by simp
          have e2 : id :: (l ++ [(r1, x)]).map (·.1) = (id :: l.map (·.1)) ++ [r1] := by simp
          have e3 : bodies ((first :: l.map (·.2)) ++ [x]) = bodies (first :: l.map (·.2)) ++ bodyOf x := by simp [bodies]
          refine ⟨t + 1, l ++ [(r1, x)], S ++ behS last, x, _, _, _, _, _, _, rfl, rfl, rfl, by omega, Lib.hid (by simp [HL.out]), Lib.hid ?_, Lib.hid ?_, Lib.hid ⟨?_, by rw [HX.out]; exact behP_len ans last⟩, Lib.hid ?_, Lib.hid (by rw [e1, e2, e3]; exact HT9.out), Lib.hid ?_, HB9.out, Lib.hid ?_⟩
          · rw [HFP.out, hk, hk1, folP, ← HR3.out, if_pos rfl, ← HX.out, ← HR1.out, Option.map_map]
            congr 1
            funext z
            simp
          · rw [HFS.out, hk, hk1, folS, ← HR3.out, if_pos rfl, ← HX.out, List.append_assoc]
          · rw [e1, List.getElem?_append_right (by rw [HLD.out]; omega), HLD.out]
            simp
          · rw [e1, e3, List.length_append]
            have := HBL.out
            have := HXL.out
            omega
          · rw [← List.append_assoc]
            exact HR.out.keep _ w3 w9 HJ3.out hn3 (HO9.out.mono fun k h => Nat.le_trans hn h)
          · exact HO4.out.trans (HO9.out.mono fun k h => Or.inr h)
        case measure => simp [slLen]; omega
    · have htk : t = K := by omega
      have ht1 : ¬ (((t + 1 : Nat) : Int)) < ((K + 1 : Nat) : Int) := by omega
      have hk0 : K - t = 0 := by omega
      have HE1 : Hid (folP ans K first = some l) := Lib.hid (by rw [HFP.out, hk0]; simp [folP])
      have HE2 : Hid (folS ans K first = S) := Lib.hid (by rw [HFS.out, hk0]; simp [folS])
      obtain ⟨VA, vc, rfl, _, _, hvc, _⟩ := raw_of_own HT.out.vl
      obtain ⟨BV, hBV⟩ : ∃ b, b = bodies (first :: l.map (·.2)) := ⟨_, rfl⟩
      obtain ⟨PS, hPS⟩ : ∃ b, b = first :: l.map (·.2) := ⟨_, rfl⟩
      obtain ⟨IS, hIS⟩ : ∃ b, b = id :: l.map (·.1) := ⟨_, rfl⟩
      rw [← hBV] at HT hvc ⊢
      have hisl : IS.length = t + 1 := by rw [hIS, List.length_cons, List.length_map, HL.out]
      have HR1 : Hid (Rw pgE wr (.slice (some ⟨pb, po, none⟩) (t + 1) pc) PS) := Lib.hid (by rw [hPS]; exact HT.out.rw_)
      have HI1 : Hid (Ints wr (.slice IA (t + 1) ic) IS) := Lib.hid (by rw [hIS]; exact Ints.own HT.out.id)
      have HV1 : Hid (Src wr (.slice VA BV.length vc) BV) := Lib.hid (Src.own HT.out.vl)
      have HCR : Hid (chR g m N id first (some l) = if BV.length < N then ([], [], false) else (BV.take N, IS, encOk g N IS && decide (linksB g (BV.take N) m IS (List.range (t + 1)) = PS))) := Lib.hid (by rw [hBV, hPS, hIS, ← HL.out]; rfl)
      obtain ⟨y0, y1, y2⟩ := HBX.out.tri
      have hwl := HBX.out.lt
      clear HFP HFS HLA HBL HT hBV hPS hIS hcell hsrc hx0 htk hk0
      by_cases hlt : BV.length < N
      · have hlt' : (BV.length : Int) < (N : Int) := by omega
        have HC : Hid (chR g m N id first (some l) = ([], [], false)) := Lib.hid (by rw [HCR.out, if_pos hlt])
        clear HCR
        go_wp2_with (go_at_call 81; go_loud (refine (HM.out _ HGT.out).mono ?_; rintro e wm ⟨rfl, hom⟩; have HOM := Lib.hid hom; obtain ⟨q0, q1, q2⟩ := (HBX.out.later hom).tri; clear hom))
        go_ret3
        rw [HE1.out, HE2.out, HC.out]
        exact ⟨_, _, rfl, Src.nil_ _, Ints.nil_ _, HR.out.keep _ wr _ HJT.out hnr (HOM.out.mono fun k h => Nat.le_trans hnr h), HOT.out.trans (HOM.out.mono fun k h => Or.inr (Nat.le_trans HOT.out.size h))⟩
      · have hlt' : ¬ (BV.length : Int) < (N : Int) := by omega
        have hN0 : (0 : Int) ≤ (N : Int) := by omega
        have hNc : (N : Int) ≤ (vc : Int) := by omega
        have HVN : Hid (∀ W, Only (wr.heap.size ≤ ·) wr W → Src W (.slice VA N vc) (BV.take N)) := Lib.hid fun W hW => src_cut (HV1.out.later hW) (by omega)
        obtain ⟨ok, hok⟩ : ∃ b, b = encOk g N IS := ⟨_, rfl⟩
        have HOK := Lib.hid hok
        cases ok
        · have HC : Hid (chR g m N id first (some l) = (BV.take N, IS, false)) := Lib.hid (by rw [HCR.out, if_neg hlt, ← hok, Bool.false_and])
          clear HCR hok
          go_wp2_with (first
            | (go_at_call 81; go_loud (refine (HM.out _ HGT.out).mono ?_; rintro e wm ⟨rfl, hom⟩; have HOM := Lib.hid hom; obtain ⟨q0, q1, q2⟩ := (HBX.out.later hom).tri; clear hom))
            | (go_at_call 17; go_loud (refine (OEncode_no wm g VA IA N vc (t + 1) ic IS (HGT.out.later HOM.out) (HI1.out.later HOM.out) HOK.out.symm).mono ?_; rintro e w2 ⟨rfl, ho2⟩; (replace HOM := Lib.hid (on_new HOM.out ho2)); clear ho2)))
          go_ret3
          rw [HE1.out, HE2.out, HC.out]
          exact ⟨_, _, rfl, HVN.out _ HOM.out, HI1.out.later HOM.out, HR.out.keep _ wr _ HJT.out hnr (HOM.out.mono fun k h => Nat.le_trans hnr h), HOT.out.trans (HOM.out.mono fun k h => Or.inr (Nat.le_trans HOT.out.size h))⟩
        · obtain ⟨AG, hAG⟩ : ∃ AG, AG = linksB g (BV.take N) m IS (List.range (t + 1)) := ⟨_, rfl⟩
          have HC : Hid (chR g m N id first (some l) = (BV.take N, IS, decide (AG = PS))) := Lib.hid (by rw [HCR.out, if_neg hlt, ← hok, Bool.true_and, hAG])
          have HAL : Hid (AG.length ≤ 1000000) := Lib.hid (by rw [hAG, linksB_len, List.length_range]; omega)
          have HEN : Hid (∀ W, Only (wr.heap.size ≤ ·) wr W → Calls Tryd.prog 17 #[.int .i64 g, .slice VA N vc, .slice IA (t + 1) ic] W fun e w' => ∃ RA rc, e = .returned (.tuple #[.slice RA AG.length rc, .int .i64 0]) ∧ Rw pgE w' (.slice RA AG.length rc) AG ∧ Only (W.heap.size ≤ ·) W w') := Lib.hid fun W hW => by
            refine (OEncode_chain W g VA IA N vc (t + 1) ic (BV.take N) IS m (HGT.out.later hW) hg hm (HVN.out _ hW) (HI1.out.later hW) HOK.out.symm).mono ?_
            rintro e w2 ⟨r, rfl, hr, ho2⟩
            rw [← hAG] at hr
            have h1 := hr.rw_
            have h2 := h1
            obtain ⟨RA, rc, _, rfl, _⟩ := h2
            exact ⟨RA, rc, rfl, h1, ho2⟩
          clear HCR hok hAG
          go_wp2_with (first
            | (go_at_call 81; go_loud (refine (HM.out _ HGT.out).mono ?_; rintro e wm ⟨rfl, hom⟩; have HOM := Lib.hid hom; obtain ⟨q0, q1, q2⟩ := (HBX.out.later hom).tri; clear hom))
            | (go_at_call 17; go_loud (refine (HEN.out _ HOM.out).mono ?_; rintro e w2 ⟨RA, rc, rfl, hr, ho2⟩; have HRR := Lib.hid hr; (replace HOM := Lib.hid (on_new HOM.out ho2)); clear ho2 hr))
            | (go_at_call 83; go_loud (refine (SEqualFunc_c w2 RA _ _ rc (t + 1) pc AG PS HRR.out (HR1.out.later HOM.out) HAL.out).mono ?_; rintro e w3 ⟨rfl, ho3⟩; (replace HOM := Lib.hid (on_new HOM.out ho3)); clear ho3)))
          go_ret3
          rw [HE1.out, HE2.out, HC.out]
          exact ⟨_, _, rfl, HVN.out _ HOM.out, HI1.out.later HOM.out, HR.out.keep _ wr _ HJT.out hnr (HOM.out.mono fun k h => Nat.le_trans hnr h), HOT.out.trans (HOM.out.mono fun k h => Or.inr (Nat.le_trans HOT.out.size h))⟩
end
end Go.Proofs.YtbgnfocfnjlabaaDoor
