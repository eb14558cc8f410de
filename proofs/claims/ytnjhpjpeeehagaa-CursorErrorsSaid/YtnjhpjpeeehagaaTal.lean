/-
  All.
-/
import Derived.Test.YtnjhpjpeeehagaaTvs
import Derived.Test.YtnjhpjpeeehagaaEnt
import Derived.WalkSmall
set_option linter.unusedVariables false
namespace Go.Proofs.Ytnjhpjpeeehagaa
open Go.RowKit
attribute [local go_sem] run_store_func

/-- Numbers in a row. -/
def inE : El Int where
  z := 1
  At w x cs := cs = [.int .i64 x]
  len := fun e => by rw [e]; rfl
  one := fun e u hu => by
    rw [e] at hu
    simp at hu
    rw [hu]
    rfl
  later := fun e _ => e
abbrev Ins := Rw inE
theorem den_ins (w : World) : ∀ l : List Int, Den (inE.At w) l (ic2 l)
  | [] => rfl
  | x :: l => ⟨[.int .i64 x], ic2 l, rfl, rfl, den_ins w l⟩
theorem ins_at {w : World} {A : Option Addr} {n c k : Nat} {l : List Int} (h : Ins w (.slice A n c) l) (hk : k < n) : ∃ (b off : Nat) (x : Int), A = some ⟨b, off, none⟩ ∧ b < w.heap.size ∧ l[k]? = some x ∧ w.cell? ⟨b, off + k, none⟩ = some (.int .i64 x) := by
  obtain ⟨b, off, x, cs, e, hb, hx, rfl, hc⟩ := Rw.at_ (E := inE) (by decide) h hk
  exact ⟨b, off, x, e, hb, hx, by have := hc 0 _ rfl; simpa [inE] using this⟩
/-- Bytes stay where another variable is written whose cells are no bytes. -/
theorem src_other {w W : World} {q : Nat} {t : TypeId} {cs : List Value} {v : Value} {xs : Bytes} (h : Src w v xs) (hb : Blk w q t cs) (hcs : ∀ v ∈ cs, ∀ x, v ≠ .int .u8 x) (ho : Only (· = q) w W) : Src W v xs := by
  obtain ⟨A', c', e, ht, h1, h2, h3⟩ := h
  refine ⟨A', c', e, ht.only ho (fun ad hn hA hF => ?_), h1, h2, h3⟩
  obtain ⟨ad', x, e1, _, e3⟩ := ht.at_ hn
  obtain rfl : ad = ad' := Option.some.inj (hA.symm.trans e1)
  have ee : ad.add 0 = ad := by cases ad; simp [Addr.add]
  rw [ee] at e3
  have e4 := spotF e3
  rw [e4, show ad.block = q from hF, hb.cell] at e3
  exact hcs _ (List.mem_of_getElem? e3) _ rfl
theorem it_other {w W : World} {q : Nat} {t : TypeId} {cs ds : List Value} {y : It} (h : itE.At w y ds) (hb : Blk w q t cs) (hcs : ∀ v ∈ cs, ∀ x, v ≠ .int .u8 x) (ho : Only (· = q) w W) : itE.At W y ds := by
  obtain ⟨A, c, B, d, e, h1, h2⟩ := h
  exact ⟨A, c, B, d, e, src_other h1 hb hcs ho, src_other h2 hb hcs ho⟩
/-- What All tells. -/
def okS (r : Int × Sv) : Sv := if r.1 = 0 then r.2 else ⟨[], [], 0⟩
def AllSays (w : World) (r : Int × Sv) (e : Ending) (w' : World) : Prop :=
  (∃ IA ni ic RA nr rc, e = .returned (.tuple #[.agg #[.slice IA ni ic, .slice RA nr rc, .int .i64 ((okS r).dep : Int)], .int .i64 r.1]) ∧ Its w' (.slice IA ni ic) (okS r).its ∧ Ins w' (.slice RA nr rc) (okS r).refs) ∧ Only (w.heap.size ≤ ·) w w'
theorem load_whole {w : World} {g : Nat} {A B : Option Addr} {n c m d : Nat} {z : Int} (h : Blk w g 70 [.slice A n c, .slice B m d, .int .i64 z]) : (loadVar 70 ⟨g, 0, none⟩).run Try.prog w = .ok (.agg #[.slice A n c, .slice B m d, .int .i64 z]) w := by
  obtain ⟨c0, c1, c2⟩ := h.tri
  simp [go_sem, c0, c1, c2]

theorem heapLast {w : World} {g : Nat} {t : TypeId} {cs : List Value} (e : g = w.heap.size) : Blk (w.alloc (.cells cs.toArray t)) g t cs := by
  subst e
  exact Blk.new w t cs
theorem sur0 (w w4 : World) (bl bs mb b4 bv : Nat) (l : List Nm) (hw4 : w4 = (((w.alloc (.cells #[.slice none 0 0, .slice none 0 0, .int .i64 0] 70)).alloc (.map #[] 0)).alloc (.cells #[.func (.func 26) #[] #[.pointer (some ⟨bl, 0, none⟩)], .map (some mb), .slice none 0 0, .slice none 0 0, .int .i64 0] 90)).alloc (.cells #[.func (.func 37) #[] #[.pointer (some ⟨bs, 0, none⟩), .pointer (some ⟨bv, 0, none⟩)]] 91)) (hmb : mb = w.heap.size + 1) (hbs : bs = w.heap.size + 1 + 1) (hbv : bv = w.heap.size + 1 + 1 + 1) : Sur w4 w4.heap.size bs mb bl l ⟨[], [], 0⟩ (.slice none 0 0) (.slice none 0 0) := by
  have hsz : w4.heap.size = w.heap.size + 1 + 1 + 1 + 1 := by rw [hw4]; simp
  refine ⟨by omega, by omega, Nat.le_refl _, ?_, ⟨[], World.ownsRow_nil _ _ _ _, rfl⟩, World.ownsRow_nil _ _ _ _, ⟨.map [], ?_, fun r hr => rfl⟩, List.nodup_nil, (fun r hr => by simp at hr), Nat.zero_le _⟩
  · have e : bs = ((w.alloc (.cells #[.slice none 0 0, .slice none 0 0, .int .i64 0] 70)).alloc (.map #[] 0)).heap.size := by rw [hbs]; simp
    rw [hw4, e]
    exact (Blk.new _ _ _).alloc _
  · have e : mb = (w.alloc (.cells #[.slice none 0 0, .slice none 0 0, .int .i64 0] 70)).heap.size := by rw [hmb]; simp
    rw [hw4, e]
    exact World.ownsMap.alloc (World.ownsMap.alloc (World.ownsMap_made _ Try.prog 3 Rv) _) _
theorem rw_of_own {α : Type} {E : El α} {w : World} {B z n : Nat} {t : TypeId} {v : Value} {l : List α} {C : List Value} (h : w.ownsRow B t z v n C) (hn : n = l.length) (hd : Den (E.At w) l C) : Rw E w v l := by
  obtain ⟨A, c, e, hr, h1, h2, h3, _⟩ := raw_of_own h
  subst hn
  exact ⟨A, c, C, e, hd, hr, h1, h2, h3⟩
theorem no_u8 : ∀ v ∈ ([.slice none 0 0, .slice none 0 0, .int .i64 0] : List Value), ∀ x, v ≠ .int .u8 x := by
  intro v hv x e
  subst e
  simp at hv

set_option maxRecDepth 100000 in
set_option maxHeartbeats 25600000 in
theorem All_c (HM : MeetC) (w : World) (bl : Nat) (A0 : Option Addr) (n0 c0 : Nat) (root : Int) (l : List Nm) (hb : Blk w bl 22 [.slice A0 n0 c0]) (h : Nms w (.slice A0 n0 c0) l) (hf : FewN l) (hr : (Lit.int .i64 root).wf = true) :
    Calls Try.prog 25 #[srcV bl, .int .i64 root] w (AllSays w (allP l root)) := by
  have hmf : ∀ (fn : Fn) (first cap : Array Value) (w : World), (Instr.makeFunc fn first cap).run Try.prog w = .ok (.func fn first cap) w := fun _ _ _ _ => rfl
  have hmm := @run_makeMap Try.prog
  have hfn := func_nil 26 #[.pointer (some ⟨bl, 0, none⟩)]
  obtain ⟨mb, hmb⟩ : ∃ x, x = w.heap.size + 1 := ⟨_, rfl⟩
  obtain ⟨b4, hb4⟩ : ∃ x, x = w.heap.size := ⟨_, rfl⟩
  obtain ⟨bs, hbs⟩ : ∃ x, x = w.heap.size + 1 + 1 := ⟨_, rfl⟩
  obtain ⟨bv, hbv⟩ : ∃ x, x = w.heap.size + 1 + 1 + 1 := ⟨_, rfl⟩
  obtain ⟨w4, hw4⟩ : ∃ x, x = (((w.alloc (.cells #[.slice none 0 0, .slice none 0 0, .int .i64 0] 70)).alloc (.map #[] 0)).alloc (.cells #[.func (.func 26) #[] #[.pointer (some ⟨bl, 0, none⟩)], .map (some mb), .slice none 0 0, .slice none 0 0, .int .i64 0] 90)).alloc (.cells #[.func (.func 37) #[] #[.pointer (some ⟨bs, 0, none⟩), .pointer (some ⟨bv, 0, none⟩)]] 91) := ⟨_, rfl⟩
  have HBL := Lib.hid hb
  have HNM := Lib.hid h
  have HFW := Lib.hid hf
  have HRT := Lib.hid hr
  clear hb h hf hr
  unfold srcV
  go_enter Try.func25, Try.ntmps25
  go_upto_region 6 with (fail)
  have hSU4 : Sur w4 w4.heap.size bs mb bl l ⟨[], [], 0⟩ (.slice none 0 0) (.slice none 0 0) := sur0 w w4 bl bs mb b4 bv l hw4 hmb hbs hbv
  have HB4 : Hid (Blk w4 b4 70 [.slice none 0 0, .slice none 0 0, .int .i64 0]) := Lib.hid (by rw [hw4, hb4]; exact ((((Blk.new w _ _).alloc _).alloc _).alloc _))
  have HBV : Hid (Blk w4 bv 91 [.func (.func 37) #[] #[.pointer (some ⟨bs, 0, none⟩), .pointer (some ⟨bv, 0, none⟩)]]) := Lib.hid (by
    have e : bv = (((w.alloc (.cells #[.slice none 0 0, .slice none 0 0, .int .i64 0] 70)).alloc (.map #[] 0)).alloc (.cells #[.func (.func 26) #[] #[.pointer (some ⟨bl, 0, none⟩)], .map (some mb), .slice none 0 0, .slice none 0 0, .int .i64 0] 90)).heap.size := by rw [hbv]; simp
    rw [hw4]
    exact heapLast e)
  have HON : Hid (Only (w.heap.size ≤ ·) w w4) := Lib.hid (by rw [hw4]; exact (((((Only.refl _ w).alloc (fun _ h => h) _).alloc (fun _ h => h) _).alloc (fun _ h => h) _).alloc (fun _ h => h) _))
  have hsz : w4.heap.size = w.heap.size + 1 + 1 + 1 + 1 := by rw [hw4]; simp
  have HLT : Hid (b4 ≠ bs ∧ b4 ≠ mb ∧ b4 < w4.heap.size ∧ w.heap.size ≤ b4 ∧ (∀ j, (FrM bs mb (.slice none 0 0) (.slice none 0 0) j ∨ w4.heap.size ≤ j) → w.heap.size ≤ j ∧ j ≠ b4)) := Lib.hid (by
    refine ⟨by omega, by omega, by omega, by omega, fun j hj => ?_⟩
    rcases hj with (hj | hj | hj | hj) | hj
    · omega
    · omega
    · cases hj
    · cases hj
    · omega)
  have HSP : Hid (Stab (FrM bs mb (.slice none 0 0) (.slice none 0 0)) w4 (fun W => SnV W (([], none) : Sn) (.slice none 0 0) (.slice none 0 0) false)) := Lib.hid fun W _ => ⟨Src.nil_ W, rfl, Src.nil_ W⟩
  have HVC := Lib.hid (visit_c HM 12 (Nat.le_refl _) w w4 w4.heap.size bs mb bl A0 n0 c0 l HBL.out HNM.out HFW.out HON.out ⟨[], [], 0⟩ (.slice none 0 0) (.slice none 0 0) hSU4 root HRT.out ⟨by omega, by omega, by omega⟩ none none 0 0 0 0 false ([], none) HSP.out bv HBV.out 1 rfl)
  rw [← hbv, ← hbs, ← hmb, ← hb4, ← hw4]
  clear hSU4 hsz hmb hb4 hbs hbv hw4
  have v0 : w4.cell? ⟨bv, 0, none⟩ = some (.func (.func 37) #[] #[.pointer (some ⟨bs, 0, none⟩), .pointer (some ⟨bv, 0, none⟩)]) := by rw [HBV.out.cell]; rfl
  obtain ⟨R, hR⟩ : ∃ R, R = visitP l 12 root (([], none) : Sn) ⟨[], [], 0⟩ := ⟨_, rfl⟩
  rw [← hR, show (((1 : Nat)) : Int) = 1 from rfl] at HVC
  have HRR : Hid (allP l root = R) := Lib.hid hR.symm
  clear hR
  rw [HRR.out]
  obtain ⟨er, S⟩ := R
  go_upto_region 7 with (go_at_call 37; (with_reducible refine HVC.out.mono ?_); rintro ee w5 ⟨rfl, ho, hx⟩; have HO5 := Lib.hid ho; have HX := Lib.hid hx; clear ho hx)
  have HO : Hid (Only (w.heap.size ≤ ·) w w5) := Lib.hid (HON.out.trans (HO5.out.mono fun j hj => (HLT.out.2.2.2.2 j hj).1))
  have HB5 := Lib.hid (HB4.out.only HO5.out (fun hj => (HLT.out.2.2.2.2 b4 hj).2 rfl))
  obtain ⟨q0, q1, q2⟩ := HB5.out.tri
  by_cases he : er = 0
  · subst he
    obtain ⟨vI, vR, ⟨_, _, _, hbs, ⟨C, hC, hD⟩, hRr, _⟩, h1, h2⟩ := HX.out rfl
    obtain ⟨IA, ic, rfl, _⟩ := raw_of_own hC
    obtain ⟨RA, rc, rfl, _⟩ := raw_of_own hRr
    have HI : Hid (∀ W, Only (· = b4) w5 W → Its W (.slice IA S.its.length ic) S.its ∧ Ins W (.slice RA S.refs.length rc) S.refs) := Lib.hid fun W hW => ⟨rw_of_own (own_on hC hW fun k hk e => own_ne hC HB5.out (by decide) (e ▸ hk)) rfl (hD.mono fun x cs h => it_other h.now HB5.out no_u8 hW), rw_of_own (own_on hRr hW fun k hk e => own_ne hRr HB5.out (by decide) (e ▸ hk)) rfl (den_ins W _)⟩
    have e2 : w5.cell? ⟨bs, 2, none⟩ = some (.slice IA S.its.length ic) := by rw [hbs.cell]; rfl
    have e3 : w5.cell? ⟨bs, 3, none⟩ = some (.slice RA S.refs.length rc) := by rw [hbs.cell]; rfl
    have e4 : w5.cell? ⟨bs, 4, none⟩ = some (.int .i64 ((S.dep : Int) : Int)) := by rw [hbs.cell]; rfl
    obtain ⟨f0, f1, f2⟩ := HB5.out.melt3
    clear hbs hC hD hRr h1 h2
    go_wp2_with (fail)
    have HF1 : Hid (Blk (((w5.setCell ⟨b4, 0, none⟩ (.slice IA S.its.length ic)).setCell ⟨b4, 1, none⟩ (.slice RA S.refs.length rc)).setCell ⟨b4, 2, none⟩ (.int .i64 ((S.dep : Int) : Int))) b4 70 [.slice IA S.its.length ic, .slice RA S.refs.length rc, .int .i64 ((S.dep : Int) : Int)]) := Lib.hid (((HB5.out.set_ 0 _).set_ 1 _).set_ 2 _)
    have HF2 : Hid (Only (w.heap.size ≤ ·) w (((w5.setCell ⟨b4, 0, none⟩ (.slice IA S.its.length ic)).setCell ⟨b4, 1, none⟩ (.slice RA S.refs.length rc)).setCell ⟨b4, 2, none⟩ (.int .i64 ((S.dep : Int) : Int)))) := Lib.hid (((HO.out.setCell (p := ⟨b4, 0, none⟩) HLT.out.2.2.2.1 _).setCell (p := ⟨b4, 1, none⟩) HLT.out.2.2.2.1 _).setCell (p := ⟨b4, 2, none⟩) HLT.out.2.2.2.1 _)
    refine bodyPost_ret (v := .tuple #[.agg #[.slice IA S.its.length ic, .slice RA S.refs.length rc, .int .i64 ((S.dep : Int) : Int)], .int .i64 0]) (results_cell2 rfl rfl rfl (load_whole HF1.out)) rfl ?_
    obtain ⟨hI, hR⟩ := HI.out _ ((((Only.refl (· = b4) w5).setCell (p := ⟨b4, 0, none⟩) rfl _).setCell (p := ⟨b4, 1, none⟩) rfl _).setCell (p := ⟨b4, 2, none⟩) rfl _)
    rw [HRR.out]
    exact ⟨⟨IA, _, ic, RA, _, rc, rfl, hI, hR⟩, HF2.out⟩
  · have HE : Hid (okS (er, S) = ⟨[], [], 0⟩) := Lib.hid (if_neg he)
    obtain ⟨f0, f1, f2⟩ := HB5.out.melt3
    go_wp2_with (fail)
    have HF1 : Hid (Blk (((w5.setCell ⟨b4, 0, none⟩ (.slice none 0 0)).setCell ⟨b4, 1, none⟩ (.slice none 0 0)).setCell ⟨b4, 2, none⟩ (.int .i64 0)) b4 70 [.slice none 0 0, .slice none 0 0, .int .i64 0]) := Lib.hid (((HB5.out.set_ 0 _).set_ 1 _).set_ 2 _)
    have HF2 : Hid (Only (w.heap.size ≤ ·) w (((w5.setCell ⟨b4, 0, none⟩ (.slice none 0 0)).setCell ⟨b4, 1, none⟩ (.slice none 0 0)).setCell ⟨b4, 2, none⟩ (.int .i64 0))) := Lib.hid (((HO.out.setCell (p := ⟨b4, 0, none⟩) HLT.out.2.2.2.1 _).setCell (p := ⟨b4, 1, none⟩) HLT.out.2.2.2.1 _).setCell (p := ⟨b4, 2, none⟩) HLT.out.2.2.2.1 _)
    refine bodyPost_ret (v := .tuple #[.agg #[.slice none 0 0, .slice none 0 0, .int .i64 0], .int .i64 er]) (results_cell2 rfl rfl rfl (load_whole HF1.out)) rfl ?_
    rw [HRR.out]
    exact ⟨⟨none, 0, 0, none, 0, 0, by rw [HE.out]; rfl, by rw [HE.out]; exact Rw.nil_ _, by rw [HE.out]; exact Rw.nil_ _⟩, HF2.out⟩
end Go.Proofs.Ytnjhpjpeeehagaa
