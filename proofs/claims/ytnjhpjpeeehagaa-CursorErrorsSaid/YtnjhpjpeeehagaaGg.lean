/-
  Ceh Cef Coe Cer: as one text.
-/
import Derived.Test.YtnjhpjpeeehagaaGf
/-
  A reader with a hole: of one number it tells an error.
-/
set_option linter.unusedVariables false
namespace Go.Proofs.Ytnjhpjpeeehagaa
open Go.RowKit

/-- The rows without those of a number. -/
def lessP (l : List Nm) (k : Int) : List Nm := l.filter fun x => decide (x.1 ≠ k)
theorem nodeP_less {k : Int} : ∀ (l : List Nm) (r : Int), nodeP (lessP l k) r = if r = k then none else nodeP l r
  | [], r => by simp [lessP, nodeP]
  | x :: l, r => by
    have ih := nodeP_less (k := k) l r
    by_cases c : x.1 = k
    · have e : lessP (x :: l) k = lessP l k := by simp [lessP, c]
      rw [e, ih]
      by_cases h : r = k
      · rw [if_pos h, if_pos h]
      · rw [if_neg h, if_neg h, nodeP, if_neg (fun h9 => h (by rw [← h9, c]))]
    · have e : lessP (x :: l) k = x :: lessP l k := by simp [lessP, c]
      rw [e, nodeP, nodeP, ih]
      by_cases h : r = k
      · have c2 : ¬ x.1 = r := fun h9 => c (h9.trans h)
        rw [if_neg c2, if_pos h, if_pos h]
      · rw [if_neg h, if_neg h]
theorem few_less {l : List Nm} {k : Int} (h : FewN l) : FewN (lessP l k) :=
  ⟨Nat.le_trans (List.length_filter_le _ _) h.1, fun x hx => h.2 x (List.mem_filter.1 hx).1⟩
theorem less_some {l : List Nm} {k r : Int} {x : Nd} (h : nodeP (lessP l k) r = some x) : nodeP l r = some x := by
  rw [nodeP_less] at h
  by_cases c : r = k
  · rw [if_pos c] at h
    cases h
  · rwa [if_neg c] at h
theorem vis_less {l : List Nm} {k root r : Int} (h : Vis (lessP l k) root r) : Vis l root r := by
  induction h with
  | root => exact Vis.root
  | kid _ h1 h2 h3 ih => exact Vis.kid ih (less_some h1) h2 h3
set_option maxRecDepth 100000 in
set_option maxHeartbeats 3200000 in
theorem hole_c (w : World) (bb bl : Nat) (k0 k1 : Int) (A : Option Addr) (n c : Nat) (r : Int) (l : List Nm) (hb2 : Blk w bb 49 [.int .i64 k0, .int .i64 k1]) (hb : Blk w bl 22 [.slice A n c]) (h : Nms w (.slice A n c) l) (hf : FewN l) :
    Calls Try.prog 21 #[.int .i64 r, .pointer (some ⟨bb, 0, none⟩), .pointer (some ⟨bl, 0, none⟩)] w (NodeSays w (nodeP (lessP l k1) r) (if r = k1 then 10 else 11)) := by
  obtain ⟨w1, hw1⟩ : ∃ w1, w1 = w.alloc (.cells #[.bool false, .slice none 0 0, .slice none 0 0] 55) := ⟨_, rfl⟩
  obtain ⟨b1, hb1⟩ : ∃ b1, b1 = w.heap.size := ⟨_, rfl⟩
  have HB : Hid (Blk w1 b1 55 [.bool false, .slice none 0 0, .slice none 0 0]) := Lib.hid (by rw [hw1, hb1]; exact Blk.new w _ [.bool false, .slice none 0 0, .slice none 0 0])
  have HO : Hid (Only (w.heap.size ≤ ·) w w1) := Lib.hid (by rw [hw1]; exact (Only.refl _ w).alloc (fun _ h => h) _)
  have HBN : Hid (w.heap.size ≤ b1) := Lib.hid (by omega)
  have HEQ := Lib.hid (And.intro hw1 hb1)
  have HL := Lib.hid (hb.later HO.out)
  have HNM := Lib.hid (h.later HO.out)
  have q1 := (hb2.later HO.out).cell 1
  have q0 := HL.out.cell 0
  have HF := Lib.hid hf
  clear hw1 hb1 hb hb2 h hf
  rw [nodeP_less]
  by_cases hrk : r = k1
  · subst hrk
    rw [if_pos rfl, if_pos rfl]
    go_enter Try.func21, Try.ntmps21
    go_upto_region 1 with (fail)
    rw [← HEQ.out.1, ← HEQ.out.2]
    obtain ⟨p0, p1, p2⟩ := HB.out.tri
    obtain ⟨f0, f1, f2⟩ := HB.out.melt3
    go_wp2_with (fail)
    have HF1 : Hid (Blk (((w1.setCell ⟨b1, 0, none⟩ (.bool false)).setCell ⟨b1, 1, none⟩ (.slice none 0 0)).setCell ⟨b1, 2, none⟩ (.slice none 0 0)) b1 55 [.bool false, .slice none 0 0, .slice none 0 0]) := Lib.hid (((HB.out.set_ 0 _).set_ 1 _).set_ 2 _)
    have HF2 : Hid (Only (w.heap.size ≤ ·) w (((w1.setCell ⟨b1, 0, none⟩ (.bool false)).setCell ⟨b1, 1, none⟩ (.slice none 0 0)).setCell ⟨b1, 2, none⟩ (.slice none 0 0))) := Lib.hid (((HO.out.setCell (p := ⟨b1, 0, none⟩) HBN.out _).setCell (p := ⟨b1, 1, none⟩) HBN.out _).setCell (p := ⟨b1, 2, none⟩) HBN.out _)
    refine bodyPost_ret (v := .tuple #[.agg #[.bool false, .slice none 0 0, .slice none 0 0], .int .i64 10]) (results_cell2 rfl rfl rfl (load_node (.inr rfl) HF1.out)) rfl ⟨⟨false, none, 0, 0, none, 0, 0, 10, rfl, rfl, ?_⟩, HF2.out⟩
    exact Nod.none_ _
  · rw [if_neg hrk, if_neg hrk]
    go_enter Try.func21, Try.ntmps21
    go_upto_region 1 with (fail)
    rw [← HEQ.out.1, ← HEQ.out.2]
    go_wp2_with (first
      | (go_at_call 12; (with_reducible refine (Source_c w1 A n c).mono ?_); rintro e w2 ⟨⟨bm, rfl, _, hbl⟩, ho⟩; have HBM := Lib.hid hbl; have HO2 := Lib.hid ho; clear hbl ho)
      | (go_at_call 26; (with_reducible refine (src_c w2 bm A n c r l HBM.out (HNM.out.later HO2.out) HF.out).mono ?_); rintro e w4 ⟨⟨f, P, p, pc, Q, q, qc, er, rfl, her, hnd⟩, ho⟩; have HER := Lib.hid her; have HND := Lib.hid hnd; (have HB4 := Lib.hid (HB.out.later (on_new HO2.out ho))); have HO4 := Lib.hid (on_new (on_new HO.out HO2.out) ho); obtain ⟨o0, o1, o2⟩ := HB4.out.tri; obtain ⟨f0, f1, f2⟩ := HB4.out.melt3; clear her hnd ho))
    have HF1 : Hid (Blk (((w4.setCell ⟨b1, 0, none⟩ (.bool f)).setCell ⟨b1, 1, none⟩ (.slice P p pc)).setCell ⟨b1, 2, none⟩ (.slice Q q qc)) b1 55 [.bool f, .slice P p pc, .slice Q q qc]) := Lib.hid (((HB4.out.set_ 0 _).set_ 1 _).set_ 2 _)
    have HF2 : Hid (Only (fun k => k = b1) w4 (((w4.setCell ⟨b1, 0, none⟩ (.bool f)).setCell ⟨b1, 1, none⟩ (.slice P p pc)).setCell ⟨b1, 2, none⟩ (.slice Q q qc))) := Lib.hid ((((Only.refl (fun k => k = b1) w4).setCell (p := ⟨b1, 0, none⟩) rfl _).setCell (p := ⟨b1, 1, none⟩) rfl _).setCell (p := ⟨b1, 2, none⟩) rfl _)
    refine bodyPost_ret (v := .tuple #[.agg #[.bool f, .slice P p pc, .slice Q q qc], .int .i64 er]) (results_cell2 rfl rfl rfl (load_node (.inr rfl) HF1.out)) rfl ⟨⟨f, P, p, pc, Q, q, qc, er, rfl, HER.out, HND.out.keep HB4.out HF2.out⟩, HO4.out.trans (HF2.out.mono fun k hk => by subst hk; exact HBN.out)⟩
theorem hole_rdr {Ex : Nat → Prop} {w0 : World} {bb bl : Nat} {k0 k1 : Int} {A : Option Addr} {n c : Nat} {l : List Nm} (hb2 : ∀ W, Lat Ex w0 W → Blk W bb 49 [.int .i64 k0, .int .i64 k1]) (hb : ∀ W, Lat Ex w0 W → Blk W bl 22 [.slice A n c]) (h : ∀ W, Lat Ex w0 W → Nms W (.slice A n c) l) (hf : FewN l) :
    Rdr Ex w0 21 #[.pointer (some ⟨bb, 0, none⟩), .pointer (some ⟨bl, 0, none⟩)] (lessP l k1) (fun r => if r = k1 then 10 else 11) :=
  ⟨fun _ _ => rfl, fun W hW r => hole_c W bb bl k0 k1 A n c r l (hb2 W hW) (hb W hW) (h W hW) hf, fun r => by
    by_cases h : r = k1
    · exact .inl (if_pos h)
    · exact .inr (if_neg h), few_less hf⟩
theorem mk_trH {Ex : Nat → Prop} {w0 : World} {bb bl : Nat} {k0 k1 : Int} {A : Option Addr} {n c : Nat} {l : List Nm} {root : Int} {S : Sv} (hb2 : ∀ W, Lat Ex w0 W → Blk W bb 49 [.int .i64 k0, .int .i64 k1]) (hb : ∀ W, Lat Ex w0 W → Blk W bl 22 [.slice A n c]) (h : ∀ W, Lat Ex w0 W → Nms W (.slice A n c) l) (hf : FewN l) (ha : allP l root = (0, S)) :
    Tr Ex w0 (.func (.func 21) #[] #[.pointer (some ⟨bb, 0, none⟩), .pointer (some ⟨bl, 0, none⟩)]) (fun lb r => downX (lessP l k1) (fun r => if r = k1 then 10 else 11) (chE lb) 12 r) (fun key => downX (lessP l k1) (fun r => if r = k1 then 10 else 11) (chP key) 12 root) True l root S.dep S.its := by
  have rd := hole_rdr hb2 hb h hf
  have hN : ∀ r, nodeP (lessP l k1) r = nodeP l r ∨ nodeP (lessP l k1) r = none := fun r => by
    rw [nodeP_less]
    by_cases h : r = k1
    · exact .inr (if_pos h)
    · exact .inl (if_neg h)
  have hE : ∀ r x, nodeP (lessP l k1) r = none → nodeP l r = some x → (if r = k1 then (10 : Int) else 11) = 10 := fun r x h1 h2 => by
    rw [nodeP_less] at h1
    by_cases h : r = k1
    · exact if_pos h
    · rw [if_neg h, h2] at h1
      cases h1
  obtain ⟨hh, refs, h1, _, h2, _, h3⟩ := all_sub ha
  rw [h2]
  exact ⟨fun W hW lb ref => Edge_o W Ex w0 _ _ _ ref _ rd hW lb, fun lb ref => downX_len 12 ref, fun W hW K kn kc key hk => Path_o W Ex w0 _ _ _ root _ rd hW K kn kc key hk (fun r x hv hx => h1.ok r x (vis_less hv) (less_some hx)),
    fun lb r hr => (down_hole hN hE 12 r hr).imp id fun e => ⟨trivial, e⟩, fun key hr => (down_hole hN hE 12 root hr).imp id fun e => ⟨trivial, e⟩, ⟨refs, h1⟩, h3, hf⟩
end Go.Proofs.Ytnjhpjpeeehagaa

/-
  First, and Next of a cursor that stands nowhere: the error that they tell is that of the way down.
-/
set_option linter.unusedVariables false
namespace Go.Proofs.Ytnjhpjpeeehagaa
open Go.RowKit

/-- Where a way leads: at an item, or beside a lone leaf's. -/
def LeadE (l : List Nm) (seg : List It) (side : Int) (p : List Sp) (n : Int) : Prop := InP p ∨
  ((∃ (r : Int) (x : Nd) (K : Int), p.getLast? = some (r, x, K) ∧ (K < 0 ∨ (x.its.length : Int) ≤ K)) ∧ asideP l side p = none ∧ ¬ (0 ≤ n ∧ n < seg.length))
/-- What a call tells whose error is known. -/
def GotE (ex : Int) (H : Prop) (l : List Nm) (root : Int) (h : Nat) (seg : List It) (S : Value) (D : Nat → Prop) (B cb : Nat) (F : Nat → Prop) (w : World) (n : Int) (e : Ending) (w' : World) : Prop :=
  ∃ P pn pc U un uc i2 i3 t er, er = ex ∧ e = .returned (.tuple #[.agg #[.slice P pn pc, .slice U un uc, .int .i64 i2, .int .i64 i3], .bool t, .int .i64 er]) ∧ Only F w w' ∧ Got H l root h seg S D B cb w.heap.size w' n P pn pc U un uc i2 i3 t er
section
variable {Ex : Nat → Prop} {w0 : World} {S : Value} {ed : Bool → Int → Int × List Sp} {sk : Bytes → Int × List Sp} {H : Prop} {l : List Nm} {root : Int} {h : Nat} {seg : List It}
theorem settle_tE (T : Tr Ex w0 S ed sk H l root h seg) (w : World) (h00 : Lat Ex w0 w) (cb : Nat) (V : Value) (hc : Blk w cb 75 [S, .int .i64 root, V]) (D : Nat → Prop) (hD : ∀ j, D j → j < w.heap.size) (hcD : D cb) (hcw0 : w0.heap.size ≤ cb) (g m c : Nat) (p : List Sp) (n : Int) (hp : PathO D w0.heap.size w (some ⟨g, 0, none⟩) m c p) (hP : PthT l h root ([], none) seg p n) (side : Int) (hs : side = 1 ∨ side = -1) (hL : LeadE l seg side p n) :
    Calls Try.prog 31 #[.pointer (some ⟨cb, 0, none⟩), .slice (some ⟨g, 0, none⟩) m c, .int .i64 0, .int .i64 side] w (GotE 0 H l root h seg S D w0.heap.size cb (fun j => j = cb ∨ j = g ∨ w.heap.size ≤ j) w n) := by
  have hm : m = p.length := by obtain ⟨C, h1, _⟩ := hp; exact h1
  have hlen := hP.len
  have hpos : 0 < p.length := List.length_pos_iff.2 hP.ne
  have hh := T.hh
  have hsml : ∀ {q : List Sp} {n' : Int} {r : Int} {x : Nd} {K : Int}, PthT l h root ([], none) seg q n' → q.getLast? = some (r, x, K) → Sml x := fun hq hl => (hq.br T.few _ _ (by rw [List.getLast?_eq_getElem?] at hl; exact hl)).1
  rcases hL with ⟨r, x, K, hl, hk⟩ | ⟨⟨r, x, K, hl, hk⟩, a1, a2⟩
  · obtain ⟨y, hy⟩ : ∃ y, x.its[K]? = some y := ⟨_, List.getElem?_eq_getElem hk⟩
    refine (settle_in w D w0.heap.size cb S V root hc hcD _ m c p hp (by omega) r x K hl y hy (hsml hP hl) side).mono ?_
    rintro e w' ⟨v, u, rfl, hv, hu, hc', hp', ho⟩
    obtain ⟨P, pn, pc, U, un, uc, rfl, rfl, hg⟩ := got_item (H := H) hc' hp' hP hl hy hv hu
    exact ⟨P, pn, pc, U, un, uc, _, _, _, _, rfl, rfl, ho.mono fun j hj => hj.imp id .inr, hg⟩
  · have hno := (aside_hole (side := side) T.hole p).1 a1
    refine (settle_far Ex w0 w w0.heap.size cb S ed T.edge T.elen root V h00 hc D hD hcD (Nat.le_refl _) hcw0 g m c p hp (by omega) (by omega) side hs (fun k s hk hkl => by
      have h1 := hP.br T.few k s hk
      exact ⟨(h1.2 hkl).1, (h1.2 hkl).2, h1.1⟩) r x K hl hk (fun q h1 => by rw [hno] at h1; cases h1)).mono ?_
    rintro e w' ⟨ho, ⟨er, h1, rfl, hc'⟩ | ⟨q, r', x', K', y, v, u, A, n', c', h1, _⟩⟩
    · rcases h1 with ⟨rfl, _⟩ | ⟨_, z, h1⟩
      · exact ⟨none, 0, 0, none, 0, 0, 0, 0, false, 0, rfl, rfl, ho, .inr ⟨.inl ⟨by omega, rfl⟩, rfl, rfl, rfl, rfl, rfl, rfl, rfl, rfl, rfl, hc'⟩⟩
      · rw [hno] at h1
        cases h1
    · rw [hno] at h1
      cases h1
theorem settle_edgeE (T : Tr Ex w0 S ed sk H l root h seg) (w : World) (h00 : Lat Ex w0 w) (cb : Nat) (V : Value) (hc : Blk w cb 75 [S, .int .i64 root, V]) (D : Nat → Prop) (hD : ∀ j, D j → j < w.heap.size) (hcD : D cb) (hcw0 : w0.heap.size ≤ cb) (A : Option Addr) (m c B7 : Nat) (er : Int) (p : List Sp) (q : Int × List Sp) (hq : (er, p) = q) (hpk : PathK B7 w A m c p) (hB7 : ∀ j, D j → j < B7) (h07 : w0.heap.size ≤ B7) (side n : Int) (hs : side = 1 ∨ side = -1) (hcase : (q.1 = 0 ∧ PthT l h root ([], none) seg q.2 n ∧ LeadE l seg side q.2 n) ∨ (H ∧ q = (10, []))) :
    Calls Try.prog 31 #[.pointer (some ⟨cb, 0, none⟩), .slice A m c, .int .i64 er, .int .i64 side] w (GotE q.1 H l root h seg S D w0.heap.size cb (fun j => j = cb ∨ (w0.heap.size ≤ j ∧ ¬ D j)) w n) := by
  subst hq
  have hsz := h00.size
  rcases hcase with ⟨h1, h2, h3⟩ | ⟨hH, h1⟩
  · simp only at h1 h2 h3
    subst h1
    have hp := hpk.d h07 hB7
    have hm : 0 < m := by
      obtain ⟨C, e, _⟩ := hp
      rw [e]
      exact List.length_pos_iff.2 h2.ne
    obtain ⟨g, rfl, h4, h5, h6⟩ := hp.at_ hm
    refine (settle_tE T w h00 cb V hc D hD hcD hcw0 g m c p n hp h2 side hs h3).mono ?_
    rintro e w' ⟨P, pn, pc, U, un, uc, i2, i3, t, er, hee, he, ho, hg⟩
    refine ⟨P, pn, pc, U, un, uc, i2, i3, t, er, hee, he, ho.mono fun j hj => ?_, hg⟩
    rcases hj with hj | hj | hj
    · exact .inl hj
    · subst hj
      exact .inr ⟨h4, h6⟩
    · exact .inr ⟨by omega, fun e => by have := hD j e; omega⟩
  · cases h1
    refine (settle_stop w cb S V root hc A m c 10 side (.inl (by decide))).mono ?_
    rintro e w' ⟨rfl, hc', ho⟩
    refine ⟨none, 0, 0, none, 0, 0, 0, 0, false, 10, rfl, rfl, ho.mono fun j hj => ?_, .inr ⟨.inr ⟨hH, rfl⟩, rfl, rfl, rfl, rfl, rfl, rfl, rfl, rfl, rfl, hc'⟩⟩
    rcases hj with hj | hj
    · exact .inl hj
    · exact .inr ⟨by omega, fun e => by have := hD j e; omega⟩
theorem edge_caseE (T : Tr Ex w0 S ed sk H l root h seg) (last : Bool) : ((ed last root).1 = 0 ∧ PthT l h root ([], none) seg (ed last root).2 ((if last = true then seg.length - 1 else 0 : Nat) : Int) ∧ LeadE l seg (sideE last) (ed last root).2 ((if last = true then seg.length - 1 else 0 : Nat) : Int)) ∨ (H ∧ ed last root = (10, [])) := by
  obtain ⟨refs, hT⟩ := T.sub
  obtain ⟨path, h1, h2⟩ := SubT.edge_at last hT T.hh
  rcases T.hole last root (by rw [h1]) with h3 | h3
  · rw [h3, h1]
    refine .inl ⟨rfl, h2, ?_⟩
    by_cases hs : seg = []
    · subst hs
      obtain ⟨q, x, h4, h5⟩ := down_end 12 root (show (downP l (chE last) 12 root).1 = 0 by rw [h1])
      rw [h1] at h4
      simp only at h4
      have hl : ∀ (y : Nd), path = [(root, y, (chE last y : Int))] → y.its = [] → LeadE l [] (sideE last) path ((if last = true then ([] : List It).length - 1 else 0 : Nat) : Int) := fun y e1 e2 => by
        refine .inr ⟨⟨root, y, _, by rw [e1]; rfl, .inr (by rw [e2]; simp)⟩, by rw [e1]; rfl, by simp⟩
      cases h with
      | zero => exact hT.elim
      | succ h =>
        obtain ⟨y, hy, ⟨e0, e1, e2, e3, e4, e5, _⟩ | ⟨e1, e2, e3, e4, rs, e5, _⟩⟩ := hT
        · rw [down_leaf hy e1] at h1
          refine hl y ?_ e5.symm
          have := congrArg Prod.snd h1
          exact this.symm
        · exfalso
          obtain ⟨segs, hK⟩ := kids_ks e5
          obtain ⟨s, hs⟩ : ∃ s, segs[0]? = some s := ⟨_, List.getElem?_eq_getElem (by rw [hK.1]; omega)⟩
          obtain ⟨r, hr⟩ := hK.2.2 0 s hs
          have hne := SubT.some_ hr
          have hle := flats_len hs
          rw [← hK.2.1] at hle
          exact hne (by simpa using hle)
    · have hin := SubT.edge_inp last hT hs T.hh
      rw [h1] at hin
      exact .inl hin
  · exact .inr h3
set_option maxRecDepth 100000 in
set_option maxHeartbeats 6400000 in
theorem First_e (T : Tr Ex w0 S ed sk H l root h seg) (w : World) (h00 : Lat Ex w0 w) (cb : Nat) (D : Nat → Prop) (hD : ∀ j, D j → j < w.heap.size) (hcD : D cb) (hcw0 : w0.heap.size ≤ cb) (V : Value) (hc : Blk w cb 75 [S, .int .i64 root, V]) :
    Calls Try.prog 16 #[.pointer (some ⟨cb, 0, none⟩)] w (GotE (ed false root).1 H l root h seg S D w0.heap.size cb (fun j => j = cb ∨ (w0.heap.size ≤ j ∧ ¬ D j)) w 0) := by
  obtain ⟨w1, hw1⟩ : ∃ W0, W0 = w.alloc (.cells #[.slice none 0 0, .slice none 0 0, .int .i64 0, .int .i64 0] 39) := ⟨_, rfl⟩
  have HO1 : Hid (Only (w.heap.size ≤ ·) w w1) := Lib.hid (by rw [hw1]; exact (Only.refl _ w).alloc (fun _ h => h) _)
  have HBX : Hid (Blk w1 w.heap.size 39 [.slice none 0 0, .slice none 0 0, .int .i64 0, .int .i64 0]) := Lib.hid (by rw [hw1]; exact Blk.new w _ _)
  have HD1 : Hid (∀ j, (D j ∨ j = w.heap.size) → j < w1.heap.size) := Lib.hid (fun j hj => by have h1 := HBX.out.lt; rcases hj with hj | hj; exact Nat.lt_of_lt_of_le (hD j hj) HO1.out.size; omega)
  have H01 := Lib.hid (lat_new h00 HO1.out)
  have HCN : Hid (cb ≠ w.heap.size) := Lib.hid (fun e => by have h1 := hD cb hcD; omega)
  have HHD := Lib.hid (And.intro hD (And.intro hcD (And.intro hcw0 h00.size)))
  have HE1 := Lib.hid hw1
  clear hw1
  have hcase := edge_caseE T false
  have HED : Hid (∀ W, Lat Ex w0 W → Calls Try.prog 30 #[S, .int .i64 root, .bool false] W (DownOwn W (ed false root))) := Lib.hid (fun W hW => T.edge W hW false root)
  have HCA := Lib.hid hcase
  have HC1 := Lib.hid (hc.later HO1.out)
  have HST : Hid (∀ (W : World) (A : Option Addr) (m c B7 : Nat) (er : Int) (p : List Sp), Only (w1.heap.size ≤ ·) w1 W → (er, p) = ed false root → PathK B7 W A m c p → w1.heap.size ≤ B7 → Calls Try.prog 31 #[.pointer (some ⟨cb, 0, none⟩), .slice A m c, .int .i64 er, .int .i64 1] W (GotE (ed false root).1 H l root h seg S (fun j => D j ∨ j = w.heap.size) w0.heap.size cb (fun j => j = cb ∨ (w0.heap.size ≤ j ∧ ¬ (D j ∨ j = w.heap.size))) W 0)) := Lib.hid (fun W A m c B7 er p hW h1 h2 h3 => settle_edgeE T W (lat_new H01.out hW) cb V (HC1.out.later hW) _ (fun j hj => Nat.lt_of_lt_of_le (HD1.out j hj) hW.size) (.inl hcD) hcw0 A m c B7 er p _ h1 h2 (fun j hj => Nat.lt_of_lt_of_le (HD1.out j hj) h3) (Nat.le_trans H01.out.size h3) 1 _ (.inl rfl) (by
    have h4 := HCA.out
    first | exact h4 | simpa [sideE] using h4))
  have KS : Hid (∀ W : World, Only (w1.heap.size ≤ ·) w1 W → (fun W : World => W.cell? ⟨cb, 0, none⟩ = some S ∧ W.cell? ⟨cb, 1, none⟩ = some (.int .i64 root)) W) := Lib.hid (fun W hW => ⟨(HC1.out.later hW).cell 0, (HC1.out.later hW).cell 1⟩)
  have HXD : Hid (Only (w1.heap.size ≤ ·) w1 w1.drew) := Lib.hid (Only.refl _ w1).drew
  have HSX := Lib.hid (KS.out _ HXD.out)
  clear hcase hc T h00 hD hcD hcw0
  go_enter Try.func16, Try.ntmps16
  go_upto_region 1 with (fail)
  rw [← HE1.out]
  clear HE1
  refine wp_region_list (B := [false, false, false, false, false, false, false, false, false, false, false, false, false, false]) (S := (fun W : World => W.cell? ⟨cb, 0, none⟩ = some S ∧ W.cell? ⟨cb, 1, none⟩ = some (.int .i64 root))) (by kernel_rfl) (by kernel_rfl) (by kernel_rfl) HSX.out (fun hsel hHeld => ?_)
  generalize hwz : World.drew _ = wd at HSX HXD hHeld ⊢
  clear hwz
  have H0D := Lib.hid (lat_new H01.out HXD.out)
  refine oneA 0 8 hsel (h := ?_)
  simp only [Act.put, List.setIfInBounds_toArray, List.set_cons_zero, List.set_cons_succ]
  refine oneA 1 9 hsel (h := ?_)
  simp only [Act.put, List.setIfInBounds_toArray, List.set_cons_zero, List.set_cons_succ]
  refine oneA 2 10 hsel (h := ?_)
  simp only [Act.put, List.setIfInBounds_toArray, List.set_cons_zero, List.set_cons_succ]
  refine oneA 3 11 hsel (h := ?_)
  simp only [Act.put, List.setIfInBounds_toArray, List.set_cons_zero, List.set_cons_succ]
  refine oneA 4 12 hsel (h := ?_)
  simp only [Act.put, List.setIfInBounds_toArray, List.set_cons_zero, List.set_cons_succ]
  refine oneA 5 13 hsel (h := ?_)
  simp only [Act.put, List.setIfInBounds_toArray, List.set_cons_zero, List.set_cons_succ]
  refine oneA 6 14 hsel (h := ?_)
  simp only [Act.put, List.setIfInBounds_toArray, List.set_cons_zero, List.set_cons_succ]
  refine oneA 7 15 hsel (h := ?_)
  simp only [Act.put, List.setIfInBounds_toArray, List.set_cons_zero, List.set_cons_succ]
  refine wpAnyL_ready (rs := [8]) (by kernel_rfl) (by kernel_rfl) (by simp) ?_
  refine AllReadyL.cons (o := ?_) ?_ (fun K hK => ?_) AllReadyL.nil
  case refine_2 => (simp only [List.getElem?_cons_succ, List.getElem?_cons_zero]; rfl)
  go_simp
  (go_at_call 30; (with_reducible refine (HED.out _ H0D.out).mono ?_); rintro e w2 ⟨⟨A7, n7, c7, er7, p7, B7, C7, rfl, he7, hl7, hB7, hown7, hden7⟩, ho⟩; have HE7 := Lib.hid he7; have HL7 := Lib.hid (And.intro hl7 (And.intro (Nat.le_trans HXD.out.size hB7) (And.intro hown7 hden7))); have HX2 := Lib.hid (on_new HXD.out ho); clear he7 hl7 hB7 hown7 hden7 ho)
  go_wp2_with (fail)
  clear hHeld
  refine hK.out _ _ (KS.out _ HX2.out) (fun hHeld => ?_)
  clear hK K
  try simp only [List.set_cons_zero, List.set_cons_succ]
  refine oneA 9 7 hsel (h := ?_)
  simp only [Act.put, List.setIfInBounds_toArray, List.set_cons_zero, List.set_cons_succ]
  refine oneA 10 17 hsel (h := ?_)
  simp only [Act.put, List.setIfInBounds_toArray, List.set_cons_zero, List.set_cons_succ]
  refine oneA 11 18 hsel (h := ?_)
  simp only [Act.put, List.setIfInBounds_toArray, List.set_cons_zero, List.set_cons_succ]
  refine oneA 12 5 hsel (h := ?_)
  simp only [Act.put, List.setIfInBounds_toArray, List.set_cons_zero, List.set_cons_succ]
  refine oneA 13 6 hsel (h := ?_)
  simp only [Act.put, List.setIfInBounds_toArray, List.set_cons_zero, List.set_cons_succ]
  refine wpAnyL_done (by kernel_rfl) (by kernel_rfl) ?_ _
  clear hsel hHeld
  have HPK : Hid (PathK B7 w2 A7 n7 c7 p7) := Lib.hid ⟨C7, HL7.out.1, HL7.out.2.2.1, HL7.out.2.2.2⟩
  go_wp2_with (go_at_call 31; (with_reducible refine (HST.out w2 A7 n7 c7 B7 er7 p7 HX2.out HE7.out HPK.out HL7.out.2.1).mono ?_); rintro e w3 ⟨P, pn, pc, U, un, uc, i2, i3, t, er, hee, rfl, ho3, hg3⟩; have HEE := Lib.hid hee; clear hee; have HOC3 := Lib.hid ho3; have HG := Lib.hid hg3; clear ho3 hg3; (have HBX3 : Hid (Blk w3 w.heap.size 39 [.slice none 0 0, .slice none 0 0, .int .i64 0, .int .i64 0]) := Lib.hid ((HBX.out.later HX2.out).only HOC3.out (fun e => by rcases e with e | e; exact HCN.out e.symm; exact e.2 (.inr rfl)))); (obtain ⟨q0, q1, q2, q3⟩ := HBX3.out.four); have f0 := HBX3.out.frozen 0; have f1 := HBX3.out.frozen 1; have f2 := HBX3.out.frozen 2; have f3 := HBX3.out.frozen 3)
  have HOC : Hid (Only (fun j => j = cb ∨ (w0.heap.size ≤ j ∧ ¬ D j)) w w3) := Lib.hid (((HO1.out.mono fun j hj => .inr ⟨Nat.le_trans HHD.out.2.2.2 hj, fun e => Nat.not_le.2 (HHD.out.1 j e) hj⟩).trans (HX2.out.mono fun j hj => .inr ⟨Nat.le_trans HHD.out.2.2.2 (Nat.le_trans HO1.out.size hj), fun e => Nat.not_le.2 (HHD.out.1 j e) (Nat.le_trans HO1.out.size hj)⟩)).trans (HOC3.out.mono fun j hj => hj.imp id fun hj => ⟨hj.1, fun e => hj.2 (.inl e)⟩))
  have hk := it_set (a' := .slice P pn pc) (b' := .slice U un uc) (c' := .int .i64 i2) (d' := .int .i64 i3) HBX3.out
  refine bodyPost_ret (results_cell3 rfl rfl rfl rfl (load_item hk.1)) rfl ?_
  have hbw := HO1.out.size
  have hsz := HHD.out.2.2.2
  have hb3 := HX2.out.size
  refine ⟨P, pn, pc, U, un, uc, i2, i3, t, er, HEE.out, rfl, HOC.out.trans (hk.2.mono fun j hj => .inr ⟨by have h2 : j = w.heap.size := hj; omega, fun e => by have h1 := HHD.out.1 j e; have h2 : j = w.heap.size := hj; omega⟩), HG.out.step (hk.2.mono fun j hj => .inl ⟨.inr hj, fun e => HCN.out (by rw [← e]; exact hj)⟩) (fun j hj => .inl (.inl hj)) (fun j hj => Nat.lt_of_lt_of_le (HD1.out j hj) hb3) (Nat.le_trans hbw hb3)⟩
set_option maxRecDepth 100000 in
set_option maxHeartbeats 6400000 in
theorem Next_e (T : Tr Ex w0 S ed sk H l root h seg) (w : World) (h00 : Lat Ex w0 w) (cb : Nat) (D : Nat → Prop) (hD : ∀ j, D j → j < w.heap.size) (hcD : D cb) (hcw0 : w0.heap.size ≤ cb) (hc : CurAt l root h seg S D w0.heap.size cb w none) :
    Calls Try.prog 17 #[.pointer (some ⟨cb, 0, none⟩)] w (GotE (ed false root).1 H l root h seg S D w0.heap.size cb (fun j => j = cb ∨ (w0.heap.size ≤ j ∧ ¬ D j)) w 0) := by
  obtain ⟨w1, hw1⟩ : ∃ W0, W0 = w.alloc (.cells #[.slice none 0 0, .slice none 0 0, .int .i64 0, .int .i64 0] 39) := ⟨_, rfl⟩
  obtain ⟨bx, hbx⟩ : ∃ z, z = w.heap.size := ⟨_, rfl⟩
  have HBW : Hid (w.heap.size ≤ bx) := Lib.hid (by omega)
  have HO1 : Hid (Only (w.heap.size ≤ ·) w w1) := Lib.hid (by rw [hw1]; exact (Only.refl _ w).alloc (fun _ h => h) _)
  have HBX : Hid (Blk w1 bx 39 [.slice none 0 0, .slice none 0 0, .int .i64 0, .int .i64 0]) := Lib.hid (by rw [hw1, hbx]; exact Blk.new w _ _)
  have HD1 : Hid (∀ j, (D j ∨ j = bx) → j < w1.heap.size) := Lib.hid (fun j hj => by have h1 := HBX.out.lt; rcases hj with hj | hj; exact Nat.lt_of_lt_of_le (hD j hj) HO1.out.size; omega)
  have H01 := Lib.hid (lat_new h00 HO1.out)
  have HCN : Hid (cb ≠ bx) := Lib.hid (fun e => by have h1 := hD cb hcD; have h2 := HBW.out; omega)
  have HHD := Lib.hid (And.intro hD (And.intro hcD (And.intro hcw0 h00.size)))
  have HE1 := Lib.hid (And.intro hw1 hbx)
  clear hw1 hbx
  have HC1 : Hid (CurAt l root h seg S (fun j => D j ∨ j = bx) w0.heap.size cb w1 none) := Lib.hid (hc.step (HO1.out.mono fun j hj => .inr hj) fun j hj => hj.imp id fun hj => by have h1 := HBW.out; omega)
  have hlt1 : ∀ j, (D j ∨ j = bx) → j < w1.heap.size := HD1.out
  have HCA := Lib.hid (First_e T w1 H01.out cb (fun j => D j ∨ j = bx) hlt1 (.inl hcD) hcw0 _ HC1.out)
  have k2 : w1.cell? ⟨cb, 2, none⟩ = some (.slice none 0 0) := HC1.out.cell 2
  clear hc T h00 hD hcD hcw0 hlt1
  go_enter Try.func17, Try.ntmps17
  go_upto_region 1 with (fail)
  rw [← HE1.out.1, ← HE1.out.2]
  clear HE1
  go_wp2_with (go_at_call 16; (with_reducible refine (HCA.out).mono ?_); rintro e w3 ⟨P, pn, pc, U, un, uc, i2, i3, t, er, hee, rfl, ho3, hg3⟩; have HEE := Lib.hid hee; clear hee; have HOC3 := Lib.hid ho3; have HG := Lib.hid hg3; clear ho3 hg3; (have HBX3 : Hid (Blk w3 bx 39 [.slice none 0 0, .slice none 0 0, .int .i64 0, .int .i64 0]) := Lib.hid (HBX.out.only HOC3.out (fun e => by rcases e with e | e; exact HCN.out e.symm; exact e.2 (.inr rfl)))); (obtain ⟨q0, q1, q2, q3⟩ := HBX3.out.four); have f0 := HBX3.out.frozen 0; have f1 := HBX3.out.frozen 1; have f2 := HBX3.out.frozen 2; have f3 := HBX3.out.frozen 3)
  have hk := it_set (a' := .slice P pn pc) (b' := .slice U un uc) (c' := .int .i64 i2) (d' := .int .i64 i3) HBX3.out
  refine bodyPost_ret (results_cell3 rfl rfl rfl rfl (load_item hk.1)) rfl ?_
  exact ⟨P, pn, pc, U, un, uc, i2, i3, t, er, HEE.out, rfl, (got_end HHD.out.1 HHD.out.2.2.2 HBW.out HO1.out HCN.out HD1.out HOC3.out HG.out hk.2).1, (got_end HHD.out.1 HHD.out.2.2.2 HBW.out HO1.out HCN.out HD1.out HOC3.out HG.out hk.2).2⟩
end
end Go.Proofs.Ytnjhpjpeeehagaa

/-
  An argument opened: two numbers.
-/
set_option linter.unusedVariables false
namespace Go.Proofs.Ytnjhpjpeeehagaa
open Go.ChangeShapes Go.WideShapes Go.ChangeAt Go.RowKit Go.Deep

theorem okWide_array {P : Program} {w : World} {r : Reach} {base : Nat} {t : TypeId} {v : Value} {n : Nat} {e : TypeId} (ht : P.underlying t = some (.array n e)) (h : Value.okWide P w r base t v) : ∃ cs, v = .agg cs ∧ cs.size = P.cellsOf t := by
  simp only [Value.okWide, ht] at h
  obtain ⟨cs, h1, h2, _⟩ := h
  exact ⟨cs, h1, h2⟩
section
variable {H : Type} {enc : TypeId × Value → H} {w : World}
set_option maxRecDepth 100000 in
theorem twoI_arg {base : Nat} {v : Value} {d : DataW H} {p : List MemPlace} (hv : Value.okWide Try.prog w .any base 49 v) (h : DataW.Trod enc Try.prog w 0 (fun _ => true) true 49 v d p) :
    ∃ k0 k1 : Int, v = .agg #[.int .i64 k0, .int .i64 k1] ∧ (-9223372036854775808 ≤ k0 ∧ k0 ≤ 9223372036854775807) := by
  obtain ⟨fuel, hf⟩ := h
  obtain ⟨cs, rfl, hsz⟩ := okWide_array Try.underlying49 hv
  rw [show Try.prog.cellsOf 49 = 2 by kernel_rfl] at hsz
  obtain ⟨ys, n', _, _, hcl, hyl, hg⟩ := DataW.trod_array Try.underlying49 (show DataW.trod enc Try.prog w 0 (fun _ => true) true fuel 49 cs.toList = some (d, p) by simpa [Value.cells] using hf)
  rw [show Try.prog.cellsOf 3 = 1 by kernel_rfl] at hg
  have hl : cs.toList.length = 2 := by simpa using hsz
  have each : ∀ i, i < 2 → ∃ b : Int, (cs.toList.drop (i * 1)).take 1 = [.int .i64 b] ∧ (-9223372036854775808 ≤ b ∧ b ≤ 9223372036854775807) := fun i hi => by
    obtain ⟨y, hy⟩ : ∃ y, ys[i]? = some y := ⟨_, List.getElem?_eq_getElem (by omega)⟩
    exact int_open ((hg i hi).trans hy)
  obtain ⟨a0, e0, h0⟩ := each 0 (by decide)
  obtain ⟨a1, e1, _⟩ := each 1 (by decide)
  refine ⟨a0, a1, ?_, h0⟩
  have s : cs.toList = (cs.toList.drop (0 * 1)).take 1 ++ (cs.toList.drop (1 * 1)).take 1 := by
    generalize cs.toList = l at hl
    match l, hl with
    | [_, _], _ => rfl
  rw [e0, e1] at s
  congr 1
  exact Array.toList_inj.1 s
end
end Go.Proofs.Ytnjhpjpeeehagaa

/-
  CursorErrors.
-/
set_option linter.unusedVariables false
namespace Go.Proofs.Ytnjhpjpeeehagaa
open Go.RowKit

attribute [local go_sem] Oper.semAt_some
def edH (l : List Nm) (k1 : Int) (lb : Bool) (r : Int) : Int × List Sp := downX (lessP l k1) (fun r => if r = k1 then 10 else 11) (chE lb) 12 r
def skH (l : List Nm) (k1 root : Int) (key : Bytes) : Int × List Sp := downX (lessP l k1) (fun r => if r = k1 then 10 else 11) (chP key) 12 root
theorem Got.ex {H : Prop} {l : List Nm} {root : Int} {h : Nat} {seg : List It} {S : Value} {D : Nat → Prop} {B cb b : Nat} {w : World} {n : Int} {P U : Option Addr} {pn pc un uc : Nat} {i2 i3 er : Int} {t : Bool} (hg : Got H l root h seg S D B cb b w n P pn pc U un uc i2 i3 t er) : ∃ o, CurAt l root h seg S D B cb w o := by
  rcases hg with ⟨y, _, _, _, _, _, _, _, _, a9⟩ | ⟨_, _, _, _, _, _, _, _, _, _, a11⟩
  · exact ⟨_, a9.step (Only.refl _ w) fun j hj => .inl (.inl hj)⟩
  · exact ⟨_, a11⟩
set_option maxRecDepth 100000 in
set_option maxHeartbeats 51200000 in
theorem errors_walk (HM : MeetC) (w : World) (A : Option Addr) (n c : Nat) (root k1 : Int) (l : List Nm) (h : Nms w (.slice A n c) l) (hok : ∀ x ∈ l, OkN x) (hrt : -9223372036854775808 ≤ root ∧ root ≤ 9223372036854775807) (B : Option Addr) (m d : Nat) (s : List Opp) (hs : Ops w (.slice B m d) s) :
    Calls Try.prog 6 #[.slice A n c, .agg #[.int .i64 root, .int .i64 k1], .slice B m d] w (Told w (.bool true)) := by
  have hmf : ∀ (fn : Fn) (first cap : Array Value) (w : World), (Instr.makeFunc fn first cap).run Try.prog w = .ok (.func fn first cap) w := fun _ _ _ _ => rfl
  obtain ⟨wb, hwb⟩ : ∃ W, W = (w.alloc (.cells #[.slice A n c] 22)).alloc (.cells #[.int .i64 root, .int .i64 k1] 49) := ⟨_, rfl⟩
  obtain ⟨bl, hbl⟩ : ∃ z, z = w.heap.size := ⟨_, rfl⟩
  obtain ⟨bb, hbb⟩ : ∃ z, z = w.heap.size + 1 := ⟨_, rfl⟩
  have HB0 : Hid (Only (w.heap.size ≤ ·) w wb) := Lib.hid (by rw [hwb]; exact ((Only.refl _ w).alloc (fun _ h => h) _).alloc (fun _ h => h) _)
  have HBL : Hid (Blk wb bl 22 [.slice A n c]) := Lib.hid (by rw [hwb, hbl]; exact (Blk.new w _ [.slice A n c]).alloc _)
  have HBB : Hid (Blk wb bb 49 [.int .i64 root, .int .i64 k1]) := Lib.hid (by
    have h9 := Blk.new (w.alloc (.cells #[.slice A n c] 22)) 49 [.int .i64 root, .int .i64 k1]
    rw [World.size_alloc] at h9
    rw [hwb, hbb]
    exact h9)
  have HE0 := Lib.hid (And.intro hwb (And.intro hbl hbb))
  have HN := Lib.hid (Rw.later h HB0.out)
  have HS := Lib.hid (Rw.later hs HB0.out)
  have hmc := hs.cap
  have HOK := Lib.hid hok
  have HRT : Hid ((Lit.int .i64 root).wf = true) := Lib.hid (by simp [Lit.wf, IntKind.min, IntKind.max, IntKind.signed, IntKind.bits]; omega)
  have HFW := Lib.hid (few2_w wb A n c l HN.out B m d s HS.out (okN_len hok))
  obtain ⟨fb, hfb⟩ : ∃ b, b = few2B l s := ⟨_, rfl⟩
  rw [← hfb] at HFW
  have HFB := Lib.hid hfb
  have q9 : wb.cell? ⟨bl, 0, none⟩ = some (.slice A n c) := HBL.out.cell 0
  clear hfb h hok hrt hs hwb hbl hbb
  cases fb with
  | false =>
    refine (callsIn_wide (n := 3)).1 ?_
    refine callsIn_of_wp_marks Try.func6 rfl trivial ?_ rfl
    refine wpIn_wide.2 ?_
    simp only [Try.ntmps6, List.size_toArray, List.length_cons, List.length_nil, Nat.reduceAdd, Nat.reduceSub, Array.replicate_succ, Array.replicate_zero, List.push_toArray, List.append_toArray, List.nil_append, List.cons_append]
    go_upto_region 1 with (fail)
    rw [← HE0.out.1]
    rw [show w.heap.size + 1 = bb from HE0.out.2.2.symm]
    rw [show w.heap.size = bl from HE0.out.2.1.symm]
    go_wp2_with (first
      | (go_at_call 8; (with_reducible refine HFW.out.mono ?_); rintro e w1 ⟨rfl, ho⟩; have HO1 := Lib.hid ho; (have q2 : w1.cell? ⟨bl, 0, none⟩ = some (.slice A n c) := (HBL.out.later ho).cell 0); (have q3 : w1.cell? ⟨bb, 0, none⟩ = some (.int .i64 root) := (HBB.out.later ho).cell 0); clear ho)
      | (go_at_call 9; (with_reducible refine (calive_c w1).mono ?_); rintro e w9 ⟨rfl, ho⟩; have HOF := Lib.hid (on_new (on_new HB0.out HO1.out) ho); clear ho))
    exact ⟨_, results_tmp rfl _ _ _, rfl, HOF.out⟩
  | true =>
    have HFF := Lib.hid (few2_few HFB.out.symm)
    have HF := Lib.hid (few_FewN HOK.out HFF.out.1)
    obtain ⟨seg, hseg⟩ : ∃ z, z = (okS (allP l root)).its := ⟨_, rfl⟩
    obtain ⟨ok, hokk⟩ : ∃ b, b = decide ((allP l root).1 = 0) := ⟨_, rfl⟩
    have HSL : Hid (seg.length ≤ 200) := Lib.hid (by rw [hseg]; exact Nat.le_trans okS_sz HFF.out.2.1)
    have HIT : Hid (∀ W, Only (wb.heap.size ≤ ·) wb W → Calls Try.prog 10 #[.slice A n c, .int .i64 root] W (ItemsSays W seg ok)) := Lib.hid (fun W hW => items_c HM W A n c root l (Rw.later HN.out hW) HF.out HRT.out seg hseg.symm (by have h1 := HSL.out; omega) ok hokk)
    have HSEG := Lib.hid (And.intro hseg hokk)
    clear hseg hokk
    cases ok with
    | false =>
      refine (callsIn_wide (n := 3)).1 ?_
      refine callsIn_of_wp_marks Try.func6 rfl trivial ?_ rfl
      refine wpIn_wide.2 ?_
      simp only [Try.ntmps6, List.size_toArray, List.length_cons, List.length_nil, Nat.reduceAdd, Nat.reduceSub, Array.replicate_succ, Array.replicate_zero, List.push_toArray, List.append_toArray, List.nil_append, List.cons_append]
      go_upto_region 1 with (fail)
      rw [← HE0.out.1]
      rw [show w.heap.size + 1 = bb from HE0.out.2.2.symm]
      rw [show w.heap.size = bl from HE0.out.2.1.symm]
      go_wp2_with (first
        | (go_at_call 8; (with_reducible refine HFW.out.mono ?_); rintro e w1 ⟨rfl, ho⟩; have HO1 := Lib.hid ho; (have q2 : w1.cell? ⟨bl, 0, none⟩ = some (.slice A n c) := (HBL.out.later ho).cell 0); (have q3 : w1.cell? ⟨bb, 0, none⟩ = some (.int .i64 root) := (HBB.out.later ho).cell 0); clear ho)
        | (go_at_call 10; (with_reducible refine (HIT.out w1 HO1.out).mono ?_); rintro e w3 ⟨⟨IA, ic, rfl, hi⟩, ho⟩; have HO3 := Lib.hid (on_new HO1.out ho); (have q4 : w3.cell? ⟨bb, 0, none⟩ = some (.int .i64 root) := (HBB.out.later HO3.out).cell 0); clear hi ho)
        | (go_at_call 9; (with_reducible refine (calive_c w3).mono ?_); rintro e w9 ⟨rfl, ho⟩; have HOF := Lib.hid (on_new (on_new HB0.out HO3.out) ho); clear ho))
      exact ⟨_, results_tmp rfl _ _ _, rfl, HOF.out⟩
    | true =>
      obtain ⟨S9, hS9⟩ : ∃ S, allP l root = (0, S) := ⟨(allP l root).2, Prod.ext (of_decide_eq_true HSEG.out.2.symm) rfl⟩
      have hsg : seg = S9.its := by rw [HSEG.out.1, hS9]; rfl
      obtain ⟨hd, hhd⟩ : ∃ z, z = S9.dep := ⟨_, rfl⟩
      refine (callsIn_wide (n := 3)).1 ?_
      refine callsIn_of_wp_marks Try.func6 rfl trivial ?_ rfl
      refine wpIn_wide.2 ?_
      simp only [Try.ntmps6, List.size_toArray, List.length_cons, List.length_nil, Nat.reduceAdd, Nat.reduceSub, Array.replicate_succ, Array.replicate_zero, List.push_toArray, List.append_toArray, List.nil_append, List.cons_append]
      go_upto_region 1 with (fail)
      rw [← HE0.out.1]
      rw [show w.heap.size + 1 = bb from HE0.out.2.2.symm]
      rw [show w.heap.size = bl from HE0.out.2.1.symm]
      go_upto_region 8 with (first
        | (go_at_call 8; (with_reducible refine HFW.out.mono ?_); rintro e w1 ⟨rfl, ho⟩; have HO1 := Lib.hid ho; (have q2 : w1.cell? ⟨bl, 0, none⟩ = some (.slice A n c) := (HBL.out.later ho).cell 0); (have q3 : w1.cell? ⟨bb, 0, none⟩ = some (.int .i64 root) := (HBB.out.later ho).cell 0); clear ho)
        | (go_at_call 10; (with_reducible refine (HIT.out w1 HO1.out).mono ?_); rintro e w3 ⟨⟨IA, ic, rfl, hi⟩, ho⟩; have HO3 := Lib.hid (on_new HO1.out ho); (have q4 : w3.cell? ⟨bb, 0, none⟩ = some (.int .i64 root) := (HBB.out.later HO3.out).cell 0); clear hi ho)
        | (go_at_call 11; (with_reducible refine (CrNew_c w3 21 _ root).mono ?_); rintro e w4 ⟨rfl, hc4, ho⟩; have HC4 := Lib.hid hc4; have HX4 := Lib.hid ho; clear hc4 ho))
      have HTR : Hid (∀ (Ex : Nat → Prop) (w0 : World), (∀ W, Lat Ex w0 W → Only (w3.heap.size ≤ ·) w3 W) → Tr Ex w0 (.func (.func 21) #[] #[.pointer (some ⟨bb, 0, none⟩), .pointer (some ⟨bl, 0, none⟩)]) (edH l k1) (skH l k1 root) True l root hd seg) := Lib.hid (fun Ex w0 hw => by rw [hsg, hhd]; exact mk_trH (fun W hW => (HBB.out.later HO3.out).later (hw W hW)) (fun W hW => (HBL.out.later HO3.out).later (hw W hW)) (fun W hW => Rw.later (Rw.later HN.out HO3.out) (hw W hW)) HF.out hS9)
      clear hS9 hsg hhd HSEG q9 q2 q3 q4
      obtain ⟨cb, hcb⟩ : ∃ z, z = w3.heap.size := ⟨_, rfl⟩
      rw [← hcb] at HC4 ⊢
      have HCW : Hid (w3.heap.size ≤ cb ∧ cb < w4.heap.size) := Lib.hid ⟨by omega, HC4.out.lt⟩
      have HT := Lib.hid (HTR.out (fun _ => False) w3 (fun W hW => lat_no hW))
      have HC0 : Hid (CurAt l root hd seg (.func (.func 21) #[] #[.pointer (some ⟨bb, 0, none⟩), .pointer (some ⟨bl, 0, none⟩)]) (fun j => j = cb) w3.heap.size cb w4 none) := Lib.hid HC4.out
      obtain ⟨E1, hE1⟩ : ∃ z, z = (edH l k1 false root).1 := ⟨_, rfl⟩
      have HE1 := Lib.hid hE1
      clear hcb HIT HFW HFF HF HOK HRT hE1
      go_wp2
      go_loopg [47] m (fun gk iv wr => ∃ (k : Nat) (o : Option Nat), gk = m - k ∧ k ≤ m ∧ iv = .int .i64 (k : Int) ∧ Hid (CurAt l root hd seg (.func (.func 21) #[] #[.pointer (some ⟨bb, 0, none⟩), .pointer (some ⟨bl, 0, none⟩)]) (fun j => j = cb) w3.heap.size cb wr o) ∧ Hid (Only (w3.heap.size ≤ ·) w3 wr) ∧ Hid (cb < wr.heap.size))
      case atStart => exact ⟨0, none, rfl, Nat.zero_le _, rfl, HC0, HX4, Lib.hid HCW.out.2⟩
      case round =>
        obtain ⟨k, o, rfl, hk, rfl, HCA, HX, HCL⟩ := hrel
        by_cases hlt : k < m
        · obtain ⟨ob, oo, x, KP, kp, rfl, hx, q0, q1, hsr⟩ := op_at (Rw.later HS.out (on_new HO3.out HX.out)) hlt
          have hlt' : (k : Int) < (m : Int) := by omega
          have HSR := Lib.hid hsr
          obtain ⟨kl, hkl⟩ : ∃ z, z = x.2.length := ⟨_, rfl⟩
          obtain ⟨xk, hxk⟩ : ∃ z, z = x.1 := ⟨_, rfl⟩
          rw [← hkl] at q1 HSR
          rw [← hxk] at q0
          obtain ⟨y2, hy2⟩ : ∃ W, W = wr.alloc (.cells #[.int .i64 xk, .slice KP kl kp] 36) := ⟨_, rfl⟩
          obtain ⟨b12, hb12⟩ : ∃ z, z = wr.heap.size := ⟨_, rfl⟩
          have HO2 : Hid (Only (wr.heap.size ≤ ·) wr y2) := Lib.hid (by rw [hy2]; exact (Only.refl _ wr).alloc (fun _ h => h) _)
          have HB12 : Hid (Blk y2 b12 36 [.int .i64 xk, .slice KP kl kp]) := Lib.hid (by rw [hy2, hb12]; exact Blk.new wr _ _)
          have HE2 := Lib.hid (And.intro hy2 hb12)
          have HX2 := Lib.hid (on_new HX.out HO2.out)
          have HC2 := Lib.hid (HCA.out.step (HO2.out.mono fun j hj => .inr hj) (D' := fun j => j = cb) fun j hj => .inl hj)
          have HCL2 : Hid (cb < y2.heap.size) := Lib.hid (Nat.lt_of_lt_of_le HCL.out HO2.out.size)
          clear hx hsr hkl hxk hy2 hb12
          go_upto_region 13 with (fail)
          rw [← HE2.out.1, ← HE2.out.2]
          clear HE2 q0 q1
          obtain ⟨q0, q1⟩ := HB12.out.pair
          by_cases hk0 : xk < 0
          · go_wp2
            go_roundg (m - (k + 1))
            case measure => omega
            case rel => exact ⟨k + 1, o, rfl, by omega, by go_num, HC2, HX2, HCL2⟩
          by_cases hk4 : 4 < xk
          · go_wp2
            go_roundg (m - (k + 1))
            case measure => omega
            case rel => exact ⟨k + 1, o, rfl, by omega, by go_num, HC2, HX2, HCL2⟩
          obtain ⟨n9, hn9⟩ : ∃ z, z = goTo seg o xk x.2 := ⟨_, rfl⟩
          have HDS : Hid (Calls Try.prog 14 #[.pointer (some ⟨cb, 0, none⟩), .agg #[.int .i64 xk, .slice KP kl kp]] y2 (GotSays True l root hd seg (.func (.func 21) #[] #[.pointer (some ⟨bb, 0, none⟩), .pointer (some ⟨bl, 0, none⟩)]) (fun j => j = cb) w3.heap.size cb (fun j => j = cb ∨ (w3.heap.size ≤ j ∧ ¬ j = cb)) y2 n9)) := Lib.hid (by
            rw [hn9]
            exact does_c HT.out y2 (lat_of HX2.out _) cb (fun j => j = cb) (fun j hj => by have h1 := HCL2.out; have h4 : j = cb := hj; omega) rfl HCW.out.1 o HC2.out xk KP kl kp x.2 (HSR.out.later HO2.out))
          clear hn9
          have hnk0 : ¬ xk < 0 := hk0
          have hnk4 : ¬ (4 : Int) < xk := hk4
          go_upto_region 15 with (go_at_call 14; (with_reducible refine HDS.out.mono ?_); rintro e v5 ⟨P, pn, pc, U, un, uc, i2, i3, t, er, rfl, ho, hg⟩; have HOC := Lib.hid ho; have HG := Lib.hid hg; clear ho hg)
          clear q0 q1 hk0 hk4 hnk0 hnk4
          obtain ⟨wy, hwy⟩ : ∃ W, W = v5.alloc (.cells #[.slice P pn pc, .slice U un uc, .int .i64 i2, .int .i64 i3] 39) := ⟨_, rfl⟩
          obtain ⟨bx, hbx⟩ : ∃ z, z = v5.heap.size := ⟨_, rfl⟩
          have HON : Hid (Only (v5.heap.size ≤ ·) v5 wy) := Lib.hid (by rw [hwy]; exact (Only.refl _ v5).alloc (fun _ h => h) _)
          have HBX : Hid (Blk wy bx 39 [.slice P pn pc, .slice U un uc, .int .i64 i2, .int .i64 i3]) := Lib.hid (by rw [hwy, hbx]; exact Blk.new v5 _ _)
          rw [← hwy, ← hbx]
          clear hwy hbx
          have HXY : Hid (Only (w3.heap.size ≤ ·) w3 wy) := Lib.hid (on_new (HX2.out.trans (HOC.out.mono fun j hj => by have h1 := HCW.out.1; rcases hj with hj | hj; omega; exact hj.1)) HON.out)
          have HGY := Lib.hid (HG.out.step (D' := fun j => j = cb) (HON.out.mono fun j hj => .inr hj) (fun j hj => .inl hj) (fun j hj => by have h1 := HCL2.out; have h2 : j = cb := hj; omega) (Nat.le_refl _))
          have HCL4 : Hid (cb < wy.heap.size) := Lib.hid (by have h1 := HCL2.out; have h2 := HOC.out.size; have h3 := HON.out.size; omega)
          clear HG HDS HC2 HCA
          rcases HGY.out with ⟨y, a1, a2, a3, a4, a5, a6, rfl, rfl, a9⟩ | ⟨a1, a2, a3, _, _, _, _, _, _, rfl, a11⟩
          · have HCN : Hid (CurAt l root hd seg (.func (.func 21) #[] #[.pointer (some ⟨bb, 0, none⟩), .pointer (some ⟨bl, 0, none⟩)]) (fun j => j = cb) w3.heap.size cb wy (some n9.toNat)) := Lib.hid (a9.step (Only.refl _ wy) (D' := fun j => j = cb) (fun j hj => .inl (.inl hj)))
            clear a1 a2 a3 a4 a5 a6 a9
            go_wp2
            go_roundg (m - (k + 1))
            case measure => omega
            case rel => exact ⟨k + 1, some n9.toNat, rfl, by omega, by go_num, HCN, HXY, HCL4⟩
          · subst a2 a3
            have HCN : Hid (CurAt l root hd seg (.func (.func 21) #[] #[.pointer (some ⟨bb, 0, none⟩), .pointer (some ⟨bl, 0, none⟩)]) (fun j => j = cb) w3.heap.size cb wy none) := Lib.hid a11
            by_cases her : er = 0
            · subst her
              clear a1 a11
              go_wp2
              go_roundg (m - (k + 1))
              case measure => omega
              case rel => exact ⟨k + 1, none, rfl, by omega, by go_num, HCN, HXY, HCL4⟩
            · obtain rfl : er = 10 := by
                rcases a1 with h9 | h9
                · exact absurd h9.2 her
                · exact h9.2
              clear a1 a11 her
              obtain ⟨r0, r1, r2, r3⟩ := HBX.out.four
              have HNX : Hid (Calls Try.prog 17 #[.pointer (some ⟨cb, 0, none⟩)] wy (GotE E1 True l root hd seg (.func (.func 21) #[] #[.pointer (some ⟨bb, 0, none⟩), .pointer (some ⟨bl, 0, none⟩)]) (fun j => j = cb) w3.heap.size cb (fun j => j = cb ∨ (w3.heap.size ≤ j ∧ ¬ j = cb)) wy 0)) := Lib.hid (by rw [HE1.out]; exact Next_e HT.out wy (lat_of HXY.out _) cb (fun j => j = cb) (fun j hj => by have h2 : j = cb := hj; rw [h2]; exact HCL4.out) rfl HCW.out.1 HCN.out)
              go_upto_region 19 with (go_at_call 17; (with_reducible refine HNX.out.mono ?_); rintro e v6 ⟨P6, pn6, pc6, U6, un6, uc6, i26, i36, t6, er6, hee, rfl, ho, hg⟩; (have hee2 := hee.symm); subst hee2; have HOC6 := Lib.hid ho; have HG6 := Lib.hid hg; clear ho hg)
              clear r0 r1 r2 r3
              obtain ⟨w7, hw7⟩ : ∃ W, W = v6.alloc (.cells #[.slice P6 pn6 pc6, .slice U6 un6 uc6, .int .i64 i26, .int .i64 i36] 39) := ⟨_, rfl⟩
              have HO7 : Hid (Only (v6.heap.size ≤ ·) v6 w7) := Lib.hid (by rw [hw7]; exact (Only.refl _ v6).alloc (fun _ h => h) _)
              rw [← hw7]
              clear hw7
              have HX7 : Hid (Only (w3.heap.size ≤ ·) w3 w7) := Lib.hid (on_new (HXY.out.trans (HOC6.out.mono fun j hj => by have h1 := HCW.out.1; rcases hj with hj | hj; omega; exact hj.1)) HO7.out)
              have HCL7 : Hid (cb < v6.heap.size) := Lib.hid (by have h1 := HCL4.out; have h2 := HOC6.out.size; omega)
              obtain ⟨o7, ho7⟩ := HG6.out.ex
              have HC7 : Hid (CurAt l root hd seg (.func (.func 21) #[] #[.pointer (some ⟨bb, 0, none⟩), .pointer (some ⟨bl, 0, none⟩)]) (fun j => j = cb) w3.heap.size cb w7 o7) := Lib.hid (ho7.step (HO7.out.mono fun j hj => .inr hj) fun j hj => .inl hj)
              clear ho7 HG6 HNX
              have qb : w7.cell? ⟨bb, 0, none⟩ = some (.int .i64 root) := (HBB.out.later (on_new HO3.out HX7.out)).cell 0
              obtain ⟨c7, hc7⟩ : ∃ z, z = w7.heap.size := ⟨_, rfl⟩
              have HC7E := Lib.hid hc7
              have HFI : Hid (∀ W, Only (w7.heap.size ≤ ·) w7 W → Blk W c7 75 [(.func (.func 21) #[] #[.pointer (some ⟨bb, 0, none⟩), .pointer (some ⟨bl, 0, none⟩)]), .int .i64 root, .slice none 0 0] → Calls Try.prog 16 #[.pointer (some ⟨c7, 0, none⟩)] W (GotE E1 True l root hd seg (.func (.func 21) #[] #[.pointer (some ⟨bb, 0, none⟩), .pointer (some ⟨bl, 0, none⟩)]) (fun j => j < W.heap.size) w3.heap.size c7 (fun j => j = c7 ∨ (w3.heap.size ≤ j ∧ ¬ j < W.heap.size)) W 0)) := Lib.hid (fun W hW hb => by rw [HE1.out]; exact First_e HT.out W (lat_of (on_new HX7.out hW) _) c7 (fun j => j < W.heap.size) (fun j hj => hj) hb.lt (by rw [hc7]; exact HX7.out.size) _ hb)
              clear hc7
              go_upto_region 20 with (first
                | (go_at_call 11; (with_reducible refine (CrNew_c w7 21 _ root).mono ?_); rintro e w8 ⟨rfl, hc8, ho⟩; (rw [← HC7E.out] at hc8 ⊢); have HC8 := Lib.hid hc8; have HX8 := Lib.hid ho; clear hc8 ho)
                | (go_at_call 16; (with_reducible refine (HFI.out w8 HX8.out HC8.out).mono ?_); rintro e v9 ⟨P9, pn9, pc9, U9, un9, uc9, i29, i39, t9, er9, hee, rfl, ho, hg⟩; (have hee2 := hee.symm); subst hee2; have HO9 := Lib.hid ho; clear ho hg))
              obtain ⟨w10, hw10⟩ : ∃ W, W = v9.alloc (.cells #[.slice P9 pn9 pc9, .slice U9 un9 uc9, .int .i64 i29, .int .i64 i39] 39) := ⟨_, rfl⟩
              have HO10 : Hid (Only (v9.heap.size ≤ ·) v9 w10) := Lib.hid (by rw [hw10]; exact (Only.refl _ v9).alloc (fun _ h => h) _)
              rw [← hw10]
              clear hw10
              have HXZ : Hid (Only (w7.heap.size ≤ ·) w7 w10) := Lib.hid (on_new (HX8.out.trans (HO9.out.mono fun j hj => by have h1 := HX8.out.size; have h2 := HC7E.out; rcases hj with hj | hj <;> omega)) HO10.out)
              have HXW := Lib.hid (on_new HX7.out HXZ.out)
              have HCZ : Hid (CurAt l root hd seg (.func (.func 21) #[] #[.pointer (some ⟨bb, 0, none⟩), .pointer (some ⟨bl, 0, none⟩)]) (fun j => j = cb) w3.heap.size cb w10 o7) := Lib.hid (HC7.out.step (HXZ.out.mono fun j hj => .inr hj) fun j hj => .inl hj)
              have HCLZ : Hid (cb < w10.heap.size) := Lib.hid (by have h1 := HCL7.out; have h2 := HO7.out.size; have h3 := HXZ.out.size; omega)
              clear qb
              go_wp2
              go_roundg (m - (k + 1))
              case measure => omega
              case rel => exact ⟨k + 1, o7, rfl, by omega, by go_num, HCZ, HXW, HCLZ⟩
        · skip
          obtain rfl : m = k := by omega
          have hkm : ¬ (m : Int) < (m : Int) := by omega
          obtain ⟨z1, hz1⟩ : ∃ W, W = wr.alloc (.cells #[.int .i64 0] 3) := ⟨_, rfl⟩
          obtain ⟨nb, hnb⟩ : ∃ z, z = wr.heap.size := ⟨_, rfl⟩
          have HZ1 : Hid (Only (wr.heap.size ≤ ·) wr z1) := Lib.hid (by rw [hz1]; exact (Only.refl _ wr).alloc (fun _ h => h) _)
          have HNB : Hid (Blk z1 nb 3 [.int .i64 0]) := Lib.hid (by rw [hz1, hnb]; exact Blk.new wr _ _)
          have HNE := Lib.hid (And.intro hz1 hnb)
          clear hz1 hnb
          go_upto_region 24 with (fail)
          rw [← HNE.out.1, ← HNE.out.2]
          have HNL : Hid (w3.heap.size ≤ nb) := Lib.hid (by have h1 := HX.out.size; have h2 := HNE.out.2; omega)
          clear HNE
          have HXZ1 := Lib.hid (on_new HX.out HZ1.out)
          have qb : z1.cell? ⟨bb, 0, none⟩ = some (.int .i64 root) := (HBB.out.later (on_new HO3.out HXZ1.out)).cell 0
          go_wp2_with (go_at_call 22; (with_reducible refine (Each_c z1 21 _ root none 0 0 [] (Src.nil_ _) (by decide)).mono ?_); rintro e z4 ⟨⟨bs, br, bf, K, kn, kc', rfl, hbs, hbr, hbf, hk⟩, ho⟩; have HZ4 := Lib.hid ho; have HBS := Lib.hid hbs; have HBR := Lib.hid hbr; have HBF := Lib.hid hbf; have HKK := Lib.hid hk; clear hbs hbr hbf hk ho)
          have HNB4 := Lib.hid (HNB.out.later HZ4.out)
          have hl3 : ∀ W, Lat (fun j => j = nb) z1 W → Only (w3.heap.size ≤ ·) w3 W := fun W hW => HXZ1.out.trans (hW.mono fun j hj => by
            have h1 := HNL.out
            have h2 := HXZ1.out.size
            rcases hj with hj | hj <;> omega)
          have HT2 : Hid (Tr (fun j => j = nb) z1 (.func (.func 21) #[] #[.pointer (some ⟨bb, 0, none⟩), .pointer (some ⟨bl, 0, none⟩)]) (edH l k1) (skH l k1 root) True l root hd seg) := Lib.hid (HTR.out _ z1 hl3)
          have HSQ := Lib.hid (each1_o 21 _ HT2.out z4 (lat_of HZ4.out _) bs br bf K kn kc' [] HBS.out HBR.out HBF.out HKK.out (fun j => j = nb) (fun j hj => ⟨.inl hj, by have h1 := HNB4.out.lt; have h2 : j = nb := hj; omega⟩))
          clear hl3
          refine (wpIn_wide (n := 3)).1 ?_
          refine range_skip rfl (by decide) (gf := 35) (lb := #[.pointer (some ⟨bs, 0, none⟩), .pointer (some ⟨br, 0, none⟩), .pointer (some ⟨bf, 0, none⟩)]) rfl trivial (enters_of Try.func35 (by kernel_rfl) rfl) (fun j hj => by have h1 := HNB4.out.lt; have h2 : j = nb := hj; omega) HSQ.out (fun _ => rfl) (fun k W => Blk W nb 3 [.int .i64 (k : Int)] ∧ Only (fun j => j = nb ∨ z4.heap.size ≤ j) z4 W) (fun k A B hA ho hs => ⟨hA.1.only ho (Nat.not_le.2 HNB4.out.lt), hA.2.trans (ho.mono fun j hj => .inr hj)⟩) ⟨HNB4.out, Only.refl _ _⟩ ?body ?done
          case body =>
            intro k x W hI hk hsz
            obtain ⟨hb, ho⟩ := hI
            have HB := Lib.hid hb
            have HO := Lib.hid ho
            have k0 : W.cell? ⟨nb, 0, none⟩ = some (.int .i64 (k : Int)) := hb.cell 0
            have f0 := hb.frozen 0
            have c0 : wrap64 ((k : Int) + 1) = ((k + 1 : Nat) : Int) := by
              have h1 := HSL.out
              rw [IntWalk.wrap64_in _ (by omega)]
              omega
            clear hb ho
            simp only [List.zip_toArray, List.zip_cons_cons, List.zip_nil_right, List.foldl_toArray, List.foldl_cons, List.foldl_nil, List.setIfInBounds_toArray, List.set_cons_zero, List.set_cons_succ]
            gi_wp2
            exact ⟨⟨HB.out.set_ 0 _, HO.out.setCell (p := ⟨nb, 0, none⟩) (.inl rfl) _⟩, (Only.refl _ W).setCell (p := ⟨nb, 0, none⟩) (.inl rfl) _⟩
          case done =>
            intro D k W hD hS hI hK
            have hk2 : (k : Int) ≤ 200 := by
              have h1 := hS.1
              have h2 := HSL.out
              omega
            have HO := Lib.hid hI.2
            have HDD := Lib.hid hD
            have HK := Lib.hid hK
            have HKN := Lib.hid hI.1
            have HFIN : Hid (Only (w.heap.size ≤ ·) w W) := Lib.hid ((on_new (on_new (on_new HB0.out HO3.out) HXZ1.out) HZ4.out).trans (HO.out.mono fun j hj => by have h1 := HB0.out.size; have h2 := HO3.out.size; have h3 := HNL.out; have h4 := HZ4.out.size; have h5 := HXZ1.out.size; rcases hj with hj | hj <;> omega))
            clear hD hS hI hK
            go_wp2_with (go_at_call 9; (with_reducible refine (calive_c W).mono ?_); rintro e w9 ⟨rfl, ho⟩; have HOF := Lib.hid ho; (have kn0 : w9.cell? ⟨nb, 0, none⟩ = some (.int .i64 (k : Int)) := (HKN.out.later ho).cell 0); clear ho)
            refine ⟨by simp, .inl ⟨_, _, rfl, run_takeDeferred ((HOF.out.block D (by have h1 := (Array.getElem?_eq_some_iff.1 HK.out).1; omega)).trans HK.out), ?_⟩⟩
            exact ⟨_, results_tmp rfl _ _ _, rfl, only_put (on_new HFIN.out HOF.out) (by have h1 := HDD.out; have h2 := HB0.out.size; have h3 := HO3.out.size; have h4 := HXZ1.out.size; have h5 := HZ4.out.size; omega) _⟩
end Go.Proofs.Ytnjhpjpeeehagaa
