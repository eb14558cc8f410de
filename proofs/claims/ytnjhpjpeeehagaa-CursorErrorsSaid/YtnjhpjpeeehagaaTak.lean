/-
  ask.
-/
import Derived.Test.YtnjhpjpeeehagaaTcp
import Derived.Test.YtnjhpjpeeehagaaTnd
import Derived.Defers
import Derived.Recover
set_option linter.unusedVariables false
namespace Go.Proofs.Ytnjhpjpeeehagaa
open Go.RowKit

theorem ask1_idle (p q : Option Addr) (w : World) :
    CallsD Try.prog 53 #[.pointer p, .pointer q] .returning w fun e u' w' => e = .returned (.tuple #[]) ∧ u' = .returning ∧ w' = w := by
  refine callsD_of_wpS Try.func53 rfl fun c₀ cs hu => ?_
  apply wpS_seq
  apply wpS_region
  simp [wpOpsS, go_sem, recoverD, hu, Try.ntmps53, Exit.thenS]
  refine wpS_cond (t := false) (by simp [Act.eval, Array.replicate]) ?_
  simp only [Bool.false_eq_true, if_false]
  refine wpS_of_wp (wp_skip ?_)
  cases c₀
  simp_all [bodyPostS, results, Try.results53]

section
variable {w : World} {g : Nat} {t : TypeId} {z : Int}
theorem one_int (hb : Blk w g t [.int .i64 z]) {off : Nat} {u : Value} (h : w.cell? ⟨g, off, none⟩ = some u) : u = .int .i64 z := by
  rw [hb.cell] at h
  match off, h with
  | 0, h => simpa using h.symm
  | o + 1, h => simp at h
theorem src_int (hb : Blk w g t [.int .i64 z]) {v : Value} {xs : Bytes} (h : Src w v xs) {W : World} (hW : Only (· = g) w W) : Src W v xs := by
  obtain ⟨A, c, h1, ⟨h2, h3⟩, h4⟩ := h
  refine ⟨A, c, h1, ⟨h2, fun hn => ?_⟩, h4⟩
  obtain ⟨ad, e, hc⟩ := h3 hn
  refine ⟨ad, e, fun j u hu => (hW.cell (p := ad.add j) ?_).trans (hc j u hu)⟩
  obtain ⟨x, hx⟩ : ∃ x, xs[j]? = some x := ⟨_, List.getElem?_eq_getElem (by have := (List.getElem?_eq_some_iff.1 hu).1; unfold cb at this; simpa using this)⟩
  have hu' : (cb xs)[j]? = some (.int .u8 x.toNat) := by
    unfold cb
    rw [List.getElem?_map, hx]
    rfl
  have hcj := hc j _ hu'
  intro e2
  have hs := spotF hcj
  rw [hs, show (ad.add j).block = g from e2] at hcj
  have := one_int hb hcj
  simp at this
theorem rw_int {α : Type} {E : El α} (hAt : ∀ x cs, E.At w x cs → ∀ W, Only (· = g) w W → E.At W x cs) (hno : ∀ x cs, E.At w x cs → ∃ A n c, cs[0]? = some (.slice A n c))
    (hb : Blk w g t [.int .i64 z]) {v : Value} {l : List α} (h : Rw E w v l) {W : World} (hW : Only (· = g) w W) : Rw E W v l := by
  obtain ⟨A, c, C, h1, h2, h3, h4, h5, h6⟩ := h
  refine ⟨A, c, C, h1, h2.mono fun x cs hx => hAt x cs hx W hW, h3.on hW fun b off hn e h => ?_, h4, h5, h6⟩
  subst h
  obtain ⟨b', off', e', hlt, hc⟩ := h3 hn
  rw [e] at e'
  cases e'
  cases l with
  | nil =>
    have : C = [] := h2
    rw [this] at hn
    simp at hn
  | cons x l =>
    obtain ⟨cs, D, e2, hx, _⟩ := h2
    obtain ⟨A', n', c', h0⟩ := hno x cs hx
    have := one_int hb (hc 0 _ (by rw [e2]; exact (List.getElem?_append_left (List.getElem?_eq_some_iff.1 h0).1).trans h0))
    cases this
theorem Nod.keepI {x : Nd} {f : Bool} {v u : Value} (h : Nod w x f v u) (hb : Blk w g t [.int .i64 z]) {W : World} (hW : Only (· = g) w W) : Nod W x f v u := by
  refine ⟨h.1, rw_int (E := itE) ?_ ?_ hb h.2.1 hW, rw_int (E := kdE) ?_ ?_ hb h.2.2 hW⟩
  · rintro x cs ⟨A, c, B, d, e, h1, h2⟩ W hW
    exact ⟨A, c, B, d, e, src_int hb h1 hW, src_int hb h2 hW⟩
  · rintro x cs ⟨A, c, B, d, rfl, h1, h2⟩
    exact ⟨_, _, _, rfl⟩
  · rintro x cs ⟨A, c, e, h1⟩ W hW
    exact ⟨A, c, e, src_int hb h1 hW⟩
  · rintro x cs ⟨A, c, rfl, h1⟩
    exact ⟨_, _, _, rfl⟩
end
/-- A node stays where the two variables of the results are written. -/
theorem Nod.keep2 {W1 W2 : World} {b : Nat} {f' : Bool} {P' Q' : Option Addr} {p1 p2 q1 q2 : Nat} {z : Int} {x : Nd} {f : Bool} {v u a b0 c d : Value} (h : Nod W1 x f v u) (h4 : Blk W1 b 55 [.bool f', .slice P' p1 p2, .slice Q' q1 q2]) (h5 : Blk W1 (b + 1) 40 [.int .i64 z])
    (hW : W2 = (((W1.setCell ⟨b, 0, none⟩ a).setCell ⟨b, 1, none⟩ b0).setCell ⟨b, 2, none⟩ c).setCell ⟨b + 1, 0, none⟩ d) : Nod W2 x f v u := by
  subst hW
  refine (h.keep h4 (((Only.refl (· = b) W1).setCell (p := ⟨b, 0, none⟩) rfl a).setCell (p := ⟨b, 1, none⟩) rfl b0 |>.setCell (p := ⟨b, 2, none⟩) rfl c)).keepI (z := z) (t := 40) (g := b + 1) ?_ ((Only.refl (· = b + 1) _).setCell (p := ⟨b + 1, 0, none⟩) rfl d)
  exact ((h5.far (p := ⟨b, 0, none⟩) (by simp) _).far (p := ⟨b, 1, none⟩) (by simp) _).far (p := ⟨b, 2, none⟩) (by simp) _
set_option maxRecDepth 100000 in
theorem ask_boxes (w : World) (bl : Nat) (A : Option Addr) (n c : Nat) (r : Int) (l : List Nm) (hb : Blk w bl 22 [.slice A n c]) (h : Nms w (.slice A n c) l) (hf : FewN l) :
    Calls Try.prog 26 #[.int .i64 r, .pointer (some ⟨bl, 0, none⟩)] ((w.alloc (.cells #[.bool false, .slice none 0 0, .slice none 0 0] 55)).alloc (.cells #[.int .i64 0] 40)) fun e W' => ∃ f P p pc Q q qc er, e = .returned (.tuple #[.agg #[.bool f, .slice P p pc, .slice Q q qc], .int .i64 er]) ∧ er = (if (nodeP l r).isSome then 0 else 11) ∧ Nod W' ((nodeP l r).getD ⟨false, [], []⟩) f (.slice P p pc) (.slice Q q qc) ∧ Only (w.heap.size ≤ ·) w W' ∧ Blk W' w.heap.size 55 [.bool false, .slice none 0 0, .slice none 0 0] ∧ Blk W' (w.heap.size + 1) 40 [.int .i64 0] := by
  have ho : Only (w.heap.size ≤ ·) w ((w.alloc (.cells #[.bool false, .slice none 0 0, .slice none 0 0] 55)).alloc (.cells #[.int .i64 0] 40)) := ((Only.refl _ w).alloc (fun _ h => h) _).alloc (fun _ h => h) _
  have h4 : Blk ((w.alloc (.cells #[.bool false, .slice none 0 0, .slice none 0 0] 55)).alloc (.cells #[.int .i64 0] 40)) w.heap.size 55 [.bool false, .slice none 0 0, .slice none 0 0] := (Blk.new w 55 [.bool false, .slice none 0 0, .slice none 0 0]).alloc _
  have h5 : Blk ((w.alloc (.cells #[.bool false, .slice none 0 0, .slice none 0 0] 55)).alloc (.cells #[.int .i64 0] 40)) (w.heap.size + 1) 40 [.int .i64 0] := by
    have := Blk.new (w.alloc (.cells #[.bool false, .slice none 0 0, .slice none 0 0] 55)) 40 [.int .i64 0]
    simpa using this
  refine (src_c _ bl A n c r l (hb.later ho) (h.later ho) hf).mono ?_
  rintro e W' ⟨⟨f, P, p, pc, Q, q, qc, er, h1, h2, h3⟩, hw⟩
  exact ⟨f, P, p, pc, Q, q, qc, er, h1, h2, h3, on_new ho hw, h4.later hw, h5.later hw⟩
set_option maxRecDepth 100000 in
set_option maxHeartbeats 3200000 in
theorem ask_c (w : World) (bl : Nat) (A : Option Addr) (n c : Nat) (r : Int) (l : List Nm) (hb : Blk w bl 22 [.slice A n c]) (h : Nms w (.slice A n c) l) (hf : FewN l) :
    Calls Try.prog 48 #[srcV bl, .int .i64 r] w (NodeSaysK w (nodeP l r) 11) := by
  have hmf : ∀ (fn : Fn) (first cap : Array Value) (w : World), (Instr.makeFunc fn first cap).run Try.prog w = .ok (.func fn first cap) w := fun _ _ _ _ => rfl
  have HC := Lib.hid (ask_boxes w bl A n c r l hb h hf)
  have HSM := Lib.hid (hf.get r)
  unfold srcV
  cases hno : nodeP l r with
  | none =>
    go_enter_defers Try.func48, Try.ntmps48
    go_upto_region 3 with (go_at_call 26; refine HC.out.mono ?_; rintro e W1 ⟨f, P, p, pc, Q, q, qc, er, rfl, her, hnd, ho1, h4, h5⟩; have HND := Lib.hid hnd; have HO1 := Lib.hid ho1; have H4 := Lib.hid h4; have H5 := Lib.hid h5; rw [hno] at her; simp only [Option.isSome_none, Bool.false_eq_true, if_false] at her; subst her; (obtain ⟨k0, k1, k2⟩ := h4.tri); (obtain ⟨f0, f1, f2⟩ := h4.melt3); have k5 := h5.cell 0; have f5 := h5.frozen 0; clear hnd ho1 h4 h5)
    obtain ⟨W2, hW2⟩ : ∃ W, W = (((W1.setCell ⟨w.heap.size, 0, none⟩ (.bool f)).setCell ⟨w.heap.size, 1, none⟩ (.slice P p pc)).setCell ⟨w.heap.size, 2, none⟩ (.slice Q q qc)).setCell ⟨w.heap.size + 1, 0, none⟩ (.int .i64 11) := ⟨_, rfl⟩
    rw [← hW2]
    have HO2 : Hid (Only (fun j => j = w.heap.size ∨ j = w.heap.size + 1) W1 W2) := Lib.hid (by rw [hW2]; exact ((((Only.refl _ W1).setCell (p := ⟨w.heap.size, 0, none⟩) (.inl rfl) _).setCell (p := ⟨w.heap.size, 1, none⟩) (.inl rfl) _).setCell (p := ⟨w.heap.size, 2, none⟩) (.inl rfl) _).setCell (p := ⟨w.heap.size + 1, 0, none⟩) (.inr rfl) _)
    have HG4 : Hid (Blk W2 w.heap.size 55 [.bool f, .slice P p pc, .slice Q q qc]) := Lib.hid (by rw [hW2]; exact ((((H4.out.set_ 0 _).set_ 1 _).set_ 2 _).far (p := ⟨w.heap.size + 1, 0, none⟩) (by simp) _))
    have HG5 : Hid (Blk W2 (w.heap.size + 1) 40 [.int .i64 11]) := Lib.hid (by rw [hW2]; exact (((H5.out.far (p := ⟨w.heap.size, 0, none⟩) (by simp) _).far (p := ⟨w.heap.size, 1, none⟩) (by simp) _).far (p := ⟨w.heap.size, 2, none⟩) (by simp) _).set_ 0 _)
    have HD2 : Hid (Nod W2 _ f (.slice P p pc) (.slice Q q qc)) := Lib.hid (HND.out.keep2 H4.out H5.out (by rw [hW2]))
    clear k0 k1 k2 k5 f0 f1 f2 f5 hW2
    rw [hno] at HD2
    obtain ⟨k0, k1, k2⟩ := HG4.out.tri
    obtain ⟨f0, f1, f2⟩ := HG4.out.melt3
    have k5 := HG5.out.cell 0
    have f5 := HG5.out.frozen 0
    go_wp2_with (fail)
    go_region
    all_goals go_wp2
    all_goals
      refine leaves_cons (f := 53) (args := #[.pointer (some ⟨w.heap.size, 0, none⟩), .pointer (some ⟨w.heap.size + 1, 0, none⟩)]) (by simp) (by simp [go_sem]) ?_
      refine (ask1_idle _ _ _).mono ?_
      rintro e u' w'' ⟨rfl, rfl, rfl⟩
      simp [Leaves, settle, results, Try.results48, go_sem, k0, k1, k2, k5]
      exact ⟨⟨false, none, 0, 0, none, 0, 0, 11, rfl, rfl, NodK.none_ _ _ _⟩, (((((HO1.out.trans (HO2.out.mono fun j hj => by rcases hj with rfl | rfl <;> omega)).setCell (p := ⟨w.heap.size, 0, none⟩) (Nat.le_refl _) _).setCell (p := ⟨w.heap.size, 1, none⟩) (Nat.le_refl _) _).setCell (p := ⟨w.heap.size, 2, none⟩) (Nat.le_refl _) _).setCell (p := ⟨w.heap.size + 1, 0, none⟩) (Nat.le_succ _) _).drew⟩
  | some x =>
    go_enter_defers Try.func48, Try.ntmps48
    go_upto_region 3 with (go_at_call 26; refine HC.out.mono ?_; rintro e W1 ⟨f, P, p, pc, Q, q, qc, er, rfl, her, hnd, ho1, h4, h5⟩; have HND := Lib.hid hnd; have HO1 := Lib.hid ho1; have H4 := Lib.hid h4; have H5 := Lib.hid h5; rw [hno] at her; simp only [Option.isSome_some, if_true] at her; subst her; (obtain ⟨k0, k1, k2⟩ := h4.tri); (obtain ⟨f0, f1, f2⟩ := h4.melt3); have k5 := h5.cell 0; have f5 := h5.frozen 0; clear hnd ho1 h4 h5)
    obtain ⟨W2, hW2⟩ : ∃ W, W = (((W1.setCell ⟨w.heap.size, 0, none⟩ (.bool f)).setCell ⟨w.heap.size, 1, none⟩ (.slice P p pc)).setCell ⟨w.heap.size, 2, none⟩ (.slice Q q qc)).setCell ⟨w.heap.size + 1, 0, none⟩ (.int .i64 0) := ⟨_, rfl⟩
    rw [← hW2]
    have HO2 : Hid (Only (fun j => j = w.heap.size ∨ j = w.heap.size + 1) W1 W2) := Lib.hid (by rw [hW2]; exact ((((Only.refl _ W1).setCell (p := ⟨w.heap.size, 0, none⟩) (.inl rfl) _).setCell (p := ⟨w.heap.size, 1, none⟩) (.inl rfl) _).setCell (p := ⟨w.heap.size, 2, none⟩) (.inl rfl) _).setCell (p := ⟨w.heap.size + 1, 0, none⟩) (.inr rfl) _)
    have HG4 : Hid (Blk W2 w.heap.size 55 [.bool f, .slice P p pc, .slice Q q qc]) := Lib.hid (by rw [hW2]; exact ((((H4.out.set_ 0 _).set_ 1 _).set_ 2 _).far (p := ⟨w.heap.size + 1, 0, none⟩) (by simp) _))
    have HG5 : Hid (Blk W2 (w.heap.size + 1) 40 [.int .i64 0]) := Lib.hid (by rw [hW2]; exact (((H5.out.far (p := ⟨w.heap.size, 0, none⟩) (by simp) _).far (p := ⟨w.heap.size, 1, none⟩) (by simp) _).far (p := ⟨w.heap.size, 2, none⟩) (by simp) _).set_ 0 _)
    have HD2 : Hid (Nod W2 _ f (.slice P p pc) (.slice Q q qc)) := Lib.hid (HND.out.keep2 H4.out H5.out (by rw [hW2]))
    clear k0 k1 k2 k5 f0 f1 f2 f5 hW2
    rw [hno] at HD2 HSM
    obtain ⟨k0, k1, k2⟩ := HG4.out.tri
    obtain ⟨f0, f1, f2⟩ := HG4.out.melt3
    have k5 := HG5.out.cell 0
    have f5 := HG5.out.frozen 0
    go_wp2_with (go_at_call 54; (with_reducible refine (copied_c W2 P Q p pc q qc f _ HD2.out HSM.out).mono ?_); rintro e W3 ⟨X, x1, xc, Y, y1, yc, rfl, hnd, ho3⟩; have HN3 := Lib.hid hnd; have HG43 := Lib.hid (HG4.out.later ho3); have HG53 := Lib.hid (HG5.out.later ho3); have HO3 := Lib.hid ho3; clear k0 k1 k2 k5 f0 f1 f2 f5; (obtain ⟨k0, k1, k2⟩ := HG43.out.tri); (obtain ⟨f0, f1, f2⟩ := HG43.out.melt3); have k5 := HG53.out.cell 0; have f5 := HG53.out.frozen 0; clear hnd ho3)
    obtain ⟨W4, hW4⟩ : ∃ W, W = (((W3.setCell ⟨w.heap.size, 0, none⟩ (.bool x.leaf)).setCell ⟨w.heap.size, 1, none⟩ (.slice X x1 xc)).setCell ⟨w.heap.size, 2, none⟩ (.slice Y y1 yc)).setCell ⟨w.heap.size + 1, 0, none⟩ (.int .i64 0) := ⟨_, rfl⟩
    rw [← hW4]
    have HO4 : Hid (Only (fun j => j = w.heap.size ∨ j = w.heap.size + 1) W3 W4) := Lib.hid (by rw [hW4]; exact ((((Only.refl _ W3).setCell (p := ⟨w.heap.size, 0, none⟩) (.inl rfl) _).setCell (p := ⟨w.heap.size, 1, none⟩) (.inl rfl) _).setCell (p := ⟨w.heap.size, 2, none⟩) (.inl rfl) _).setCell (p := ⟨w.heap.size + 1, 0, none⟩) (.inr rfl) _)
    have HG44 : Hid (Blk W4 w.heap.size 55 [.bool x.leaf, .slice X x1 xc, .slice Y y1 yc]) := Lib.hid (by rw [hW4]; exact ((((HG43.out.set_ 0 _).set_ 1 _).set_ 2 _).far (p := ⟨w.heap.size + 1, 0, none⟩) (by simp) _))
    have HG54 : Hid (Blk W4 (w.heap.size + 1) 40 [.int .i64 0]) := Lib.hid (by rw [hW4]; exact (((HG53.out.far (p := ⟨w.heap.size, 0, none⟩) (by simp) _).far (p := ⟨w.heap.size, 1, none⟩) (by simp) _).far (p := ⟨w.heap.size, 2, none⟩) (by simp) _).set_ 0 _)
    have HN4 : Hid (NodK w.heap.size none W4 x x.leaf (.slice X x1 xc) (.slice Y y1 yc)) := Lib.hid (SNod.step HN3.out (HO4.out.mono fun j hj => .inl (.inl (by have h1 := HG5.out.lt; rcases hj with rfl | rfl <;> omega))) fun j hj => by
      rcases hj with hj | hj
      · exact .inl (.inl (by have h1 := HG5.out.lt; omega))
      · cases hj)
    clear k0 k1 k2 k5 f0 f1 f2 f5 hW4
    obtain ⟨k0, k1, k2⟩ := HG44.out.tri
    have k5 := HG54.out.cell 0
    refine leaves_cons (f := 53) (args := #[.pointer (some ⟨w.heap.size, 0, none⟩), .pointer (some ⟨w.heap.size + 1, 0, none⟩)]) (by simp) (by simp [go_sem]) ?_
    refine (ask1_idle _ _ _).mono ?_
    rintro e u' w'' ⟨rfl, rfl, rfl⟩
    simp [Leaves, settle, results, Try.results48, go_sem, k0, k1, k2, k5]
    exact ⟨⟨x.leaf, X, x1, xc, Y, y1, yc, 0, rfl, rfl, HN4.out⟩, ((HO1.out.trans (HO2.out.mono fun j hj => by rcases hj with rfl | rfl <;> omega)).trans (HO3.out.mono fun j hj => Nat.le_trans (Nat.le_trans HO1.out.size HO2.out.size) hj)).trans (HO4.out.mono fun j hj => by rcases hj with rfl | rfl <;> omega)⟩
end Go.Proofs.Ytnjhpjpeeehagaa
