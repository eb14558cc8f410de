/-
  What All has found; under, even.
-/
import Derived.Test.YtnjhpjpeeehagaaTfm
set_option linter.unusedVariables false
namespace Go.Proofs.Ytnjhpjpeeehagaa
open Go.RowKit

/-- The span of a kid. -/
def underP (sp : Sn) (l : List Kd) (k : Nat) : Sn := (if 0 < k then (l.getD k ([], 0)).1 else sp.1, if k + 1 < l.length then some (l.getD (k + 1) ([], 0)).1 else sp.2)
def SpanSays (F : Nat → Prop) (w : World) (sp : Sn) (e : Ending) (w' : World) : Prop := (∃ L ln lc H hn hc b, e = .returned (.agg #[.slice L ln lc, .slice H hn hc, .bool b]) ∧ Stab F w' (fun W => SnV W sp (.slice L ln lc) (.slice H hn hc) b)) ∧ Only (w.heap.size ≤ ·) w w'
theorem load_span {w : World} {g : Nat} {L H : Option Addr} {ln lc hn hc : Nat} {b : Bool} (h : Blk w g 93 [.slice L ln lc, .slice H hn hc, .bool b]) : (loadVar 93 ⟨g, 0, none⟩).run Try.prog w = .ok (.agg #[.slice L ln lc, .slice H hn hc, .bool b]) w := by
  obtain ⟨c0, c1, c2⟩ := h.tri
  simp [go_sem, c0, c1, c2]
theorem snv_far_unused {w W : World} {n0 : Nat} {sp : Sn} {u v : Value} {b : Bool} (h : SnV w sp u v b) (ho : Only (w.heap.size ≤ ·) w W) : SnV W sp u v b := h.later ho
/-- A kid in a row that stays. -/
theorem skd_at {F : Nat → Prop} {w : World} {A : Option Addr} {n c k : Nat} {l : List Kd} (h : SRw kdE F w (.slice A n c) l) (hk : k < n) : ∃ (b off : Nat) (x : Kd) (P : Option Addr) (p : Nat), A = some ⟨b, off, none⟩ ∧ b < w.heap.size ∧ l[k]? = some x ∧ ∀ W, Only (fun j => F j ∨ w.heap.size ≤ j) w W → W.cell? ⟨b, off + k * 2, none⟩ = some (.slice P x.1.length p) ∧ W.cell? ⟨b, off + k * 2 + 1, none⟩ = some (.int .i64 x.2) ∧ Src W (.slice P x.1.length p) x.1 := by
  have hw := h.rw_.now
  obtain ⟨C, hC⟩ := h
  obtain ⟨b, off, x, P, p, e, hb, hx, c0, c1, _⟩ := kds_at hw hk
  refine ⟨b, off, x, P, p, e, hb, hx, fun W hW => ?_⟩
  have get : ∀ W, Only (fun j => F j ∨ w.heap.size ≤ j) w W → ∃ P p, W.cell? ⟨b, off + k * 2, none⟩ = some (.slice P x.1.length p) ∧ W.cell? ⟨b, off + k * 2 + 1, none⟩ = some (.int .i64 x.2) ∧ Src W (.slice P x.1.length p) x.1 ∧ C[k * 2]? = some (.slice P x.1.length p) := fun W hW => by
    obtain ⟨hd, A', c', e', hl, hr, _⟩ := hC W hW
    simp only [Value.slice.injEq] at e'
    obtain ⟨rfl, _, rfl⟩ := e'
    obtain ⟨cs, ⟨P, p, rfl, hs⟩, hg⟩ := hd.get (fun _ _ => kdE.len) hx
    have g0 := hg 0 _ rfl
    have g1 := hg 1 _ rfl
    rw [e] at hr
    have hpos : 0 < C.length := by have := (List.getElem?_eq_some_iff.1 g0).1; omega
    obtain ⟨b', off', e2, _, hcell⟩ := hr hpos
    cases e2
    exact ⟨P, p, hcell _ _ g0, hcell _ _ g1, hs, g0⟩
  obtain ⟨P0, p0, d0, _, _, d3⟩ := get w (Only.refl _ _)
  obtain ⟨P1, p1, e0, e1, e2, e3⟩ := get W hW
  rw [d0] at c0
  rw [d3] at e3
  simp only [Option.some.injEq, Value.slice.injEq] at c0 e3
  obtain ⟨rfl, _, rfl⟩ := c0
  obtain ⟨rfl, _, rfl⟩ := e3
  exact ⟨e0, e1, e2⟩
set_option maxRecDepth 100000 in
set_option maxHeartbeats 12800000 in
theorem Under_c (w : World) (L H K : Option Addr) (ln lc hn hc kn kc k : Nat) (b : Bool) (sp : Sn) (l : List Kd) {F : Nat → Prop} (h : Stab F w (fun W => SnV W sp (.slice L ln lc) (.slice H hn hc) b)) (hk : SRw kdE F w (.slice K kn kc) l) (hlt : k < kn) (hkn : kn ≤ 1000) :
    Calls Try.prog 39 #[.agg #[.slice L ln lc, .slice H hn hc, .bool b], .slice K kn kc, .int .i64 (k : Int)] w (SpanSays F w (underP sp l k)) := by
  obtain ⟨w1, hw1⟩ : ∃ x, x = w.alloc (.cells #[.slice L ln lc, .slice H hn hc, .bool b] 93) := ⟨_, rfl⟩
  obtain ⟨b1, hb1⟩ : ∃ x, x = w.heap.size := ⟨_, rfl⟩
  have Hb1 : Hid (Blk w1 b1 93 [.slice L ln lc, .slice H hn hc, .bool b]) := Lib.hid (by rw [hw1, hb1]; exact Blk.new w _ [.slice L ln lc, .slice H hn hc, .bool b])
  have HXb1 : Hid (Only (w.heap.size ≤ ·) w w1) := Lib.hid (by rw [hw1]; exact (Only.refl _ w).alloc (fun _ h => h) _)
  have HEQb1 : Hid (w1 = w.alloc (.cells #[.slice L ln lc, .slice H hn hc, .bool b] 93) ∧ b1 = w.heap.size) := Lib.hid ⟨hw1, hb1⟩
  clear hw1 hb1
  obtain ⟨w2, hw2⟩ : ∃ x, x = w1.alloc (.cells #[.slice none 0 0, .slice none 0 0, .bool false] 93) := ⟨_, rfl⟩
  obtain ⟨b2, hb2⟩ : ∃ x, x = w1.heap.size := ⟨_, rfl⟩
  have Hb2 : Hid (Blk w2 b2 93 [.slice none 0 0, .slice none 0 0, .bool false]) := Lib.hid (by rw [hw2, hb2]; exact Blk.new w1 _ [.slice none 0 0, .slice none 0 0, .bool false])
  have HXb2 : Hid (Only (w1.heap.size ≤ ·) w1 w2) := Lib.hid (by rw [hw2]; exact (Only.refl _ w1).alloc (fun _ h => h) _)
  have HEQb2 : Hid (w2 = w1.alloc (.cells #[.slice none 0 0, .slice none 0 0, .bool false] 93) ∧ b2 = w1.heap.size) := Lib.hid ⟨hw2, hb2⟩
  clear hw2 hb2
  have HB2E : Hid (b2 = b1 + 1) := Lib.hid (by rw [HEQb2.out.2, HEQb1.out.1, HEQb1.out.2]; simp)
  have HO0 := Lib.hid (on_new HXb1.out HXb2.out)
  have HO := HO0
  have HB1 := Lib.hid (Hb1.out.later HXb2.out)
  have HB2 := Hb2
  have HBN : Hid (w.heap.size ≤ b1 ∧ w.heap.size ≤ b2) := Lib.hid (by have := HEQb1.out.2; have := HB2E.out; omega)
  have HLE := Lib.hid hk.len
  have HSN := Lib.hid h
  have HKS := Lib.hid hk
  have HUP : Hid (∀ W, Only (w.heap.size ≤ ·) w W → Only (fun j => F j ∨ w.heap.size ≤ j) w W) := Lib.hid fun W hW => hW.mono fun j hj => .inr hj
  obtain ⟨kb, ko, ky, KP, kp, rfl, hkb, hky, hst⟩ := skd_at hk hlt
  have HY : Hid (l.getD k ([], 0) = ky) := Lib.hid (by rw [List.getD_eq_getElem?_getD, hky]; rfl)
  have HSK : Hid (∀ W, Only (fun j => F j ∨ w.heap.size ≤ j) w W → Src W (.slice KP ky.1.length kp) ky.1) := Lib.hid fun W hW => (hst W hW).2.2
  obtain ⟨z0, z1, zs⟩ := hst w2 (HUP.out _ HO0.out)
  obtain ⟨yk, yr⟩ := ky
  simp only at z0 z1 zs HSK
  have hlt' : (k : Int) < (kn : Int) := by omega
  have HLT := Lib.hid hlt
  clear h hk hky hst zs z1 hkb
  go_enter Try.func39, Try.ntmps39
  go_upto_region 1 with (fail)
  rw [← HEQb1.out.1, ← HEQb1.out.2, ← HEQb2.out.1, ← HB2E.out]
  obtain ⟨q0, q1, q2⟩ := HB1.out.tri
  have f0 := HB1.out.frozen 0
  by_cases hk0 : 0 < k
  · have hk0' : (0 : Int) < (k : Int) := by omega
    go_upto_region 3 with (fail)
    obtain ⟨w3, hw3⟩ : ∃ x, x = w2.setCell ⟨b1, 0, none⟩ (.slice KP yk.length kp) := ⟨_, rfl⟩
    replace HB1 : Hid (Blk w3 b1 93 [.slice KP yk.length kp, .slice H hn hc, .bool b]) := Lib.hid (by rw [hw3]; exact HB1.out.set_ 0 _)
    replace HB2 : Hid (Blk w3 b2 93 [.slice none 0 0, .slice none 0 0, .bool false]) := Lib.hid (by rw [hw3]; exact HB2.out.far (p := ⟨b1, 0, none⟩) (by have := HB2E.out; simp only; omega) _)
    replace HO : Hid (Only (w.heap.size ≤ ·) w w3) := Lib.hid (by rw [hw3]; exact HO.out.setCell (p := ⟨b1, 0, none⟩) HBN.out.1 _)
    rw [← hw3]
    clear hw3 z0 q0 q1 q2 f0
    obtain ⟨q0, q1, q2⟩ := HB1.out.tri
    have f1 := HB1.out.frozen 1
    have f2 := HB1.out.frozen 2
    by_cases hk1 : k + 1 < kn
    · have hk1' : (k : Int) + 1 < (kn : Int) := by omega
      obtain ⟨kb', ko', ky', KP', kp', e', _, hky', hst'⟩ := skd_at HKS.out hk1
      simp only [Option.some.injEq, Addr.mk.injEq, and_true] at e'
      obtain ⟨rfl, rfl⟩ := e'
      have HY2 : Hid (l.getD (k + 1) ([], 0) = ky') := Lib.hid (by rw [List.getD_eq_getElem?_getD, hky']; rfl)
      obtain ⟨yk2, yr2⟩ := ky'
      have HS9 : Hid (∀ W, Only (fun j => F j ∨ w.heap.size ≤ j) w W → Src W (.slice KP' yk2.length kp') yk2) := Lib.hid fun W hW => (hst' W hW).2.2
      obtain ⟨z0', _, _⟩ := hst' _ (HUP.out _ HO.out)
      simp only at z0'
      clear hky' hst'
      skip
      go_upto_region 5 with (fail)
      obtain ⟨w4, hw4⟩ : ∃ x, x = (w3.setCell ⟨b1, 1, none⟩ (.slice KP' yk2.length kp')).setCell ⟨b1, 2, none⟩ (.bool true) := ⟨_, rfl⟩
      replace HB1 : Hid (Blk w4 b1 93 [.slice KP yk.length kp, .slice KP' yk2.length kp', .bool true]) := Lib.hid (by rw [hw4]; exact (HB1.out.set_ 1 _).set_ 2 _)
      replace HB2 : Hid (Blk w4 b2 93 [.slice none 0 0, .slice none 0 0, .bool false]) := Lib.hid (by rw [hw4]; exact (HB2.out.far (p := ⟨b1, 1, none⟩) (by have := HB2E.out; simp only; omega) _).far (p := ⟨b1, 2, none⟩) (by have := HB2E.out; simp only; omega) _)
      replace HO : Hid (Only (w.heap.size ≤ ·) w w4) := Lib.hid (by rw [hw4]; exact (HO.out.setCell (p := ⟨b1, 1, none⟩) HBN.out.1 _).setCell (p := ⟨b1, 2, none⟩) HBN.out.1 _)
      rw [← hw4]
      clear hw4 z0' q0 q1 q2 f1 f2
      obtain ⟨q0, q1, q2⟩ := HB1.out.tri
      obtain ⟨r0, r1, r2⟩ := HB2.out.tri
      obtain ⟨g0, g1, g2⟩ := HB2.out.melt3
      go_wp2_with (fail)
      have HF1 : Hid (Blk (((w4.setCell ⟨b2, 0, none⟩ (.slice KP yk.length kp)).setCell ⟨b2, 1, none⟩ (.slice KP' yk2.length kp')).setCell ⟨b2, 2, none⟩ (.bool true)) b2 93 [.slice KP yk.length kp, .slice KP' yk2.length kp', .bool true]) := Lib.hid (((HB2.out.set_ 0 _).set_ 1 _).set_ 2 _)
      have HF2 : Hid (Only (w.heap.size ≤ ·) w (((w4.setCell ⟨b2, 0, none⟩ (.slice KP yk.length kp)).setCell ⟨b2, 1, none⟩ (.slice KP' yk2.length kp')).setCell ⟨b2, 2, none⟩ (.bool true))) := Lib.hid (((HO.out.setCell (p := ⟨b2, 0, none⟩) HBN.out.2 _).setCell (p := ⟨b2, 1, none⟩) HBN.out.2 _).setCell (p := ⟨b2, 2, none⟩) HBN.out.2 _)
      exact bodyPost_ret (v := .agg #[.slice KP yk.length kp, .slice KP' yk2.length kp', .bool true]) (results_cell1 rfl rfl (load_span HF1.out)) rfl ⟨⟨_, _, _, _, _, _, _, rfl, by unfold underP; rw [if_pos hk0, HY.out, if_pos (by rw [← HLE.out]; exact hk1), HY2.out]; exact fun W hW => ⟨HSK.out W ((HUP.out _ HF2.out).trans (hW.mono fun j hj => hj.imp (fun h => h) fun h => Nat.le_trans HF2.out.size h)), rfl, HS9.out W ((HUP.out _ HF2.out).trans (hW.mono fun j hj => hj.imp (fun h => h) fun h => Nat.le_trans HF2.out.size h))⟩⟩, HF2.out⟩
    · have hk1' : ¬ (k : Int) + 1 < (kn : Int) := by omega
      obtain ⟨r0, r1, r2⟩ := HB2.out.tri
      obtain ⟨g0, g1, g2⟩ := HB2.out.melt3
      go_wp2_with (fail)
      have HF1 : Hid (Blk (((w3.setCell ⟨b2, 0, none⟩ (.slice KP yk.length kp)).setCell ⟨b2, 1, none⟩ (.slice H hn hc)).setCell ⟨b2, 2, none⟩ (.bool b)) b2 93 [.slice KP yk.length kp, .slice H hn hc, .bool b]) := Lib.hid (((HB2.out.set_ 0 _).set_ 1 _).set_ 2 _)
      have HF2 : Hid (Only (w.heap.size ≤ ·) w (((w3.setCell ⟨b2, 0, none⟩ (.slice KP yk.length kp)).setCell ⟨b2, 1, none⟩ (.slice H hn hc)).setCell ⟨b2, 2, none⟩ (.bool b))) := Lib.hid (((HO.out.setCell (p := ⟨b2, 0, none⟩) HBN.out.2 _).setCell (p := ⟨b2, 1, none⟩) HBN.out.2 _).setCell (p := ⟨b2, 2, none⟩) HBN.out.2 _)
      exact bodyPost_ret (v := .agg #[.slice KP yk.length kp, .slice H hn hc, .bool b]) (results_cell1 rfl rfl (load_span HF1.out)) rfl ⟨⟨_, _, _, _, _, _, _, rfl, by unfold underP; rw [if_pos hk0, HY.out, if_neg (by rw [← HLE.out]; exact hk1)]; exact fun W hW => ⟨HSK.out W ((HUP.out _ HF2.out).trans (hW.mono fun j hj => hj.imp (fun h => h) fun h => Nat.le_trans HF2.out.size h)), (HSN.out W ((HUP.out _ HF2.out).trans (hW.mono fun j hj => hj.imp (fun h => h) fun h => Nat.le_trans HF2.out.size h))).2⟩⟩, HF2.out⟩
  · obtain rfl : k = 0 := by omega
    clear hk0 hlt'
    have HK0 : Hid (¬ 0 < 0) := Lib.hid (by omega)
    go_upto_region 3 with (fail)
    clear z0 q0 q1 q2 f0
    obtain ⟨q0, q1, q2⟩ := HB1.out.tri
    have f1 := HB1.out.frozen 1
    have f2 := HB1.out.frozen 2
    by_cases hk1 : 0 + 1 < kn
    · have hk1' : (1 : Int) < (kn : Int) := by omega
      obtain ⟨kb', ko', ky', KP', kp', e', _, hky', hst'⟩ := skd_at HKS.out hk1
      simp only [Option.some.injEq, Addr.mk.injEq, and_true] at e'
      obtain ⟨rfl, rfl⟩ := e'
      have HY2 : Hid (l.getD (0 + 1) ([], 0) = ky') := Lib.hid (by rw [List.getD_eq_getElem?_getD, hky']; rfl)
      obtain ⟨yk2, yr2⟩ := ky'
      have HS9 : Hid (∀ W, Only (fun j => F j ∨ w.heap.size ≤ j) w W → Src W (.slice KP' yk2.length kp') yk2) := Lib.hid fun W hW => (hst' W hW).2.2
      obtain ⟨z0', _, _⟩ := hst' _ (HUP.out _ HO.out)
      simp only at z0'
      clear hky' hst'
      simp only [Nat.zero_add, Nat.one_mul] at z0'
      go_upto_region 5 with (fail)
      obtain ⟨w4, hw4⟩ : ∃ x, x = (w2.setCell ⟨b1, 1, none⟩ (.slice KP' yk2.length kp')).setCell ⟨b1, 2, none⟩ (.bool true) := ⟨_, rfl⟩
      replace HB1 : Hid (Blk w4 b1 93 [.slice L ln lc, .slice KP' yk2.length kp', .bool true]) := Lib.hid (by rw [hw4]; exact (HB1.out.set_ 1 _).set_ 2 _)
      replace HB2 : Hid (Blk w4 b2 93 [.slice none 0 0, .slice none 0 0, .bool false]) := Lib.hid (by rw [hw4]; exact (HB2.out.far (p := ⟨b1, 1, none⟩) (by have := HB2E.out; simp only; omega) _).far (p := ⟨b1, 2, none⟩) (by have := HB2E.out; simp only; omega) _)
      replace HO : Hid (Only (w.heap.size ≤ ·) w w4) := Lib.hid (by rw [hw4]; exact (HO.out.setCell (p := ⟨b1, 1, none⟩) HBN.out.1 _).setCell (p := ⟨b1, 2, none⟩) HBN.out.1 _)
      rw [← hw4]
      clear hw4 z0' q0 q1 q2 f1 f2
      obtain ⟨q0, q1, q2⟩ := HB1.out.tri
      obtain ⟨r0, r1, r2⟩ := HB2.out.tri
      obtain ⟨g0, g1, g2⟩ := HB2.out.melt3
      go_wp2_with (fail)
      have HF1 : Hid (Blk (((w4.setCell ⟨b2, 0, none⟩ (.slice L ln lc)).setCell ⟨b2, 1, none⟩ (.slice KP' yk2.length kp')).setCell ⟨b2, 2, none⟩ (.bool true)) b2 93 [.slice L ln lc, .slice KP' yk2.length kp', .bool true]) := Lib.hid (((HB2.out.set_ 0 _).set_ 1 _).set_ 2 _)
      have HF2 : Hid (Only (w.heap.size ≤ ·) w (((w4.setCell ⟨b2, 0, none⟩ (.slice L ln lc)).setCell ⟨b2, 1, none⟩ (.slice KP' yk2.length kp')).setCell ⟨b2, 2, none⟩ (.bool true))) := Lib.hid (((HO.out.setCell (p := ⟨b2, 0, none⟩) HBN.out.2 _).setCell (p := ⟨b2, 1, none⟩) HBN.out.2 _).setCell (p := ⟨b2, 2, none⟩) HBN.out.2 _)
      exact bodyPost_ret (v := .agg #[.slice L ln lc, .slice KP' yk2.length kp', .bool true]) (results_cell1 rfl rfl (load_span HF1.out)) rfl ⟨⟨_, _, _, _, _, _, _, rfl, by unfold underP; rw [if_neg HK0.out, if_pos (by rw [← HLE.out]; exact hk1), HY2.out]; exact fun W hW => ⟨(fun W hW => (HSN.out W hW).1) W ((HUP.out _ HF2.out).trans (hW.mono fun j hj => hj.imp (fun h => h) fun h => Nat.le_trans HF2.out.size h)), rfl, HS9.out W ((HUP.out _ HF2.out).trans (hW.mono fun j hj => hj.imp (fun h => h) fun h => Nat.le_trans HF2.out.size h))⟩⟩, HF2.out⟩
    · have hk1' : ¬ (1 : Int) < (kn : Int) := by omega
      obtain ⟨r0, r1, r2⟩ := HB2.out.tri
      obtain ⟨g0, g1, g2⟩ := HB2.out.melt3
      go_wp2_with (fail)
      have HF1 : Hid (Blk (((w2.setCell ⟨b2, 0, none⟩ (.slice L ln lc)).setCell ⟨b2, 1, none⟩ (.slice H hn hc)).setCell ⟨b2, 2, none⟩ (.bool b)) b2 93 [.slice L ln lc, .slice H hn hc, .bool b]) := Lib.hid (((HB2.out.set_ 0 _).set_ 1 _).set_ 2 _)
      have HF2 : Hid (Only (w.heap.size ≤ ·) w (((w2.setCell ⟨b2, 0, none⟩ (.slice L ln lc)).setCell ⟨b2, 1, none⟩ (.slice H hn hc)).setCell ⟨b2, 2, none⟩ (.bool b))) := Lib.hid (((HO.out.setCell (p := ⟨b2, 0, none⟩) HBN.out.2 _).setCell (p := ⟨b2, 1, none⟩) HBN.out.2 _).setCell (p := ⟨b2, 2, none⟩) HBN.out.2 _)
      exact bodyPost_ret (v := .agg #[.slice L ln lc, .slice H hn hc, .bool b]) (results_cell1 rfl rfl (load_span HF1.out)) rfl ⟨⟨_, _, _, _, _, _, _, rfl, by unfold underP; rw [if_neg HK0.out, if_neg (by rw [← HLE.out]; exact hk1)]; exact fun W hW => ⟨(fun W hW => (HSN.out W hW).1) W ((HUP.out _ HF2.out).trans (hW.mono fun j hj => hj.imp (fun h => h) fun h => Nat.le_trans HF2.out.size h)), (HSN.out W ((HUP.out _ HF2.out).trans (hW.mono fun j hj => hj.imp (fun h => h) fun h => Nat.le_trans HF2.out.size h))).2⟩⟩, HF2.out⟩
end Go.Proofs.Ytnjhpjpeeehagaa
