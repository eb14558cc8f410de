/-
  Several texts, as one.
-/
import Derived.Test.YtbgnfocfnjlabaaDoorOas
import Derived.Test.YtbgnfocfnjlabaaDoorPfo
import Derived.Test.YtbgnfocfnjlabaaDoorOde
import Derived.Test.YtbgnfocfnjlabaaDoorGh
import Derived.Test.YtbgnfocfnjlabaaDoorLnk
/-
  ask: its bytes are a row of the call's own.
-/
set_option linter.unusedVariables false
namespace Go.Proofs.YtbgnfocfnjlabaaDoor
open Go.RowKit

theorem Row8.keepAt {w w' : World} {F : Nat → Prop} {b : Nat} {A : Option Addr} {n c : Nat} {x : Bytes} (h : Row8 w b (.slice A n c) x) (ho : Only F w w') (hF : ∀ ad, A = some ad → ¬ F ad.block) : Row8 w' b (.slice A n c) x := by
  obtain ⟨h1, h2⟩ := h
  refine ⟨h1, ?_⟩
  rcases h2 with h2 | ⟨g, cap, cur, e, hb, hg, h4⟩
  · exact .inl h2
  · simp only [Value.slice.injEq] at e
    obtain ⟨rfl, e2, e3⟩ := e
    exact .inr ⟨g, cap, cur, by rw [e2, e3], hb, (ho.block g (hF _ rfl)).trans hg, h4⟩
theorem Row8.later {w w' : World} {b : Nat} {v : Value} {x : Bytes} (h : Row8 w b v x) (ho : Only (w.heap.size ≤ ·) w w') : Row8 w' b v x := by
  obtain ⟨A, c, rfl, _, _, _, _, h6⟩ := h.new
  exact h.keepAt ho fun ad e => Nat.not_le.2 (h6 ad e).2
section
variable {n₀ : Nat} {F : Nat → Prop} {J : List (Int × Int) → World → Prop} {f : Nat} {lb : Array Value} {ans : Int → Int → Int × Bytes}
set_option maxRecDepth 100000 in
set_option maxHeartbeats 3200000 in
theorem ask_o (R : Rdg n₀ F J f lb ans) (s : List (Int × Int)) (w : World) (g sz id many : Int) (hJ : J s w) (hn : n₀ ≤ w.heap.size) (hm : 1 ≤ many) (hm2 : many ≤ 1000) :
    Calls Tryd.prog 27 #[.agg #[.func (.func f) #[] lb, .int .i64 g, .int .i64 sz], .int .i64 id, .int .i64 many] w fun e w' => ∃ v, e = .returned (.tuple #[v, .int .i64 (askP ans id many).1]) ∧ Row8 w' w.heap.size v (askP ans id many).2 ∧ J (s ++ [(id, many)]) w' ∧ Only (fun k => F k ∨ w.heap.size ≤ k) w w' := by
  have hmf : ∀ (fn : Fn) (first cap : Array Value) (w : World), (Instr.makeFunc fn first cap).run Tryd.prog w = .ok (.func fn first cap) w := fun _ _ _ _ => rfl
  have eg := R.enters
  have HR := Lib.hid R
  have HC := Lib.hid (ask_boxes R s w _ (.func (.func f) #[] lb) (.int .i64 g) (.int .i64 sz) id many hm hJ hn rfl).2
  have HLN := Lib.hid (R.len id many)
  obtain ⟨z, hz⟩ : ∃ z, z = (ans id many).1 := ⟨_, rfl⟩
  obtain ⟨b, hb⟩ : ∃ b, b = (ans id many).2 := ⟨_, rfl⟩
  unfold askP
  rw [← hz, ← hb] at HC ⊢
  rw [← hb] at HLN
  clear R hJ hz hb
  by_cases h1 : z = 0
  · subst h1
    rw [if_neg (by simp)]
    by_cases h2 : (b.length : Int) = many * 256
    · have h2' : ((b.length : Int) != many * 256) = false := by rw [bne_eq_false_iff_eq]; exact h2
      rw [if_neg (by simpa using h2)]
      clear h2
      go_enter_defers Tryd.func27, Tryd.ntmps27
      go_wp2_with (first | (go_at_fn f; refine HC.out.mono ?_; rintro e W1 ⟨v1, rfl, hs1, hj1, ho1, h6, h7⟩; have HS1 := Lib.hid hs1; (obtain ⟨A1, c1, rfl, _⟩ := hs1); have HFIN := Lib.hid (ask_fin HR.out hn hj1 ho1); have HZ1 := Lib.hid ho1.size; have k6 := h6.cell 0; have k7 := h7.cell 0; have f6 := h6.frozen 0; have f7 := h7.frozen 0; clear hj1 ho1) | (go_at_call 45; obtain ⟨W2, hW2⟩ : ∃ W, W = (W1.setCell ⟨w.heap.size + 1, 0, none⟩ (.slice A1 b.length c1)).setCell ⟨w.heap.size + 1 + 1, 0, none⟩ (.int .i64 0) := ⟨_, rfl⟩; rw [← hW2]; have HO2 : Hid (Only (w.heap.size ≤ ·) W1 W2) := Lib.hid (by rw [hW2]; exact ((Only.refl _ W1).setCell (p := ⟨w.heap.size + 1, 0, none⟩) (by simp only; omega) _).setCell (p := ⟨w.heap.size + 1 + 1, 0, none⟩) (by simp only; omega) _); have H6 : Blk W2 (w.heap.size + 1) 27 [.slice A1 b.length c1] := (by rw [hW2]; exact (h6.set_ 0 _).far (by simp) _); have H7 : Blk W2 (w.heap.size + 1 + 1) 29 [.int .i64 0] := (by rw [hW2]; exact (h7.far (p := ⟨w.heap.size + 1, 0, none⟩) (by simp) _).set_ 0 _); have HS2 : Hid (Src W2 (.slice A1 b.length c1) b) := Lib.hid (by rw [hW2]; exact ask_src HS1.out h6 h7 _ _); clear k6 k7 f6 f7 h6 h7 hW2; refine (Clone_c W2 _ b HS2.out (by have := HLN.out; omega)).mono ?_; rintro e W3 ⟨v3, rfl, hv3, ho3⟩; have HV3 : Hid (Row8 W3 W2.heap.size v3 b) := Lib.hid hv3; (obtain ⟨A3, c3, rfl, _⟩ := New.own hv3); have G6 := H6.later ho3; have G7 := H7.later ho3; have k6 := G6.cell 0; have k7 := G7.cell 0; have f6 := G6.frozen 0; have f7 := G7.frozen 0; have HO3 := Lib.hid ho3; clear ho3 hv3))
      refine leaves_cons (f := 44) (args := #[.pointer (some ⟨w.heap.size + 1, 0, none⟩), .pointer (some ⟨w.heap.size + 1 + 1, 0, none⟩)]) (by simp) (by simp [go_sem]) ?_
      refine (ask1_idle _ _ _).mono ?_
      rintro e u' w'' ⟨rfl, rfl, rfl⟩
      simp [Leaves, settle, results, Tryd.results27, go_sem, k6, k7]
      have hz3 : w.heap.size + 1 + 1 < W2.heap.size := H7.lt
      refine ⟨?_, HFIN.out _ ?_⟩
      · refine ((HV3.out.keepAt (((Only.refl (fun k => k = w.heap.size + 1 ∨ k = w.heap.size + 1 + 1) W3).setCell (p := ⟨w.heap.size + 1, 0, none⟩) (.inl rfl) (.slice A3 b.length c3)).setCell (p := ⟨w.heap.size + 1 + 1, 0, none⟩) (.inr rfl) (.int .i64 0)) fun ad e h => ?_).mono (Nat.le_trans HZ1.out HO2.out.size))
        have h3 := HV3.out.new.from_ ad e
        rcases h with h | h <;> omega
      · exact (((HO2.out.trans (HO3.out.mono fun k h => Nat.le_trans (Nat.le_trans HZ1.out HO2.out.size) h)).setCell (p := ⟨w.heap.size + 1, 0, none⟩) (by simp only; omega) _).setCell (p := ⟨w.heap.size + 1 + 1, 0, none⟩) (by simp only; omega) _)
    · have h2' : ((b.length : Int) != many * 256) = true := by rw [bne_iff_ne]; exact h2
      rw [if_pos (by simpa using h2)]
      clear h2
      go_enter_defers Tryd.func27, Tryd.ntmps27
      go_wp2_with (go_at_fn f; refine HC.out.mono ?_; rintro e W1 ⟨v1, rfl, hs1, hj1, ho1, h6, h7⟩; have HS1 := Lib.hid hs1; (obtain ⟨A1, c1, rfl, _⟩ := hs1); have HFIN := Lib.hid (ask_fin HR.out hn hj1 ho1); have HZ1 := Lib.hid ho1.size; have k6 := h6.cell 0; have k7 := h7.cell 0; have f6 := h6.frozen 0; have f7 := h7.frozen 0; clear hj1 ho1)
      obtain ⟨W4, hW4⟩ : ∃ W, W = (((W1.setCell ⟨w.heap.size + 1, 0, none⟩ (.slice A1 b.length c1)).setCell ⟨w.heap.size + 1 + 1, 0, none⟩ (.int .i64 0)).setCell ⟨w.heap.size + 1, 0, none⟩ (.slice none 0 0)).setCell ⟨w.heap.size + 1 + 1, 0, none⟩ (.int .i64 80) := ⟨_, rfl⟩
      rw [← hW4]
      have HO4 : Hid (Only (w.heap.size ≤ ·) W1 W4) := Lib.hid (by rw [hW4]; exact (((((Only.refl _ W1).setCell (p := ⟨w.heap.size + 1, 0, none⟩) (by simp only; omega) _).setCell (p := ⟨w.heap.size + 1 + 1, 0, none⟩) (by simp only; omega) _).setCell (p := ⟨w.heap.size + 1, 0, none⟩) (by simp only; omega) _).setCell (p := ⟨w.heap.size + 1 + 1, 0, none⟩) (by simp only; omega) _))
      have H6 : Blk W4 (w.heap.size + 1) 27 [.slice none 0 0] := by rw [hW4]; exact (((h6.set_ 0 _).far (by simp) _).set_ 0 _).far (by simp) _
      have H7 : Blk W4 (w.heap.size + 1 + 1) 29 [.int .i64 80] := by rw [hW4]; exact (((h7.far (p := ⟨w.heap.size + 1, 0, none⟩) (by simp) _).set_ 0 _).far (p := ⟨w.heap.size + 1, 0, none⟩) (by simp) _).set_ 0 _
      clear h6 h7 k6 k7 f6 f7 hW4
      have k6 := H6.cell 0
      have k7 := H7.cell 0
      refine leaves_cons (f := 44) (args := #[.pointer (some ⟨w.heap.size + 1, 0, none⟩), .pointer (some ⟨w.heap.size + 1 + 1, 0, none⟩)]) (by simp) (by simp [go_sem]) ?_
      refine (ask1_idle _ _ _).mono ?_
      rintro e u' w'' ⟨rfl, rfl, rfl⟩
      simp [Leaves, settle, results, Tryd.results27, go_sem, k6, k7]
      exact ⟨Row8.nil_ _ _, HFIN.out _ HO4.out⟩
  · have h1' : (z != 0) = true := by rw [bne_iff_ne]; exact h1
    rw [if_pos h1]
    clear h1
    go_enter_defers Tryd.func27, Tryd.ntmps27
    go_wp2_with (go_at_fn f; refine HC.out.mono ?_; rintro e W1 ⟨v1, rfl, hs1, hj1, ho1, h6, h7⟩; have HS1 := Lib.hid hs1; (obtain ⟨A1, c1, rfl, _⟩ := hs1); have HFIN := Lib.hid (ask_fin HR.out hn hj1 ho1); have HZ1 := Lib.hid ho1.size; have k6 := h6.cell 0; have k7 := h7.cell 0; have f6 := h6.frozen 0; have f7 := h7.frozen 0; clear hj1 ho1)
    obtain ⟨W2, hW2⟩ : ∃ W, W = (W1.setCell ⟨w.heap.size + 1, 0, none⟩ (.slice A1 b.length c1)).setCell ⟨w.heap.size + 1 + 1, 0, none⟩ (.int .i64 z) := ⟨_, rfl⟩
    rw [← hW2]
    have HO2 : Hid (Only (w.heap.size ≤ ·) W1 W2) := Lib.hid (by rw [hW2]; exact ((Only.refl _ W1).setCell (p := ⟨w.heap.size + 1, 0, none⟩) (by simp only; omega) _).setCell (p := ⟨w.heap.size + 1 + 1, 0, none⟩) (by simp only; omega) _)
    have H6 : Blk W2 (w.heap.size + 1) 27 [.slice A1 b.length c1] := by rw [hW2]; exact (h6.set_ 0 _).far (by simp) _
    have H7 : Blk W2 (w.heap.size + 1 + 1) 29 [.int .i64 z] := by rw [hW2]; exact (h7.far (p := ⟨w.heap.size + 1, 0, none⟩) (by simp) _).set_ 0 _
    clear h6 h7 k6 k7 f6 f7 hW2
    have k6 := H6.cell 0
    have k7 := H7.cell 0
    have f6 := H6.frozen 0
    have f7 := H7.frozen 0
    go_region
    all_goals go_wp2
    all_goals
      refine leaves_cons (f := 44) (args := #[.pointer (some ⟨w.heap.size + 1, 0, none⟩), .pointer (some ⟨w.heap.size + 1 + 1, 0, none⟩)]) (by simp) (by simp [go_sem]) ?_
      refine (ask1_idle _ _ _).mono ?_
      rintro e u' w'' ⟨rfl, rfl, rfl⟩
      simp [Leaves, settle, results, Tryd.results27, go_sem, k6, k7]
      refine ⟨Row8.nil_ _ _, HFIN.out _ ?_⟩
      exact ((HO2.out.setCell (p := ⟨w.heap.size + 1, 0, none⟩) (by simp only; omega) _).setCell (p := ⟨w.heap.size + 1 + 1, 0, none⟩) (by simp only; omega) _).drew
end
end Go.Proofs.YtbgnfocfnjlabaaDoor

/-
  Decode of an extent, whose reading writes its first page.
-/
set_option linter.unusedVariables false
namespace Go.Proofs.YtbgnfocfnjlabaaDoor
open Go.RowKit

section
variable {n₀ : Nat} {F : Nat → Prop} {J : List (Int × Int) → World → Prop} {f : Nat} {lb : Array Value} {ans : Int → Int → Int × Bytes}
/-- A value, its pages and whether it is one came back; written are the blocks F, and those from B on. -/
def GaveX (J : List (Int × Int) → World → Prop) (F : Nat → Prop) (s : List (Int × Int)) (VR : Bytes × List Int × Bool) (B : Nat) (W : World) (e : Ending) (w' : World) : Prop := ∃ v i, e = .returned (.tuple #[v, i, .bool VR.2.2]) ∧ Src w' v VR.1 ∧ Ints w' i VR.2.1 ∧ J s w' ∧ Only (fun k => F k ∨ B ≤ k) W w'
set_option maxRecDepth 100000 in
set_option maxHeartbeats 6400000 in
theorem dec_ext (R : Rdg n₀ F J f lb ans) (s : List (Int × Int)) (w : World) (id sz : Int) (hJ : J s w) (hn : n₀ ≤ w.heap.size) (hG : Gens w)
    (h1 : (askP ans id 1).1 = 0) (h2 : hdE (askP ans id 1).2 = 0) (g z : Int) (hgg : g = (hdG (askP ans id 1).2 : Nat)) (h3 : manyP g sz = z) (hz : z ≠ 0) (hsg : sgl g = false) (s' : List (Int × Int)) (VR : Bytes × List Int × Bool)
    (HVA : ∀ (W : World) (A : Option Addr) (c : Nat), J (s ++ [(id, 1)]) W → w.heap.size < W.heap.size → Gens W → Row8 W (w.heap.size + 1) (.slice A (askP ans id 1).2.length c) (askP ans id 1).2 → Calls Tryd.prog 54 #[.agg #[.func (.func f) #[] lb, .int .i64 g, .int .i64 sz], .int .i64 id, .slice A (askP ans id 1).2.length c] W (GaveX J F s' VR (w.heap.size + 1) W)) :
    Calls Tryd.prog 12 #[.func (.func f) #[] lb, .int .i64 id, .int .i64 sz] w (if VR.2.2 = true then DecYes J F w s' g VR else DecNo J F w s' 80) := by
  obtain ⟨W0, hW0⟩ : ∃ W, W = w.alloc (.cells #[.func (.func f) #[] lb, .int .i64 0, .int .i64 sz] 54) := ⟨_, rfl⟩
  have hO0 : Only (w.heap.size ≤ ·) w W0 := by rw [hW0]; exact (Only.refl _ w).alloc (fun _ h => h) _
  have HB0 : Hid (Blk W0 w.heap.size 54 [.func (.func f) #[] lb, .int .i64 0, .int .i64 sz]) := Lib.hid (by rw [hW0]; exact Blk.new w 54 _)
  have HZ0 : Hid (W0.heap.size = w.heap.size + 1) := Lib.hid (by rw [hW0]; simp)
  have HO0 : Hid (Only (fun k => F k ∨ w.heap.size ≤ k) w W0) := Lib.hid (hO0.mono fun k h => .inr h)
  have HA : Hid (Calls Tryd.prog 27 #[.agg #[.func (.func f) #[] lb, .int .i64 0, .int .i64 sz], .int .i64 id, .int .i64 1] W0 fun e w' => ∃ v, e = .returned (.tuple #[v, .int .i64 (askP ans id 1).1]) ∧ Row8 w' W0.heap.size v (askP ans id 1).2 ∧ J (s ++ [(id, 1)]) w' ∧ Only (fun k => F k ∨ W0.heap.size ≤ k) W0 w') := Lib.hid
    (ask_o R s W0 0 sz id 1 (R.keep s w W0 hJ hn (hO0.mono fun k h => Nat.le_trans hn h)) (Nat.le_trans hn hO0.size) (by omega) (by omega))
  have HR := Lib.hid R
  have HG := Lib.hid hG
  have HH : Hid (∀ W v, Gens W → Src W v (askP ans id 1).2 → Calls Tryd.prog 28 #[v] W (Told W (hdV (askP ans id 1).2))) := Lib.hid fun W v hW hv => HeadOf_c W v _ hW hv (Nat.le_trans (askP_len ans id) (by omega))
  have hfn := fun w => func_nil (f := f) (lb := lb) w
  have hst : ∀ (w' : World) (a : Addr) (m : Mode), (store a (.func (.func f) #[] lb) m).run Tryd.prog w' = stored Tryd.prog w' a (.func (.func f) #[] lb) m := fun w' a m => run_store_func _ _ _
  clear hO0 R hJ hG
  rw [h1] at HA
  obtain ⟨he, _, _⟩ := hdV_ok h2
  rw [he] at HH
  unfold hdOk at HH
  have HM : Hid (∀ W, Gens W → Calls Tryd.prog 7 #[.int .i64 g, .int .i64 sz] W (Told W (.int .i64 z))) := Lib.hid fun W hW => by have := OMany_c W g sz hW; rwa [h3] at this
  have HRD : Hid (∀ W, Calls Tryd.prog 29 #[.agg #[.func (.func f) #[] lb, .int .i64 g, .int .i64 sz]] W (Told W (.func (.func 54) #[.agg #[.func (.func f) #[] lb, .int .i64 g, .int .i64 sz]] #[]))) := Lib.hid fun W => by have := OreadingOf_c (f := f) (lb := lb) W g sz; rw [hsg] at this; exact this
  have HVH := Lib.hid HVA
  have hz' : (z == 0) = false := by rw [beq_eq_false_iff_ne]; exact hz
  rw [← hgg] at HH
  generalize hdK (askP ans id 1).2 = k1 at *
  generalize hdN (askP ans id 1).2 = k3 at *
  generalize hdX (askP ans id 1).2 = k4 at *
  generalize (askP ans id 1).2 = b at *
  clear h1 h2 he h3 hgg HVA hsg hz
  obtain ⟨ok, hok⟩ : ∃ ok, ok = VR.2.2 := ⟨_, rfl⟩
  have HOK := Lib.hid hok
  obtain ⟨QQ, hQQ⟩ : ∃ QQ, QQ = (if VR.2.2 = true then DecYes J F w s' g VR else DecNo J F w s' 80) := ⟨_, rfl⟩
  have HQQ := Lib.hid hQQ
  rw [← hQQ]
  clear hok hQQ
  go_enter Tryd.func12, Tryd.ntmps12
  go_upto_region 10 with (first
    | (go_at_call 27; go_loud (rw [← hW0]; refine HA.out.mono ?_; rintro e w1 ⟨v1, rfl, hv1, hj1, ho1⟩; have HV1 := Lib.hid hv1; (obtain ⟨A1, c1, rfl, _⟩ := hv1.new); have HJ1 := Lib.hid hj1; have HB1 := Lib.hid (HB0.out.only ho1 (dec_low HR.out hn HZ0.out)); have HO1 := Lib.hid (HO0.out.trans (ho1.mono fun k h => h.imp (fun h => h) fun h => by have := HZ0.out; omega)); clear hj1 ho1 hW0))
    | (go_at_call 28; go_loud (refine (HH.out w1 _ (gens_keep HG.out HO1.out HR.out.zero) HV1.out.src).mono ?_; rintro e w2 ⟨rfl, ho2⟩; have HO2 := Lib.hid ho2; have hz1 := HO1.out.size; clear ho2))
    | (go_at_call 7; go_loud (refine (HM.out _ ((gens_keep HG.out HO1.out HR.out.zero).later (HO2.out.alloc (fun _ h => h) _))).mono ?_; rintro e w3 ⟨rfl, ho3⟩; have HO3 := Lib.hid (on_new (HO2.out.alloc (fun _ h => h) _) ho3); have HH3 := Lib.hid (Blk.later (Blk.new w2 57 [.int .i64 (k1 : Nat), .int .i64 g, .int .i64 (k3 : Nat), .int .i64 (k4 : Nat)]) ho3); have hl2 := HO2.out.size; clear ho3)))
  have hhd := HH3.out.cell 1
  have HB3 := Lib.hid (HB1.out.later HO3.out)
  obtain ⟨q0, q1, q2⟩ := HB3.out.tri
  have qf := HB3.out.frozen 1
  have hw3 := HB3.out.lt
  obtain ⟨W5, hW5⟩ : ∃ W, W = w3.setCell ⟨w.heap.size, 1, none⟩ (.int .i64 g) := ⟨_, rfl⟩
  have HB5 : Hid (Blk W5 w.heap.size 54 [.func (.func f) #[] lb, .int .i64 g, .int .i64 sz]) := Lib.hid (by rw [hW5]; exact HB3.out.set_ 1 _)
  have HO5 : Hid (Only (· = w.heap.size) w3 W5) := Lib.hid (by rw [hW5]; exact (Only.refl (· = w.heap.size) w3).setCell (p := ⟨w.heap.size, 1, none⟩) rfl _)
  have HJO := Lib.hid (dec_fin HR.out hn HJ1.out HO1.out HO3.out)
  have HO6 : Hid (Only (fun k => F k ∨ w.heap.size ≤ k) w W5) := Lib.hid (HJO.out.2.trans (HO5.out.mono fun k h => Or.inr (Nat.le_of_eq h.symm)))
  have HJ5 := Lib.hid (HR.out.keep _ w3 W5 HJO.out.1 (Nat.le_trans hn HJO.out.2.size) (HO5.out.mono fun k h => by rw [h]; exact hn))
  have HG5 := Lib.hid (gens_keep HG.out HO6.out HR.out.zero)
  have HV5 : Hid (Row8 W5 (w.heap.size + 1) (.slice A1 b.length c1) b) := Lib.hid (((HV1.out.later HO3.out).keepAt HO5.out fun ad e h => by have := HV1.out.new.from_ ad e; have := HZ0.out; omega).mono (by have := HZ0.out; omega))
  have hn5 : w.heap.size < W5.heap.size := HB5.out.lt
  cases ok
  all_goals go_wp2_with (first
    | (go_at_call 29; go_loud (rw [← hW5]; refine (HRD.out _).mono ?_; rintro e w6 ⟨rfl, ho6⟩; have HJ6 := Lib.hid (dec_fin HR.out hn HJ5.out HO6.out ho6); have HG6 := Lib.hid (HG5.out.later ho6); have HV6 := Lib.hid (HV5.out.later ho6); have HB6 := Lib.hid (HB5.out.later ho6); have hn6 := Nat.lt_of_lt_of_le hn5 ho6.size; clear hW5 ho6))
    | (go_at_call 54; go_loud (refine (HVH.out w6 A1 c1 HJ6.out.1 hn6 HG6.out HV6.out).mono ?_; rintro e w7 ⟨v, i, rfl, hv, hi, hj, ho⟩; rw [← HOK.out]; have HV7 := Lib.hid hv; have HI7 := Lib.hid hi; have HJ7 := Lib.hid hj; have HB7 := Lib.hid (HB6.out.only ho (fun h => h.elim (fun h => by have := HR.out.low _ h; omega) fun h => by omega)); (obtain ⟨b0, b1, b2⟩ := HB7.out.tri); have HO7 := Lib.hid (HJ6.out.2.trans (ho.mono fun k h => h.imp (fun h => h) fun h => by omega)); clear hv hi hj ho)))
  · refine bodyPost_ret (results_tmp4 rfl _ _ _) rfl ?_
    rw [HQQ.out, ← HOK.out, if_neg (by simp)]
    exact ⟨rfl, HJ7.out, HO7.out⟩
  · refine bodyPost_ret (results_tmp4 rfl _ _ _) rfl ?_
    rw [HQQ.out, ← HOK.out, if_pos rfl]
    exact ⟨v, i, rfl, HV7.out, HI7.out, HJ7.out, HO7.out⟩
end
end Go.Proofs.YtbgnfocfnjlabaaDoor

/-
  extent.value: the pages behind the first one, at once.
-/
set_option linter.unusedVariables false
namespace Go.Proofs.YtbgnfocfnjlabaaDoor
open Go.RowKit

/-- The pages of an extent. -/
def idsX (id : Int) (M : Nat) : List Int := (List.range M).map fun (k : Nat) => id + (k : Int)
/-- What is asked for. -/
def extS (id : Int) (M : Nat) : List (Int × Int) := if mayP 3 (idsX id M) = true ∧ 2 ≤ M then [(id + 1, (M : Int) - 1)] else []
/-- What is made of all its bytes. -/
def extW (N M : Nat) (b : Bytes) (is : List Int) : Bytes × List Int × Bool := if isSealed b 4 = true then (((clrB b).drop 16).take N, is, decide (clrB b = bareB (((clrB b).drop 16).take N) M)) else ([], [], false)
/-- What extent.value tells. -/
def extR (ans : Int → Int → Int × Bytes) (id : Int) (M N : Nat) (first : Bytes) : Bytes × List Int × Bool :=
  if mayP 3 (idsX id M) = true then (if 2 ≤ M then (if (askP ans (id + 1) ((M : Int) - 1)).1 = 0 then extW N M (first ++ (askP ans (id + 1) ((M : Int) - 1)).2) (idsX id M) else ([], [], false)) else extW N M first (idsX id M)) else ([], [], false)
theorem idsX_succ (id : Int) (t : Nat) : idsX id (t + 1) = idsX id t ++ [id + (t : Int)] := by unfold idsX; rw [List.range_succ, List.map_append]; rfl
theorem idsX_len (id : Int) (t : Nat) : (idsX id t).length = t := by simp [idsX]
theorem gens_keepB {w W : World} {F : Nat → Prop} {B : Nat} (h : Gens w) (ho : Only (fun k => F k ∨ B ≤ k) w W) (h0 : ¬ F 1) (hb : 1 < B) : Gens W := ⟨Nat.lt_of_lt_of_le h.1 ho.size, fun i v hv => (ho.cell (p := ⟨1, i, none⟩) (fun h1 => h1.elim h0 fun h1 => by simp only at h1; omega)).trans (h.2 i v hv)⟩
theorem ids_keep {w W : World} {F : Nat → Prop} {b s n : Nat} {t : TypeId} {v : Value} {xs : List Value} (h : w.ownsRow b t s v n xs) (ho : Only F w W) (hF : ∀ k, v.ownBlock = some k → ¬ F k) : W.ownsRow b t s v n xs := by
  obtain ⟨h1, h2⟩ := h
  refine ⟨h1, ?_⟩
  rcases h2 with h2 | ⟨g, cap, cur, rfl, hb, hg, h4⟩
  · exact .inl h2
  · exact .inr ⟨g, cap, cur, rfl, hb, (ho.block g (hF g rfl)).trans hg, h4⟩
theorem row_sub {w : World} {B g L cap N : Nat} {xs : Bytes} (h : Row8 w B (.slice (some ⟨g, 0, none⟩) L cap) xs) (hl : xs.length = L) (h1 : N + 16 ≤ L) (h2 : 16 ≤ cap) : Src w (.slice (some ⟨g, 16, none⟩) N (cap - 16)) ((xs.drop 16).take N) := by
  obtain ⟨A, c, e, ht, _, h4, h5⟩ := h.src
  simp only [Value.slice.injEq] at e
  obtain ⟨rfl, _, rfl⟩ := e
  have hn : ((xs.drop 16).take N).length = N := by rw [List.length_take, List.length_drop]; omega
  refine ⟨_, cap - 16, by rw [hn], ⟨rfl, fun hn0 => ⟨_, rfl, fun j u hu => ?_⟩⟩, (fun e => by cases e), by rw [hn]; omega, by omega⟩
  have h6 := ht.src _ rfl (16 + j) u (by
    rw [cb_take, cb_drop, List.getElem?_take] at hu
    split at hu
    · rwa [List.getElem?_drop] at hu
    · cases hu)
  rw [Addr.add_lit] at h6 ⊢
  rwa [show 0 + (16 + j) = 16 + j by omega] at h6
theorem askP_full (ans : Int → Int → Int × Bytes) (id : Int) (m : Int) (hm : 0 ≤ m) : (askP ans id m).1 = 0 → (askP ans id m).2.length = (m.toNat) * 256 := by
  unfold askP
  split
  · rename_i h; intro h2; exact absurd h2 h
  · split
    · intro h; cases h
    · rename_i h; intro _; simp only; omega
section
variable {n₀ : Nat} {F : Nat → Prop} {J : List (Int × Int) → World → Prop} {f : Nat} {lb : Array Value} {ans : Int → Int → Int × Bytes}
theorem ext_first {w wr wb wc : World} {B : Nat} {v : Value} {x : Bytes} (R : Rdg n₀ F J f lb ans) (hn : n₀ ≤ B) (hBw : B ≤ w.heap.size) (h : Row8 w B v x) (h1 : Only (w.heap.size ≤ ·) w wr) (h2 : Only (wr.heap.size ≤ ·) wr wb) (h3 : Only (fun k => F k ∨ wb.heap.size ≤ k) wb wc) : Row8 wc B v x := by
  have h4 := (h.later (on_new h1 h2))
  exact ids_keep h4 h3 fun k hk hF => by
    have h5 := World.ownsRow.lt h4 k hk
    rcases hF with hF | hF
    · have := R.low k hF; omega
    · omega
theorem ext_app {w wr wb wc wq : World} {B M : Nat} {v v' IV : Value} {is : List Int} {cs : List Value} {s' : List (Int × Int)} {first ab bb : Bytes} (R : Rdg n₀ F J f lb ans) (hn : n₀ ≤ B) (hBw : B ≤ w.heap.size) (h : Row8 w B v first) (h1 : Only (w.heap.size ≤ ·) w wr) (h2 : Only (wr.heap.size ≤ ·) wr wb) (h3 : Only (fun k => F k ∨ wb.heap.size ≤ k) wb wc)
    (hx : Blk wr w.heap.size 94 cs) (hi : wr.ownsRow (w.heap.size + 1) 3 1 IV M (ci is)) (hj : J s' wc) (ho : wq.ownsRow B 5 1 v' (first.length + ab.length) (cb first ++ cb ab)) (hg : wc.grownBy wq v.ownBlock) (hat : v'.ownBlock = v.ownBlock ∨ v'.ownBlock = some wc.heap.size) (hbb : bb = first ++ ab) :
    Hid (Row8 wq B v' bb) ∧ Hid (Blk wq w.heap.size 94 cs) ∧ Hid (wq.ownsRow (w.heap.size + 1) 3 1 IV M (ci is)) ∧ Hid (∀ k, v'.ownBlock = some k → k ≠ w.heap.size ∧ IV.ownBlock ≠ some k) ∧ Hid (Only (fun k => F k ∨ B ≤ k) w wq) ∧ Hid (J s' wq) ∧ n₀ ≤ wq.heap.size := by
  have hlo := fun k hk => World.ownsRow.lt h k hk
  have hil := fun k hk => World.ownsRow.lt hi k hk
  have hxl := hx.lt
  have s1 := h1.size
  have s2 := h2.size
  have s3 := h3.size
  have hlow := R.low
  have hFn : ∀ k, w.heap.size ≤ k → k < wb.heap.size → ¬ (F k ∨ wb.heap.size ≤ k) := fun k h4 h5 h6 => by
    rcases h6 with h6 | h6
    · have := hlow k h6; omega
    · omega
  have hi3 : wc.ownsRow (w.heap.size + 1) 3 1 IV M (ci is) := ids_keep (own_later hi h2) h3 fun k hk => hFn k (by have := hil k hk; omega) (by have := hil k hk; omega)
  have hx3 : Blk wc w.heap.size 94 cs := (hx.later h2).only h3 (hFn _ (Nat.le_refl _) (by omega))
  have hO : Only (fun k => F k ∨ B ≤ k) w wc := ((on_new h1 h2).mono fun k h => Or.inr (Nat.le_trans hBw h)).trans (h3.mono fun k h => h.imp (fun h => h) fun h => by omega)
  have hQ : Only (fun k => F k ∨ B ≤ k) w wq := hO.grown hg (fun k h => Or.inr (Nat.le_trans hBw h)) (fun k hk => Or.inr (hlo k hk).1)
  have hQ2 : Only (n₀ ≤ ·) wc wq := (Only.refl _ wc).grown hg (fun k h => by omega) (fun k hk => by have := hlo k hk; omega)
  refine ⟨Lib.hid ?_, Lib.hid ?_, Lib.hid ?_, Lib.hid fun k hk => ?_, Lib.hid hQ, Lib.hid (R.keep s' wc wq hj (by omega) hQ2), by have := hQ.size; omega⟩
  · rw [hbb]
    unfold Row8
    rw [List.length_append, cb_append]
    exact ho
  · exact (hg.block w.heap.size (by omega) (fun e => by have := hlo _ e.symm; omega)).trans hx3
  · refine World.ownsRow.kept hi3 hg ?_
    cases hv : IV.ownBlock with
    | none => exact .inl rfl
    | some k => exact .inr fun e => by have := hlo k e.symm; have := hil k hv; omega
  · rcases hat with e | e
    · rw [e] at hk
      have := hlo k hk
      exact ⟨by omega, fun h => by have := hil k h; omega⟩
    · rw [e] at hk
      have hk2 := Option.some.inj hk
      exact ⟨by omega, fun h => by have := hil k h; omega⟩
set_option maxRecDepth 100000 in
set_option maxHeartbeats 12800000 in
theorem extentV_c (R : Rdg n₀ F J f lb ans) (s : List (Int × Int)) (w : World) (id : Int) (M N B : Nat) (FA : Option Addr) (fn fc : Nat) (first : Bytes) (hJ : J s w) (hn : n₀ ≤ B) (hBw : B ≤ w.heap.size) (hG : Gens w) (hf : Row8 w B (.slice FA fn fc) first) (hfl : first.length = 256) (hi0 : 0 ≤ id) (hi1 : id ≤ 1000000) (hM : manyP 3 (N : Int) = (M : Int)) (h0 : 1 ≤ M) :
    Calls Tryd.prog 54 #[.agg #[.func (.func f) #[] lb, .int .i64 3, .int .i64 (N : Nat)], .int .i64 id, .slice FA fn fc] w (GaveX J F (s ++ extS id M) (extR ans id M N first) B w) := by
  obtain ⟨e1, e2, e3, e4, e5⟩ := manyP_ext hM h0
  obtain ⟨s', hs'⟩ : ∃ s', s' = s ++ extS id M := ⟨_, rfl⟩
  obtain ⟨xr, hxr⟩ : ∃ xr, xr = extR ans id M N first := ⟨_, rfl⟩
  rw [← hs', ← hxr]
  have HSP := Lib.hid hs'
  have HXP := Lib.hid hxr
  clear hs' hxr
  obtain ⟨W0, hW0⟩ : ∃ W, W = w.alloc (.cells #[.func (.func f) #[] lb, .int .i64 3, .int .i64 (N : Nat)] 94) := ⟨_, rfl⟩
  have HO0 : Hid (Only (w.heap.size ≤ ·) w W0) := Lib.hid (by rw [hW0]; exact (Only.refl _ w).alloc (fun _ h => h) _)
  have HB0 : Hid (Blk W0 w.heap.size 94 [.func (.func f) #[] lb, .int .i64 3, .int .i64 (N : Nat)]) := Lib.hid (by rw [hW0]; exact Blk.new w 94 _)
  have HZ0 : Hid (W0.heap.size = w.heap.size + 1) := Lib.hid (by rw [hW0]; simp)
  have HR := Lib.hid R
  have HG := Lib.hid hG
  have HJ := Lib.hid hJ
  have HF := Lib.hid hf
  have HFL := Lib.hid hfl
  have HHD : Hid (∀ W, Gens W → Calls Tryd.prog 22 #[.int .i64 3] W (Told W (.int .i64 16))) := Lib.hid fun W hW => by have := Head_c W 3 hW; simpa [tr] using this
  have HM : Hid (∀ W, Gens W → Calls Tryd.prog 81 #[.agg #[.func (.func f) #[] lb, .int .i64 3, .int .i64 (N : Nat)]] W (Told W (.int .i64 (M : Nat)))) := Lib.hid fun W hW => by have := Ormany_c W (.func (.func f) #[] lb) 3 N hW ⟨f, lb, rfl⟩; rwa [hM] at this
  have HMA : Hid (∀ W v, Gens W → Ints W v (idsX id M) → Calls Tryd.prog 34 #[.int .i64 3, v] W (Told W (.bool (mayP 3 (idsX id M))))) := Lib.hid fun W v hW hv => OmayBe_c W 3 v _ hv (by rw [idsX_len]; omega)
  obtain ⟨iN, hiN, hiN0, hiN1, hiN2⟩ := info_parts info_N
  have HIN := Lib.hid (And.intro hiN (And.intro hiN0 (And.intro hiN1 hiN2)))
  have HMN := Lib.hid hM
  clear R hG hJ hf hiN hiN0 hiN1 hiN2 hM hfl
  go_enter Tryd.func54, Tryd.ntmps54
  go_upto_region 1 with (fail)
  rw [← hW0]
  clear hW0
  obtain ⟨q0, q1, q2⟩ := HB0.out.tri
  go_wp2_with (go_at_call 81; go_loud ((with_reducible refine (HM.out _ (HG.out.later HO0.out)).mono ?_); rintro ee w1 ⟨rfl, ho⟩; have HO1 := Lib.hid ho; clear ho))
  clear q0 q1 q2
  have hO1 := on_new HO0.out HO1.out
  have HBX1 := Lib.hid (HB0.out.later HO1.out)
  have HO2 := Lib.hid hO1
  clear hO1 HO1 HB0
  go_loopw [9, 19] (fun p i wr => ∃ (t : Nat) (IA : Option Addr) (ic : Nat), p = .slice IA t ic ∧ i = .int .i64 t ∧ t ≤ M ∧ Hid (wr.ownsRow (w.heap.size + 1) 3 1 (.slice IA t ic) t (ci (idsX id t))) ∧ Hid (Blk wr w.heap.size 94 [.func (.func f) #[] lb, .int .i64 3, .int .i64 (N : Nat)]) ∧ Hid (Only (w.heap.size ≤ ·) w wr)) (fun _ i _ => M - (intOf i).toNat)
  case atStart => exact ⟨0, none, 0, rfl, rfl, Nat.zero_le _, Lib.hid (World.ownsRow_nil _ _ _ _), HBX1, HO2⟩
  case round =>
    obtain ⟨t, IA, ic, rfl, rfl, htM, HIO, HBX, HOT⟩ := hrel
    clear HBX1 HO2
    by_cases hlt : t < M
    · have hti : (t : Int) < (M : Int) := by omega
      have HSC := Lib.hid (idsX_succ id t)
      have hsz : w.heap.size + 1 ≤ wr.heap.size := HBX.out.lt
      have HSZ := Lib.hid hsz
      clear hsz
      go_wp2_with (at_builtin; refine wpList_append_own _ rfl (.tmp 22) (.tmp 26) 28 rfl (w.heap.size + 1) 3 iN zN0 1 8 Tryd.underlying28 HIN.out.1 HIN.out.2.1 HIN.out.2.2.1 HIN.out.2.2.2 (by rfl) (by omega) _ _ _ rfl (HIO.out.alloc _) ⟨wr.heap.size, 0, none⟩ 1 1 [.int .i64 (id + (t : Int))] rfl (by rfl) (one_cell wr 3 _) (by simp [Value.oneCell']) (by simp only [maxLen]; omega) (by omega) (by have := HSZ.out; simp; omega) ?_; intro v' w' ho' hg' _; obtain ⟨g', c', rfl⟩ := ownsRow_succ ho'; have HIO' := Lib.hid ho'; have HGR := Lib.hid hg'; clear ho' hg')
      go_roundw
      case rel =>
        refine ⟨t + 1, _, _, rfl, by go_num, by omega, ?_, ?_, ?_⟩
        · rw [HSC.out]
          refine Lib.hid ?_
          have := HIO'.out
          unfold ci at this ⊢
          rw [List.map_append]
          exact this
        · exact Lib.hid ((HGR.out.block w.heap.size (by have := HBX.out.lt; simp; omega) (fun e => by have := (World.ownsRow.lt HIO.out _ e.symm).1; omega)).trans (HBX.out.alloc _))
        · exact Lib.hid ((HOT.out.alloc (fun _ h => h) _).grown HGR.out (fun _ h => h) (fun k hk => Nat.le_of_succ_le (World.ownsRow.lt HIO.out k hk).1))
      case measure => (simp [intOf] <;> omega)
    · obtain rfl : M = t := by omega
      obtain ⟨is, his⟩ : ∃ is, is = idsX id M := ⟨_, rfl⟩
      obtain ⟨mp, hmp⟩ : ∃ mp, mp = mayP 3 is := ⟨_, rfl⟩
      have HXR : Hid (xr = if mp = true then (if 2 ≤ M then (if (askP ans (id + 1) ((M : Int) - 1)).1 = 0 then extW N M (first ++ (askP ans (id + 1) ((M : Int) - 1)).2) is else ([], [], false)) else extW N M first is) else ([], [], false)) := Lib.hid (by rw [HXP.out, hmp, his]; rfl)
      have HXS : Hid (s' = s ++ if mp = true ∧ 2 ≤ M then [(id + 1, (M : Int) - 1)] else []) := Lib.hid (by rw [HSP.out, hmp, his]; rfl)
      rw [← his] at HIO HMA
      rw [← hmp] at HMA
      have HGT := Lib.hid (HG.out.later HOT.out)
      have hnr : n₀ ≤ wr.heap.size := Nat.le_trans (Nat.le_trans hn hBw) HOT.out.size
      have HJT := Lib.hid (HR.out.keep s w wr HJ.out (Nat.le_trans hn hBw) (HOT.out.mono fun k h => Nat.le_trans (Nat.le_trans hn hBw) h))
      obtain ⟨q0, q1, q2⟩ := HBX.out.tri
      clear his hmp hlt htM
      cases mp
      · go_wp2_with (go_at_call 34; go_loud ((with_reducible refine (HMA.out wr _ HGT.out (Ints.own HIO.out)).mono ?_); rintro ee w2 ⟨rfl, ho⟩; have HO2 := Lib.hid ho; clear ho))
        go_ret3
        rw [HXR.out, show s' = s from by rw [HXS.out]; simp]
        exact ⟨_, _, rfl, Src.nil_ _, Ints.nil_ _, HR.out.keep _ wr _ HJT.out hnr (HO2.out.mono fun k h => Nat.le_trans hnr h), (HOT.out.trans (HO2.out.mono fun k h => Nat.le_trans HOT.out.size h)).mono fun k h => Or.inr (Nat.le_trans hBw h)⟩
      · by_cases hM2 : 2 ≤ M
        · obtain ⟨z, hz⟩ : ∃ z, z = (askP ans (id + 1) ((M : Int) - 1)).1 := ⟨_, rfl⟩
          obtain ⟨ab, hab⟩ : ∃ ab, ab = (askP ans (id + 1) ((M : Int) - 1)).2 := ⟨_, rfl⟩
          have HAK : Hid (∀ W, J s W → n₀ ≤ W.heap.size → Calls Tryd.prog 27 #[.agg #[.func (.func f) #[] lb, .int .i64 3, .int .i64 (N : Nat)], .int .i64 (id + 1), .int .i64 ((M : Int) - 1)] W fun e w' => ∃ v, e = .returned (.tuple #[v, .int .i64 z]) ∧ Row8 w' W.heap.size v ab ∧ J s' w' ∧ Only (fun k => F k ∨ W.heap.size ≤ k) W w') := Lib.hid fun W hW hnW => by
            rw [hz, hab, HXS.out, if_pos ⟨rfl, hM2⟩]
            exact ask_o HR.out s W 3 N (id + 1) ((M : Int) - 1) hW hnW (by omega) (by omega)
          have HZA : Hid (z = 0 → ab.length = (M - 1) * 256) := Lib.hid (by rw [hz, hab]; intro hq; rw [askP_full ans (id + 1) ((M : Int) - 1) (by omega) hq]; congr 1; omega)
          have HXX : Hid (xr = if z = 0 then extW N M (first ++ ab) is else ([], [], false)) := Lib.hid (by rw [HXR.out, if_pos rfl, if_pos hM2, hz, hab])
          have hm1 : 0 < (M : Int) - 1 := by omega
          clear hz hab hM2 HXR HXS HXP HSP
          by_cases hz0 : z = 0
          · have HZL : Hid (ab.length = (M - 1) * 256) := Lib.hid (HZA.out hz0)
            clear HZA
            subst hz0
            go_upto_region 16 with (first
              | (go_at_call 34; go_loud ((with_reducible refine (HMA.out wr _ HGT.out (Ints.own HIO.out)).mono ?_); rintro ee wa ⟨rfl, ho⟩; have HOa := Lib.hid ho; clear ho q0 q1 q2; obtain ⟨q0, q1, q2⟩ := (HBX.out.later HOa.out).tri))
              | (go_at_call 81; go_loud ((with_reducible refine (HM.out _ (HGT.out.later HOa.out)).mono ?_); rintro ee wb ⟨rfl, ho⟩; have HOb := Lib.hid (on_new HOa.out ho); clear ho q0 q1 q2; obtain ⟨q0, q1, q2⟩ := (HBX.out.later HOb.out).tri))
              | (go_at_call 27; go_loud ((with_reducible refine (HAK.out wb (HR.out.keep s wr wb HJT.out hnr (HOb.out.mono fun k h => Nat.le_trans hnr h)) (Nat.le_trans hnr HOb.out.size)).mono ?_); rintro ee wc ⟨u, rfl, hu, hj, ho⟩; have HU := Lib.hid hu.src; have HJC := Lib.hid hj; have HOC := Lib.hid ho; (obtain ⟨UA, uc, rfl, _⟩ := hu.new); clear hu hj ho q0 q1 q2))
              | (at_builtin; go_loud (refine wpList_bytes rfl (.tmp 53) (.tmp 54) rfl B (.slice FA fn fc) (.slice UA ab.length uc) first ab rfl (ext_first HR.out hn hBw HF.out HOT.out HOb.out HOC.out) rfl HU.out (by have := HFL.out; have := HZL.out; omega) (Nat.le_trans hBw (Nat.le_trans HOT.out.size (Nat.le_trans HOb.out.size HOC.out.size))) ?_; intro v' wq ho' hg' hat'; obtain ⟨bb, hbb⟩ : ∃ bb, bb = first ++ ab := ⟨_, rfl⟩; obtain ⟨HBV, HBX, HIO, HNE, HOQ, HJQ, hnq⟩ := ext_app HR.out hn hBw HF.out HOT.out HOb.out HOC.out HBX.out HIO.out HJC.out ho' hg' hat' hbb; clear ho' hg' hat')))
            have HXX2 : Hid (xr = extW N M bb is) := Lib.hid (by rw [HXX.out, hbb]; simp)
            replace HXX := HXX2
            have HLB : Hid (bb.length = M * 256) := Lib.hid (by rw [hbb, List.length_append, HFL.out, HZL.out]; omega)
            clear HXX2 hbb HAK HZL
            have hM := HMN.out
            obtain ⟨L, hL⟩ : ∃ L, L = bb.length := ⟨_, rfl⟩
            have hLM : L = M * 256 := by rw [hL]; exact HLB.out
            rcases HBV.out.2 with ⟨_, h0⟩ | ⟨gq, cap, cur, hbv, hbg, hg, hnc, hcpm, hcs, htake⟩
            · omega
            subst hbv
            rw [← hL] at HBV hnc ⊢
            clear hg hcs htake
            have hl1 : 256 ≤ L := by omega
            have hl2 : L ≤ 1792 := by omega
            have hl3 : N + 16 ≤ L := by omega
            have HLL := Lib.hid hL
            clear hL hLM
            obtain ⟨sd, hsd⟩ : ∃ sd, sd = isSealed bb 4 := ⟨_, rfl⟩
            have HSD : Hid (∀ W, Src W (.slice (some ⟨gq, 0, none⟩) L cap) bb → Calls Tryd.prog 84 #[.slice (some ⟨gq, 0, none⟩) L cap, .int .i64 4] W (Told W (.bool sd))) := Lib.hid fun W hW => by
              rw [hsd]
              obtain ⟨A', c', e, ht, h3, h4, h5⟩ := hW
              simp only [Value.slice.injEq] at e
              obtain ⟨rfl, e2, rfl⟩ := e
              rw [e2]
              exact Sealed_c W _ _ _ _ ht (fun e => by cases e) (by have := HLL.out; omega) h4 h5 4 (by decide) (by decide)
            have HXW : Hid (extW N M bb is = if sd = true then (((clrB bb).drop 16).take N, is, decide (clrB bb = bareB (((clrB bb).drop 16).take N) M)) else ([], [], false)) := Lib.hid (by rw [hsd]; rfl)
            clear hsd
            cases sd
            · go_wp2_with (go_at_call 84; go_loud ((with_reducible refine (HSD.out wq HBV.out.src).mono ?_); rintro ee w1 ⟨rfl, ho⟩; have HO1 := Lib.hid ho; clear ho))
              go_ret3
              rw [HXX.out, HXW.out]
              exact ⟨_, _, rfl, Src.nil_ _, Ints.nil_ _, HR.out.keep _ wq _ HJQ.out hnq (HO1.out.mono fun k h => Nat.le_trans hnq h), HOQ.out.trans (HO1.out.mono fun k h => Or.inr (Nat.le_trans hBw (Nat.le_trans HOQ.out.size h)))⟩
            · have HCS : Hid (∀ W, Only (wq.heap.size ≤ ·) wq W → Calls Tryd.prog 67 #[.slice (some ⟨gq, 0, none⟩) L cap] W fun e W' => (∃ r, e = .returned r) ∧ Row8 W' B (.slice (some ⟨gq, 0, none⟩) L cap) (clrB bb) ∧ Only (fun k => (Value.slice (some ⟨gq, 0, none⟩) L cap).ownBlock = some k) W W') := Lib.hid fun W hW =>
                by
                  have h := OclearSum_c W B _ bb (HBV.out.later hW) (by have := HLL.out; omega) (by have := HLL.out; omega)
                  exact h
              go_upto_region 19 with (first
                | (go_at_call 84; go_loud ((with_reducible refine (HSD.out wq HBV.out.src).mono ?_); rintro ee w1 ⟨rfl, ho⟩; have HO1 := Lib.hid ho; clear ho))
                | (go_at_call 67; (with_reducible refine (HCS.out w1 HO1.out).mono ?_); rintro ee w2 ⟨⟨_, rfl⟩, h2, ho2⟩; have HB2 := Lib.hid h2; have HO2 := Lib.hid ho2; clear h2 ho2))
              have HBX2 : Hid (Blk w2 w.heap.size 94 [.func (.func f) #[] lb, .int .i64 3, .int .i64 (N : Nat)]) := Lib.hid ((HBX.out.later HO1.out).only HO2.out (fun h => (HNE.out _ h).1 rfl))
              have HI2 : Hid (Ints w2 (.slice IA M ic) is) := Lib.hid (Ints.own (ids_keep (own_later HIO.out HO1.out) HO2.out (fun k hk h => (HNE.out k h).2 hk)))
              have HOA : Hid (Only (fun k => F k ∨ B ≤ k) w w2) := Lib.hid ((HOQ.out.trans (HO1.out.mono fun k h => Or.inr (Nat.le_trans hBw (Nat.le_trans HOQ.out.size h)))).trans (HO2.out.mono fun k h => Or.inr (by
                have h1 := Option.some.inj (show some gq = some k from h); omega)))
              have HG2 : Hid (Gens w2) := Lib.hid (gens_keepB HG.out HOA.out HR.out.zero (by have := HR.out.gb; omega))
              have hn2 : n₀ ≤ w2.heap.size := Nat.le_trans (Nat.le_trans hn hBw) HOA.out.size
              have HJ2 : Hid (J s' w2) := Lib.hid (HR.out.keep _ w1 _ (HR.out.keep _ wq _ HJQ.out hnq (HO1.out.mono fun k h => Nat.le_trans hnq h)) (Nat.le_trans hnq HO1.out.size) (HO2.out.mono fun k h => by
                have h1 := Option.some.inj (show some gq = some k from h); omega))
              have HKC : Hid (∀ W, Only (w2.heap.size ≤ ·) w2 W → W.cell? ⟨w.heap.size, 0, none⟩ = some (.func (.func f) #[] lb) ∧ W.cell? ⟨w.heap.size, 1, none⟩ = some (.int .i64 3) ∧ W.cell? ⟨w.heap.size, 2, none⟩ = some (.int .i64 (N : Nat))) := Lib.hid fun W hW => (HBX2.out.later hW).tri
              obtain ⟨q0, q1, q2⟩ := HBX2.out.tri
              have l1 : (16 : Int) ≤ (L : Int) := by omega
              have l2 : ¬ cap = 16 := by omega
              have l3 : N ≤ cap - 16 := by omega
              obtain ⟨vv, hvv⟩ : ∃ vv, vv = ((clrB bb).drop 16).take N := ⟨_, rfl⟩
              have hcl : (clrB bb).length = L := by rw [clrB_len _ (by have := HLL.out; omega), HLL.out]
              have HVS : Hid (Src w2 (.slice (some ⟨gq, 16, none⟩) N (cap - 16)) vv) := Lib.hid (by rw [hvv]; exact row_sub HB2.out hcl (by omega) (by omega))
              have HBA : Hid (∀ W, Only (w2.heap.size ≤ ·) w2 W → Calls Tryd.prog 37 #[.int .i64 3, .slice (some ⟨gq, 16, none⟩) N (cap - 16)] W (GaveQ W (bareB vv M))) := Lib.hid fun W hW => Obare_c W _ _ N M vv (HG2.out.later hW) (HVS.out.later hW) hM h0
              rw [← hvv] at HXW
              clear hcl hvv
              refine wp_region_list (B := [false, false, false, false, false, false, false, false, false, false, false]) (S := (fun W => W.cell? ⟨w.heap.size, 0, none⟩ = some (.func (.func f) #[] lb) ∧ W.cell? ⟨w.heap.size, 1, none⟩ = some (.int .i64 3) ∧ W.cell? ⟨w.heap.size, 2, none⟩ = some (.int .i64 (N : Nat)))) (by kernel_rfl) (by kernel_rfl) (by kernel_rfl) (HKC.out _ (Only.refl _ w2).drew) (fun hsel hHeld => ?_)
              refine oneA 0 61 hsel (h := ?_)
              simp only [Act.put, List.setIfInBounds_toArray, List.set_cons_zero, List.set_cons_succ]
              refine oneA 1 62 hsel (h := ?_)
              simp only [Act.put, List.setIfInBounds_toArray, List.set_cons_zero, List.set_cons_succ]
              refine oneA 2 63 hsel (h := ?_)
              simp only [Act.put, List.setIfInBounds_toArray, List.set_cons_zero, List.set_cons_succ]
              refine oneA 3 64 hsel (h := ?_)
              simp only [Act.put, List.setIfInBounds_toArray, List.set_cons_zero, List.set_cons_succ]
              refine oneA 6 67 hsel (h := ?_)
              simp only [Act.put, List.setIfInBounds_toArray, List.set_cons_zero, List.set_cons_succ]
              refine oneA 7 68 hsel (h := ?_)
              simp only [Act.put, List.setIfInBounds_toArray, List.set_cons_zero, List.set_cons_succ]
              refine oneA 8 69 hsel (h := ?_)
              simp only [Act.put, List.setIfInBounds_toArray, List.set_cons_zero, List.set_cons_succ]
              refine wpAnyL_ready (rs := [4]) (by kernel_rfl) (by kernel_rfl) (by simp) ?_
              refine AllReadyL.cons (o := ?_) ?_ (fun K hK => ?_) AllReadyL.nil
              case refine_2 => (simp only [List.getElem?_cons_succ, List.getElem?_cons_zero]; rfl)
              go_simp
              (go_at_call 22; (with_reducible refine (HHD.out _ (HG2.out.later (Only.refl _ w2).drew)).mono ?_); rintro ee w3 ⟨rfl, ho⟩; have HO3 := Lib.hid (on_new (Only.refl _ w2).drew ho); clear ho)
              clear hHeld
              refine hK.out _ _ (HKC.out _ HO3.out) (fun hHeld => ?_)
              clear hK K
              try simp only [List.set_cons_zero, List.set_cons_succ]
              refine oneA 5 66 hsel (h := ?_)
              simp only [Act.put, List.setIfInBounds_toArray, List.set_cons_zero, List.set_cons_succ]
              refine oneA 9 70 hsel (h := ?_)
              simp only [Act.put, List.setIfInBounds_toArray, List.set_cons_zero, List.set_cons_succ]
              refine oneA 10 15 hsel (h := ?_)
              simp only [Act.put, List.setIfInBounds_toArray, List.set_cons_zero, List.set_cons_succ]
              refine wpAnyL_done (by kernel_rfl) (by kernel_rfl) ?_ _
              clear hsel hHeld
              clear q0 q1 q2
              obtain ⟨q0, q1, q2⟩ := HKC.out _ HO3.out
              go_wp2_with (first
                | (go_at_call 37; go_loud ((with_reducible refine (HBA.out w3 HO3.out).mono ?_); rintro ee w4 ⟨r4, rfl, h4, ho⟩; have HR4 := Lib.hid h4.src; have HO4 := Lib.hid (on_new HO3.out ho); clear h4 ho))
                | (go_at_call 16; go_loud ((with_reducible refine (Equal_c w4 _ _ (clrB bb) (bareB vv M) (HB2.out.src.later HO4.out) HR4.out).mono ?_); rintro ee w5 ⟨rfl, rfl⟩)))
              go_ret3
              rw [HXX.out, HXW.out, if_pos trivial]
              exact ⟨_, _, rfl, HVS.out.later HO4.out, HI2.out.later HO4.out, HR.out.keep _ w2 _ HJ2.out hn2 (HO4.out.mono fun k h => Nat.le_trans hn2 h), HOA.out.trans (HO4.out.mono fun k h => Or.inr (Nat.le_trans (Nat.le_trans hBw HOA.out.size) h))⟩
          · have hz' : (z != 0) = true := by rw [bne_iff_ne]; exact hz0
            go_wp2_with (first
              | (go_at_call 34; go_loud ((with_reducible refine (HMA.out wr _ HGT.out (Ints.own HIO.out)).mono ?_); rintro ee wa ⟨rfl, ho⟩; have HOa := Lib.hid ho; clear ho q0 q1 q2; obtain ⟨q0, q1, q2⟩ := (HBX.out.later HOa.out).tri))
              | (go_at_call 81; go_loud ((with_reducible refine (HM.out _ (HGT.out.later HOa.out)).mono ?_); rintro ee wb ⟨rfl, ho⟩; have HOb := Lib.hid (on_new HOa.out ho); clear ho q0 q1 q2; obtain ⟨q0, q1, q2⟩ := (HBX.out.later HOb.out).tri))
              | (go_at_call 27; go_loud ((with_reducible refine (HAK.out wb (HR.out.keep s wr wb HJT.out hnr (HOb.out.mono fun k h => Nat.le_trans hnr h)) (Nat.le_trans hnr HOb.out.size)).mono ?_); rintro ee wc ⟨u, rfl, hu, hj, ho⟩; have HU := Lib.hid hu.src; have HJC := Lib.hid hj; have HOC := Lib.hid ho; (obtain ⟨UA, uc, rfl, _⟩ := hu.new); clear hu hj ho q0 q1 q2)))
            go_ret3
            rw [HXX.out, if_neg hz0]
            exact ⟨_, _, rfl, Src.nil_ _, Ints.nil_ _, HJC.out, ((HOT.out.trans (HOb.out.mono fun k h => Nat.le_trans HOT.out.size h)).mono fun k h => Or.inr (Nat.le_trans hBw h)).trans (HOC.out.mono fun k h => h.imp (fun h => h) fun h => Nat.le_trans hBw (Nat.le_trans HOT.out.size (Nat.le_trans HOb.out.size h)))⟩
        · have hm1 : ¬ 0 < (M : Int) - 1 := by omega
          have HM1 : Hid (M = 1) := Lib.hid (by omega)
          have HXX : Hid (xr = extW N M first is) := Lib.hid (by rw [HXR.out, if_pos rfl, if_neg hM2])
          obtain rfl : s' = s := by rw [HXS.out, if_neg (by omega), List.append_nil]
          clear HXR HXS HXP HSP hM2
          go_upto_region 16 with (first
            | (go_at_call 34; go_loud ((with_reducible refine (HMA.out wr _ HGT.out (Ints.own HIO.out)).mono ?_); rintro ee wa ⟨rfl, ho⟩; have HOa := Lib.hid ho; clear ho q0 q1 q2; obtain ⟨q0, q1, q2⟩ := (HBX.out.later HOa.out).tri))
            | (go_at_call 81; go_loud ((with_reducible refine (HM.out _ (HGT.out.later HOa.out)).mono ?_); rintro ee wb ⟨rfl, ho⟩; have HOb := Lib.hid (on_new HOa.out ho); clear ho q0 q1 q2; obtain ⟨q0, q1, q2⟩ := (HBX.out.later HOb.out).tri)))
          obtain ⟨wq, hwq⟩ : ∃ wq, wq = wb := ⟨_, rfl⟩
          subst hwq
          obtain ⟨bb, hbb⟩ : ∃ bb, bb = first := ⟨_, rfl⟩
          subst hbb
          have HOw := on_new HOT.out HOb.out
          have HBV : Hid (Row8 wq B (.slice FA fn fc) bb) := Lib.hid (HF.out.later HOw)
          have HNE : Hid (∀ k, (Value.slice FA fn fc).ownBlock = some k → k ≠ w.heap.size ∧ (Value.slice IA M ic).ownBlock ≠ some k) := Lib.hid fun k hk => by
            have h1 := (World.ownsRow.lt HF.out k hk).2
            exact ⟨by omega, fun h => by have := (World.ownsRow.lt HIO.out k h).1; omega⟩
          replace HBX := Lib.hid (HBX.out.later HOb.out)
          replace HIO := Lib.hid (own_later HIO.out HOb.out)
          have HOQ : Hid (Only (fun k => F k ∨ B ≤ k) w wq) := Lib.hid (HOw.mono fun k h => Or.inr (Nat.le_trans hBw h))
          have hnq : n₀ ≤ wq.heap.size := Nat.le_trans hnr HOb.out.size
          have HJQ : Hid (J s' wq) := Lib.hid (HR.out.keep _ wr _ HJT.out hnr (HOb.out.mono fun k h => Nat.le_trans hnr h))
          have HLB : Hid (bb.length = M * 256) := Lib.hid (by rw [HFL.out, HM1.out])
          clear HOw q0 q1 q2
          have hM := HMN.out
          obtain ⟨L, hL⟩ : ∃ L, L = bb.length := ⟨_, rfl⟩
          have hLM : L = M * 256 := by rw [hL]; exact HLB.out
          rcases HBV.out.2 with ⟨_, h0⟩ | ⟨gq, cap, cur, hbv, hbg, hg, hnc, hcpm, hcs, htake⟩
          · omega
          simp only [Value.slice.injEq] at hbv; obtain ⟨rfl, rfl, hcc⟩ := hbv; obtain rfl : cap = fc := hcc.symm
          rw [← hL] at HBV hnc ⊢
          clear hg hcs htake
          have hl1 : 256 ≤ L := by omega
          have hl2 : L ≤ 1792 := by omega
          have hl3 : N + 16 ≤ L := by omega
          have HLL := Lib.hid hL
          clear hL hLM
          obtain ⟨sd, hsd⟩ : ∃ sd, sd = isSealed bb 4 := ⟨_, rfl⟩
          have HSD : Hid (∀ W, Src W (.slice (some ⟨gq, 0, none⟩) L cap) bb → Calls Tryd.prog 84 #[.slice (some ⟨gq, 0, none⟩) L cap, .int .i64 4] W (Told W (.bool sd))) := Lib.hid fun W hW => by
            rw [hsd]
            obtain ⟨A', c', e, ht, h3, h4, h5⟩ := hW
            simp only [Value.slice.injEq] at e
            obtain ⟨rfl, e2, rfl⟩ := e
            rw [e2]
            exact Sealed_c W _ _ _ _ ht (fun e => by cases e) (by have := HLL.out; omega) h4 h5 4 (by decide) (by decide)
          have HXW : Hid (extW N M bb is = if sd = true then (((clrB bb).drop 16).take N, is, decide (clrB bb = bareB (((clrB bb).drop 16).take N) M)) else ([], [], false)) := Lib.hid (by rw [hsd]; rfl)
          clear hsd
          cases sd
          · go_wp2_with (go_at_call 84; go_loud ((with_reducible refine (HSD.out wq HBV.out.src).mono ?_); rintro ee w1 ⟨rfl, ho⟩; have HO1 := Lib.hid ho; clear ho))
            go_ret3
            rw [HXX.out, HXW.out]
            exact ⟨_, _, rfl, Src.nil_ _, Ints.nil_ _, HR.out.keep _ wq _ HJQ.out hnq (HO1.out.mono fun k h => Nat.le_trans hnq h), HOQ.out.trans (HO1.out.mono fun k h => Or.inr (Nat.le_trans hBw (Nat.le_trans HOQ.out.size h)))⟩
          · have HCS : Hid (∀ W, Only (wq.heap.size ≤ ·) wq W → Calls Tryd.prog 67 #[.slice (some ⟨gq, 0, none⟩) L cap] W fun e W' => (∃ r, e = .returned r) ∧ Row8 W' B (.slice (some ⟨gq, 0, none⟩) L cap) (clrB bb) ∧ Only (fun k => (Value.slice (some ⟨gq, 0, none⟩) L cap).ownBlock = some k) W W') := Lib.hid fun W hW =>
              by
                have h := OclearSum_c W B _ bb (HBV.out.later hW) (by have := HLL.out; omega) (by have := HLL.out; omega)
                exact h
            go_upto_region 19 with (first
              | (go_at_call 84; go_loud ((with_reducible refine (HSD.out wq HBV.out.src).mono ?_); rintro ee w1 ⟨rfl, ho⟩; have HO1 := Lib.hid ho; clear ho))
              | (go_at_call 67; (with_reducible refine (HCS.out w1 HO1.out).mono ?_); rintro ee w2 ⟨⟨_, rfl⟩, h2, ho2⟩; have HB2 := Lib.hid h2; have HO2 := Lib.hid ho2; clear h2 ho2))
            have HBX2 : Hid (Blk w2 w.heap.size 94 [.func (.func f) #[] lb, .int .i64 3, .int .i64 (N : Nat)]) := Lib.hid ((HBX.out.later HO1.out).only HO2.out (fun h => (HNE.out _ h).1 rfl))
            have HI2 : Hid (Ints w2 (.slice IA M ic) is) := Lib.hid (Ints.own (ids_keep (own_later HIO.out HO1.out) HO2.out (fun k hk h => (HNE.out k h).2 hk)))
            have HOA : Hid (Only (fun k => F k ∨ B ≤ k) w w2) := Lib.hid ((HOQ.out.trans (HO1.out.mono fun k h => Or.inr (Nat.le_trans hBw (Nat.le_trans HOQ.out.size h)))).trans (HO2.out.mono fun k h => Or.inr (by
              have h1 := Option.some.inj (show some gq = some k from h); omega)))
            have HG2 : Hid (Gens w2) := Lib.hid (gens_keepB HG.out HOA.out HR.out.zero (by have := HR.out.gb; omega))
            have hn2 : n₀ ≤ w2.heap.size := Nat.le_trans (Nat.le_trans hn hBw) HOA.out.size
            have HJ2 : Hid (J s' w2) := Lib.hid (HR.out.keep _ w1 _ (HR.out.keep _ wq _ HJQ.out hnq (HO1.out.mono fun k h => Nat.le_trans hnq h)) (Nat.le_trans hnq HO1.out.size) (HO2.out.mono fun k h => by
              have h1 := Option.some.inj (show some gq = some k from h); omega))
            have HKC : Hid (∀ W, Only (w2.heap.size ≤ ·) w2 W → W.cell? ⟨w.heap.size, 0, none⟩ = some (.func (.func f) #[] lb) ∧ W.cell? ⟨w.heap.size, 1, none⟩ = some (.int .i64 3) ∧ W.cell? ⟨w.heap.size, 2, none⟩ = some (.int .i64 (N : Nat))) := Lib.hid fun W hW => (HBX2.out.later hW).tri
            obtain ⟨q0, q1, q2⟩ := HBX2.out.tri
            have l1 : (16 : Int) ≤ (L : Int) := by omega
            have l2 : ¬ cap = 16 := by omega
            have l3 : N ≤ cap - 16 := by omega
            obtain ⟨vv, hvv⟩ : ∃ vv, vv = ((clrB bb).drop 16).take N := ⟨_, rfl⟩
            have hcl : (clrB bb).length = L := by rw [clrB_len _ (by have := HLL.out; omega), HLL.out]
            have HVS : Hid (Src w2 (.slice (some ⟨gq, 16, none⟩) N (cap - 16)) vv) := Lib.hid (by rw [hvv]; exact row_sub HB2.out hcl (by omega) (by omega))
            have HBA : Hid (∀ W, Only (w2.heap.size ≤ ·) w2 W → Calls Tryd.prog 37 #[.int .i64 3, .slice (some ⟨gq, 16, none⟩) N (cap - 16)] W (GaveQ W (bareB vv M))) := Lib.hid fun W hW => Obare_c W _ _ N M vv (HG2.out.later hW) (HVS.out.later hW) hM h0
            rw [← hvv] at HXW
            clear hcl hvv
            refine wp_region_list (B := [false, false, false, false, false, false, false, false, false, false, false]) (S := (fun W => W.cell? ⟨w.heap.size, 0, none⟩ = some (.func (.func f) #[] lb) ∧ W.cell? ⟨w.heap.size, 1, none⟩ = some (.int .i64 3) ∧ W.cell? ⟨w.heap.size, 2, none⟩ = some (.int .i64 (N : Nat)))) (by kernel_rfl) (by kernel_rfl) (by kernel_rfl) (HKC.out _ (Only.refl _ w2).drew) (fun hsel hHeld => ?_)
            refine oneA 0 61 hsel (h := ?_)
            simp only [Act.put, List.setIfInBounds_toArray, List.set_cons_zero, List.set_cons_succ]
            refine oneA 1 62 hsel (h := ?_)
            simp only [Act.put, List.setIfInBounds_toArray, List.set_cons_zero, List.set_cons_succ]
            refine oneA 2 63 hsel (h := ?_)
            simp only [Act.put, List.setIfInBounds_toArray, List.set_cons_zero, List.set_cons_succ]
            refine oneA 3 64 hsel (h := ?_)
            simp only [Act.put, List.setIfInBounds_toArray, List.set_cons_zero, List.set_cons_succ]
            refine oneA 6 67 hsel (h := ?_)
            simp only [Act.put, List.setIfInBounds_toArray, List.set_cons_zero, List.set_cons_succ]
            refine oneA 7 68 hsel (h := ?_)
            simp only [Act.put, List.setIfInBounds_toArray, List.set_cons_zero, List.set_cons_succ]
            refine oneA 8 69 hsel (h := ?_)
            simp only [Act.put, List.setIfInBounds_toArray, List.set_cons_zero, List.set_cons_succ]
            refine wpAnyL_ready (rs := [4]) (by kernel_rfl) (by kernel_rfl) (by simp) ?_
            refine AllReadyL.cons (o := ?_) ?_ (fun K hK => ?_) AllReadyL.nil
            case refine_2 => (simp only [List.getElem?_cons_succ, List.getElem?_cons_zero]; rfl)
            go_simp
            (go_at_call 22; (with_reducible refine (HHD.out _ (HG2.out.later (Only.refl _ w2).drew)).mono ?_); rintro ee w3 ⟨rfl, ho⟩; have HO3 := Lib.hid (on_new (Only.refl _ w2).drew ho); clear ho)
            clear hHeld
            refine hK.out _ _ (HKC.out _ HO3.out) (fun hHeld => ?_)
            clear hK K
            try simp only [List.set_cons_zero, List.set_cons_succ]
            refine oneA 5 66 hsel (h := ?_)
            simp only [Act.put, List.setIfInBounds_toArray, List.set_cons_zero, List.set_cons_succ]
            refine oneA 9 70 hsel (h := ?_)
            simp only [Act.put, List.setIfInBounds_toArray, List.set_cons_zero, List.set_cons_succ]
            refine oneA 10 15 hsel (h := ?_)
            simp only [Act.put, List.setIfInBounds_toArray, List.set_cons_zero, List.set_cons_succ]
            refine wpAnyL_done (by kernel_rfl) (by kernel_rfl) ?_ _
            clear hsel hHeld
            clear q0 q1 q2
            obtain ⟨q0, q1, q2⟩ := HKC.out _ HO3.out
            go_wp2_with (first
              | (go_at_call 37; go_loud ((with_reducible refine (HBA.out w3 HO3.out).mono ?_); rintro ee w4 ⟨r4, rfl, h4, ho⟩; have HR4 := Lib.hid h4.src; have HO4 := Lib.hid (on_new HO3.out ho); clear h4 ho))
              | (go_at_call 16; go_loud ((with_reducible refine (Equal_c w4 _ _ (clrB bb) (bareB vv M) (HB2.out.src.later HO4.out) HR4.out).mono ?_); rintro ee w5 ⟨rfl, rfl⟩)))
            go_ret3
            rw [HXX.out, HXW.out, if_pos trivial]
            exact ⟨_, _, rfl, HVS.out.later HO4.out, HI2.out.later HO4.out, HR.out.keep _ w2 _ HJ2.out hn2 (HO4.out.mono fun k h => Nat.le_trans hn2 h), HOA.out.trans (HO4.out.mono fun k h => Or.inr (Nat.le_trans (Nat.le_trans hBw HOA.out.size) h))⟩
end
end Go.Proofs.YtbgnfocfnjlabaaDoor

/-
  Decode: of a chain, or an extent, or nothing.
-/
set_option linter.unusedVariables false
namespace Go.Proofs.YtbgnfocfnjlabaaDoor
open Go.RowKit

/-- What the reading of a first page of a generation tells, and what it asks for. -/
def vrOf (ans : Int → Int → Int × Bytes) (id g : Int) (N : Nat) (first : Bytes) : Bytes × List Int × Bool :=
  if sgl g = true then chR g (tr g 248 240 240).toNat N id first (folP ans ((manyP g N).toNat - 1) first) else extR ans id (manyP g N).toNat N first
def vsOf (ans : Int → Int → Int × Bytes) (id g : Int) (N : Nat) (first : Bytes) : List (Int × Int) :=
  if sgl g = true then folS ans ((manyP g N).toNat - 1) first else extS id (manyP g N).toNat
section
variable {n₀ : Nat} {F : Nat → Prop} {J : List (Int × Int) → World → Prop} {f : Nat} {lb : Array Value} {ans : Int → Int → Int × Bytes}
/-- What Decode tells. -/
def DecAll (J : List (Int × Int) → World → Prop) (F : Nat → Prop) (ans : Int → Int → Int × Bytes) (s : List (Int × Int)) (id sz : Int) (w : World) (e : Ending) (w' : World) : Prop :=
  ((askP ans id 1).1 ≠ 0 → DecNo J F w (s ++ [(id, 1)]) (askP ans id 1).1 e w') ∧
  ((askP ans id 1).1 = 0 → (hdE (askP ans id 1).2 ≠ 0 ∨ manyP (hdG (askP ans id 1).2 : Nat) sz = 0) → DecNo J F w (s ++ [(id, 1)]) 80 e w') ∧
  ((askP ans id 1).1 = 0 → hdE (askP ans id 1).2 = 0 → manyP (hdG (askP ans id 1).2 : Nat) sz ≠ 0 →
    if (vrOf ans id (hdG (askP ans id 1).2 : Nat) sz.toNat (askP ans id 1).2).2.2 = true then DecYes J F w (s ++ [(id, 1)] ++ vsOf ans id (hdG (askP ans id 1).2 : Nat) sz.toNat (askP ans id 1).2) (hdG (askP ans id 1).2 : Nat) (vrOf ans id (hdG (askP ans id 1).2 : Nat) sz.toNat (askP ans id 1).2) e w'
    else DecNo J F w (s ++ [(id, 1)] ++ vsOf ans id (hdG (askP ans id 1).2 : Nat) sz.toNat (askP ans id 1).2) 80 e w')
theorem ODecode_c (R : Rdg n₀ F J f lb ans) (s : List (Int × Int)) (w : World) (id sz : Int) (hJ : J s w) (hn : n₀ ≤ w.heap.size) (hG : Gens w) (hid : (askP ans id 1).1 = 0 → 0 ≤ id ∧ id ≤ 1000000) :
    Calls Tryd.prog 12 #[.func (.func f) #[] lb, .int .i64 id, .int .i64 sz] w (DecAll J F ans s id sz w) := by
  by_cases h1 : (askP ans id 1).1 = 0
  · obtain ⟨hi0, hi1⟩ := hid h1
    by_cases h2 : hdE (askP ans id 1).2 = 0
    · by_cases h3 : manyP (hdG (askP ans id 1).2 : Nat) sz = 0
      · exact (dec_many R s w id sz hJ hn hG h1 h2 h3).mono fun e w' h => ⟨fun h4 => absurd h1 h4, fun _ _ => h, fun _ _ h4 => absurd h3 h4⟩
      · have hbl : (askP ans id 1).2.length = 256 := by have := askP_full ans id 1 (by omega) h1; simpa using this
        obtain ⟨g, hg⟩ : ∃ g : Int, g = (hdG (askP ans id 1).2 : Nat) := ⟨_, rfl⟩
        rw [← hg] at h3
        have hm0 : ¬ (sz ≤ 32 ∨ tr g 400 800 1600 < sz) := fun h => h3 (manyP_no h)
        have hgs := manyP_gen hm0
        obtain ⟨N, hN⟩ : ∃ N : Nat, sz = (N : Int) := ⟨sz.toNat, by omega⟩
        subst hN
        have hm1 : 1 ≤ manyP g N := by
          have h4 := manyP_of hm0
          rcases hgs with h | h | h <;> subst h <;> simp only [tr, reduceIte, Int.reduceEq] at hm0 h4 <;> omega
        obtain ⟨M, hM⟩ : ∃ M : Nat, manyP g N = (M : Int) := ⟨(manyP g N).toNat, by omega⟩
        have hM1 : 1 ≤ M := by omega
        have fin : ∀ e w', (if (vrOf ans id g N (askP ans id 1).2).2.2 = true then DecYes J F w (s ++ [(id, 1)] ++ vsOf ans id g N (askP ans id 1).2) g (vrOf ans id g N (askP ans id 1).2) else DecNo J F w (s ++ [(id, 1)] ++ vsOf ans id g N (askP ans id 1).2) 80) e w' → DecAll J F ans s id N w e w' := fun e w' h => by
          refine ⟨fun h4 => absurd h1 h4, fun _ h4 => ?_, fun _ _ _ => ?_⟩
          · rcases h4 with h4 | h4
            · exact absurd h2 h4
            · rw [← hg] at h4; exact absurd h4 h3
          · rw [← hg, Int.toNat_natCast]
            split at h <;> rename_i h5
            · rw [if_pos h5]; exact h
            · rw [if_neg h5]; exact h
        by_cases hsg : sgl g = true
        · have hg12 : g = 1 ∨ g = 2 := by unfold sgl at hsg; exact of_decide_eq_true hsg
          have hv : vrOf ans id g N (askP ans id 1).2 = chR g (tr g 248 240 240).toNat N id (askP ans id 1).2 (folP ans (M - 1) (askP ans id 1).2) := by unfold vrOf; rw [if_pos hsg, hM, Int.toNat_natCast]
          have hvs : vsOf ans id g N (askP ans id 1).2 = folS ans (M - 1) (askP ans id 1).2 := by unfold vsOf; rw [if_pos hsg, hM, Int.toNat_natCast]
          refine (dec_chain R s w id N hJ hn hG h1 h2 g (M : Int) hg hM (by omega) hsg (s ++ [(id, 1)] ++ vsOf ans id g N (askP ans id 1).2) (vrOf ans id g N (askP ans id 1).2) fun W A c hJW hnW hGW hNW => ?_).mono fin
          rw [hv, hvs]
          exact chainV_c R (s ++ [(id, 1)]) W g id (tr g 248 240 240).toNat (M - 1) N A _ c _ hJW hnW hGW hg12 (by rcases hg12 with h | h <;> subst h <;> simp [tr]) hNW rfl (by omega) (by unfold I64; omega) (by rw [hM]; congr 1; omega)
        · have hsg' : sgl g = false := by simpa using hsg
          have hg3 : g = 3 := by
            rcases hgs with h | h | h
            · subst h; exact absurd (by decide) hsg
            · subst h; exact absurd (by decide) hsg
            · exact h
          have hv : vrOf ans id g N (askP ans id 1).2 = extR ans id M N (askP ans id 1).2 := by unfold vrOf; rw [if_neg hsg, hM, Int.toNat_natCast]
          have hvs : vsOf ans id g N (askP ans id 1).2 = extS id M := by unfold vsOf; rw [if_neg hsg, hM, Int.toNat_natCast]
          refine (dec_ext R s w id N hJ hn hG h1 h2 g (M : Int) hg hM (by omega) hsg' (s ++ [(id, 1)] ++ vsOf ans id g N (askP ans id 1).2) (vrOf ans id g N (askP ans id 1).2) fun W A c hJW hnW hGW hNW => ?_).mono fin
          rw [hv, hvs]
          rw [hg3] at hM ⊢
          exact extentV_c R (s ++ [(id, 1)]) W id M N (w.heap.size + 1) A _ c _ hJW (by omega) hnW hGW hNW hbl hi0 hi1 hM hM1
    · exact (dec_head R s w id sz hJ hn hG h1 h2).mono fun e w' h => ⟨fun h4 => absurd h1 h4, fun _ _ => h, fun _ h4 => absurd h4 h2⟩
  · exact (dec_err R s w id sz hJ hn hG h1).mono fun e w' h => ⟨fun _ => h, fun h4 => absurd h4 h1, fun h4 => absurd h4 h1⟩
end
end Go.Proofs.YtbgnfocfnjlabaaDoor

/-
  The law's reader: it reads pages of an image, and counts.
-/
set_option linter.unusedVariables false
namespace Go.Proofs.YtbgnfocfnjlabaaDoor
open Go.RowKit

/-- What an image answers. -/
def imgA (img : Bytes) (id many : Int) : Int × Bytes := if id < 0 ∨ many < 0 ∨ (img.length : Int) / 256 < many ∨ (img.length : Int) / 256 - many < id then (11, []) else (0, (img.drop (id.toNat * 256)).take (many.toNat * 256))
/-- What holds behind so many questions. -/
def RdJ (n₀ tb pb ib : Nat) (A : Option Addr) (n c : Nat) (img : Bytes) (s : List (Int × Int)) (W : World) : Prop :=
  ∃ k : Int, Blk W pb 35 [.pointer (some ⟨tb, 0, none⟩)] ∧ Blk W ib 27 [.slice A n c] ∧ Blk W tb 3 [.int .i64 k] ∧ I64 k ∧ (s.length ≤ 1000000 → k = s.length) ∧ Src W (.slice A n c) img ∧ (∀ ad, A = some ad → ad.block < n₀ ∧ ad.block ≠ tb)
theorem i64_wrap (k : Int) : I64 (wrap64 k) := by
  unfold I64 wrap64
  omega
theorem wrap_same {k : Int} (h : I64 k) : wrap64 k = k := by
  unfold I64 at h
  unfold wrap64
  omega
theorem src_only {w W : World} {F : Nat → Prop} {A : Option Addr} {n c : Nat} {xs : Bytes} (h : Src w (.slice A n c) xs) (ho : Only F w W) (hF : ∀ ad, A = some ad → ¬ F ad.block) : Src W (.slice A n c) xs := by
  obtain ⟨A', c', e, ht, h1, h2, h3⟩ := h
  simp only [Value.slice.injEq] at e
  obtain ⟨rfl, e2, rfl⟩ := e
  exact ⟨A, c, by rw [e2], ht.only ho (fun ad hn hA => hF ad hA), h1, h2, h3⟩
theorem rdj_step {W : World} {n₀ tb pb ib n c : Nat} {A : Option Addr} {img : Bytes} {s : List (Int × Int)} {k : Int} (x : Int × Int) (h1 : tb ≠ pb) (h2 : tb ≠ ib)
    (hP : Blk W pb 35 [.pointer (some ⟨tb, 0, none⟩)]) (hI : Blk W ib 27 [.slice A n c]) (hT : Blk W tb 3 [.int .i64 k]) (hs : s.length ≤ 1000000 → k = s.length) (hS : Src W (.slice A n c) img) (hA : ∀ ad, A = some ad → ad.block < n₀ ∧ ad.block ≠ tb) :
    RdJ n₀ tb pb ib A n c img (s ++ [x]) (W.setCell ⟨tb, 0, none⟩ (.int .i64 (wrap64 (k + 1)))) ∧ Only (· = tb) W (W.setCell ⟨tb, 0, none⟩ (.int .i64 (wrap64 (k + 1)))) := by
  have ho : Only (· = tb) W (W.setCell ⟨tb, 0, none⟩ (.int .i64 (wrap64 (k + 1)))) := (Only.refl (· = tb) W).setCell (p := ⟨tb, 0, none⟩) rfl _
  refine ⟨⟨wrap64 (k + 1), hP.only ho (fun e => h1 e.symm), hI.only ho (fun e => h2 e.symm), hT.set_ 0 _, i64_wrap _, fun hl => ?_, src_only hS ho (fun ad e h => (hA ad e).2 h), hA⟩, ho⟩
  rw [List.length_append] at hl ⊢
  simp only [List.length_cons, List.length_nil] at hl ⊢
  have h3 := hs (by omega)
  rw [wrap_same (by unfold I64; omega)]
  omega
theorem rd_nums {i m n : Nat} (hl : n ≤ 1000000) (b1 : (i + m) * 256 ≤ n) : wrap64 ((i : Int) * 256) = ((i * 256 : Nat) : Int) ∧ wrap64 ((i : Int) + (m : Int)) = ((i + m : Nat) : Int) ∧ wrap64 (((i + m : Nat) : Int) * 256) = (((i + m) * 256 : Nat) : Int) := by
  refine ⟨?_, ?_, ?_⟩
  · rw [wrap_same (by unfold I64; omega)]; omega
  · rw [wrap_same (by unfold I64; omega)]; omega
  · rw [wrap_same (by unfold I64; omega)]; omega
theorem src_wino {w : World} {b off n c i k : Nat} {xs : Bytes} (h : Src w (.slice (some ⟨b, off, none⟩) n c) xs) (hk : i + k ≤ n) (hic : i ≤ c) : Src w (.slice (some ⟨b, off + i, none⟩) k (c - i)) ((xs.drop i).take k) := by
  obtain ⟨A, c', e, ht, _, h4, h5⟩ := h
  simp only [Value.slice.injEq] at e
  obtain ⟨rfl, e2, rfl⟩ := e
  have hn : ((xs.drop i).take k).length = k := by rw [List.length_take, List.length_drop]; omega
  refine ⟨_, c - i, by rw [hn], ⟨rfl, fun hn0 => ⟨_, rfl, fun j u hu => ?_⟩⟩, (fun e => by cases e), by rw [hn]; omega, by omega⟩
  have h6 := ht.src _ rfl (i + j) u (by
    rw [cb_take, cb_drop, List.getElem?_take] at hu
    split at hu
    · rwa [List.getElem?_drop] at hu
    · cases hu)
  rw [Addr.add_mid] at h6 ⊢
  rwa [show off + i + j = off + (i + j) by omega]
set_option maxRecDepth 100000 in
set_option maxHeartbeats 400000 in
theorem Oreader1_c (W : World) (n₀ tb pb ib n c : Nat) (A : Option Addr) (img : Bytes) (s : List (Int × Int)) (id many : Int) (hm : 1 ≤ many) (h : RdJ n₀ tb pb ib A n c img s W) (h1 : tb ≠ pb) (h2 : tb ≠ ib) (hl : img.length ≤ 1000000) :
    Calls Tryd.prog 30 (#[.int .i64 id, .int .i64 many] ++ #[.pointer (some ⟨pb, 0, none⟩), .pointer (some ⟨ib, 0, none⟩)]) W fun e W' => ∃ v, e = .returned (.tuple #[v, .int .i64 (imgA img id many).1]) ∧ Src W' v (imgA img id many).2 ∧ RdJ n₀ tb pb ib A n c img (s ++ [(id, many)]) W' ∧ Only (· = tb) W W' := by
  obtain ⟨k, hP, hI, hT, hk, hs, hS, hA⟩ := h
  have hn : n = img.length := by
    obtain ⟨A', c', e, ht, _⟩ := hS
    simp only [Value.slice.injEq] at e
    exact e.2.1
  have q0 := hP.cell 0
  have q1 := hI.cell 0
  have q2 := hT.cell 0
  have f2 := hT.frozen 0
  have HSTEP := Lib.hid (rdj_step (id, many) h1 h2 hP hI hT hs hS hA)
  have HN := Lib.hid hn
  have HS := Lib.hid hS
  have HA := Lib.hid hA
  have g0 : ¬ many < 0 := by omega
  clear hP hI hT hk hs hS hA
  by_cases a : id < 0 ∨ many < 0 ∨ (img.length : Int) / 256 < many ∨ (img.length : Int) / 256 - many < id
  · have HI1 : Hid (imgA img id many = (11, [])) := Lib.hid (if_pos a)
    rw [← hn] at a hl
    clear hn
    have w1 : wrap64 ((n : Int) / 256) = (n : Int) / 256 := wrap_same (by unfold I64; omega)
    by_cases a1 : id < 0
    · clear a
      go_enter Tryd.func30, Tryd.ntmps30
      go_wp2
      go_ret2
      rw [HI1.out]
      exact ⟨_, rfl, Src.nil_ _, HSTEP.out⟩
    by_cases a2 : (n : Int) / 256 < many
    · clear a
      go_enter Tryd.func30, Tryd.ntmps30
      go_wp2
      go_ret2
      rw [HI1.out]
      exact ⟨_, rfl, Src.nil_ _, HSTEP.out⟩
    have a3 : (n : Int) / 256 - many < id := by omega
    have w2 : wrap64 ((n : Int) / 256 - many) = (n : Int) / 256 - many := wrap_same (by unfold I64; omega)
    clear a
    go_enter Tryd.func30, Tryd.ntmps30
    go_wp2
    go_ret2
    rw [HI1.out]
    exact ⟨_, rfl, Src.nil_ _, HSTEP.out⟩
  · obtain ⟨i, rfl⟩ : ∃ i : Nat, id = (i : Int) := ⟨id.toNat, by omega⟩
    obtain ⟨m, rfl⟩ : ∃ m : Nat, many = (m : Int) := ⟨many.toNat, by omega⟩
    have HI1 : Hid (imgA img i m = (0, (img.drop (i * 256)).take (m * 256))) := Lib.hid (by unfold imgA; rw [if_neg a, Int.toNat_natCast, Int.toNat_natCast])
    rw [← hn] at a hl
    have b1 : (i + m) * 256 ≤ n := by omega
    obtain ⟨b, off, rfl, hx1, hcn, hcm, hx2⟩ := src_form HS.out (by omega)
    clear hx1 hx2
    have w1 : wrap64 ((n : Int) / 256) = (n : Int) / 256 := wrap_same (by unfold I64; omega)
    have w2 : wrap64 ((n : Int) / 256 - (m : Int)) = (n : Int) / 256 - (m : Int) := wrap_same (by unfold I64; omega)
    obtain ⟨w3, w4, w5⟩ := rd_nums hl b1
    obtain ⟨lo, hlo⟩ : ∃ lo, lo = i * 256 := ⟨_, rfl⟩
    obtain ⟨q, hq⟩ : ∃ q, q = i + m := ⟨_, rfl⟩
    obtain ⟨hi, hhi⟩ : ∃ hi, hi = q * 256 := ⟨_, rfl⟩
    rw [← hlo] at w3
    rw [← hq] at w4 w5
    rw [← hhi] at w5
    have a2 : ¬ (n : Int) / 256 < (m : Int) := by omega
    have a3 : ¬ (n : Int) / 256 - (m : Int) < (i : Int) := by omega
    have a4 : ¬ (i : Int) < 0 := by omega
    have hcc : ¬ c = lo := by omega
    have b2 : lo ≤ hi := by omega
    have b3 : hi ≤ c := by omega
    have HR : Hid (Src W (.slice (some ⟨b, off + lo, none⟩) (hi - lo) (c - lo)) ((img.drop (i * 256)).take (m * 256))) := Lib.hid (by
      have h := src_wino (i := lo) (k := hi - lo) HS.out (by omega) (by omega)
      rw [hlo, show hi - i * 256 = m * 256 by omega] at h
      rw [hlo, show hi - i * 256 = m * 256 by omega]
      exact h)
    have HCM := Lib.hid (And.intro hcn hcm)
    clear hn a hlo hq hhi hl b1 hcn hcm
    go_enter Tryd.func30, Tryd.ntmps30
    go_wp2
    go_ret2
    rw [HI1.out]
    exact ⟨_, rfl, src_only HR.out HSTEP.out.2 (fun ad e h => (HA.out ⟨b, off, none⟩ rfl).2 (by cases e; exact h)), HSTEP.out⟩
theorem imgR {n₀ tb pb ib n c : Nat} {A : Option Addr} {img : Bytes} (h0 : tb < n₀) (h1 : pb < n₀) (h2 : ib < n₀) (h3 : tb ≠ pb) (h4 : tb ≠ ib) (h5 : 1 < n₀) (h6 : 1 ≠ tb) (hl : img.length ≤ 1000000) :
    Rdg n₀ (· = tb) (RdJ n₀ tb pb ib A n c img) 30 #[.pointer (some ⟨pb, 0, none⟩), .pointer (some ⟨ib, 0, none⟩)] (imgA img) where
  enters := enters_of Tryd.func30 (by kernel_rfl) rfl
  low := fun k h => by rw [h]; exact h0
  zero := h6
  gb := h5
  keep := fun s W W' ⟨k, hP, hI, hT, hk, hs, hS, hA⟩ hn ho => ⟨k, hP.only ho (by omega), hI.only ho (by omega), hT.only ho (by omega), hk, hs, src_only hS ho (fun ad e h => by have := (hA ad e).1; omega), hA⟩
  len := fun id many => by
    unfold imgA
    split
    · simp
    · simp only [List.length_take, List.length_drop]; omega
  call := fun s W id many hm h hn => (Oreader1_c W n₀ tb pb ib n c A img s id many hm h h3 h4 hl).mono fun e W' ⟨v, e1, e2, e3, e4⟩ => ⟨v, e1, e2, e3, e4.mono fun k h => Or.inl h⟩
/-- The law's reader: two boxes, and a function over them. -/
theorem Oreader_c (w : World) (A : Option Addr) (n c tb : Nat) :
    Calls Tryd.prog 13 #[.slice A n c, .pointer (some ⟨tb, 0, none⟩)] w fun e w' => e = .returned (.func (.func 30) #[] #[.pointer (some ⟨w.heap.size + 1, 0, none⟩), .pointer (some ⟨w.heap.size, 0, none⟩)]) ∧ w' = (w.alloc (.cells #[.slice A n c] 27)).alloc (.cells #[.pointer (some ⟨tb, 0, none⟩)] 35) := by
  have hmf : ∀ (fn : Fn) (first cap : Array Value) (w : World), (Instr.makeFunc fn first cap).run Tryd.prog w = .ok (.func fn first cap) w := fun _ _ _ _ => rfl
  go_enter Tryd.func13, Tryd.ntmps13
  go_wp2
  go_ret
  exact ⟨rfl, rfl⟩
/-- Behind it nothing has been asked yet. -/
theorem rdj_start {w : World} {n₀ tb n c : Nat} {A : Option Addr} {img : Bytes} (hT : Blk w tb 3 [.int .i64 0]) (hS : Src w (.slice A n c) img) (hA : ∀ ad, A = some ad → ad.block ≠ tb ∧ ad.block < w.heap.size) (hn : w.heap.size + 2 ≤ n₀) :
    RdJ n₀ tb (w.heap.size + 1) w.heap.size A n c img [] ((w.alloc (.cells #[.slice A n c] 27)).alloc (.cells #[.pointer (some ⟨tb, 0, none⟩)] 35)) := by
  have ho : Only (w.heap.size ≤ ·) w ((w.alloc (.cells #[.slice A n c] 27)).alloc (.cells #[.pointer (some ⟨tb, 0, none⟩)] 35)) := ((Only.refl _ w).alloc (fun _ h => h) _).alloc (fun _ h => h) _
  refine ⟨0, ?_, (Blk.new w 27 _).alloc _, hT.later ho, by unfold I64; omega, fun _ => rfl, hS.later ho, fun ad e => ⟨by have := (hA ad e).2; omega, (hA ad e).1⟩⟩
  have := Blk.new (w.alloc (.cells #[.slice A n c] 27)) 35 [.pointer (some ⟨tb, 0, none⟩)]
  simpa using this
end Go.Proofs.YtbgnfocfnjlabaaDoor

