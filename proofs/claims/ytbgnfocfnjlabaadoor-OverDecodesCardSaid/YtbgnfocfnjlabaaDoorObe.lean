/-
  many, behind.
-/
import Derived.Test.YtbgnfocfnjlabaaDoorOas
import Derived.Test.YtbgnfocfnjlabaaDoorOsm
set_option linter.unusedVariables false
namespace Go.Proofs.YtbgnfocfnjlabaaDoor
open Go.RowKit

/-- What stands behind a page of a chain: its number, its bytes, is there one? -/
def behP (ans : Int → Int → Int × Bytes) (b : Bytes) : Int × Bytes × Bool := if hdE b = 0 ∧ isId (hdX b : Nat) = true then ((hdX b : Nat), (askP ans (hdX b : Nat) 1).2, decide ((askP ans (hdX b : Nat) 1).1 = 0)) else (0, [], false)
/-- What was asked for. -/
def behS (b : Bytes) : List (Int × Int) := if hdE b = 0 ∧ isId (hdX b : Nat) = true then [((hdX b : Nat), 1)] else []
section
variable {n₀ : Nat} {F : Nat → Prop} {J : List (Int × Int) → World → Prop} {f : Nat} {lb : Array Value} {ans : Int → Int → Int × Bytes}
theorem Ormany_c (w : World) (x : Value) (g sz : Int) (hG : Gens w) (hx : ∃ f lb, x = .func (.func f) #[] lb) : Calls Tryd.prog 81 #[.agg #[x, .int .i64 g, .int .i64 sz]] w (Told w (.int .i64 (manyP g sz))) := by
  obtain ⟨f, lb, rfl⟩ := hx
  have HM : Hid (∀ W, Gens W → Calls Tryd.prog 7 #[.int .i64 g, .int .i64 sz] W (Told W (.int .i64 (manyP g sz)))) := Lib.hid fun W hW => OMany_c W g sz hW
  have HG := Lib.hid (hG.later ((Only.refl _ w).alloc (fun _ h => h) (.cells #[.func (.func f) #[] lb, .int .i64 g, .int .i64 sz] 54)))
  generalize manyP g sz = z at *
  clear hG
  go_enter Tryd.func81, Tryd.ntmps81
  go_wp2_with (go_at_call 7; refine (HM.out _ HG.out).mono ?_; rintro e w1 ⟨rfl, ho⟩; have HO := Lib.hid ho; clear ho)
  go_ret
  exact ⟨rfl, on_new ((Only.refl _ w).alloc (fun _ h => h) _) HO.out⟩

theorem beh_low {w : World} {k z : Nat} (h : ∀ k, F k → k < n₀) (hn : n₀ ≤ w.heap.size) (h1 : w.heap.size ≤ k) (h2 : k < z) : ¬ (F k ∨ z ≤ k) := fun h3 => by
  rcases h3 with h3 | h3
  · have := h k h3; omega
  · omega

set_option maxRecDepth 100000 in
set_option maxHeartbeats 3200000 in
theorem behind_c (R : Rdg n₀ F J f lb ans) (s : List (Int × Int)) (w : World) (g sz : Int) (v : Value) (b : Bytes) (hJ : J s w) (hn : n₀ ≤ w.heap.size) (hG : Gens w) (hv : Src w v b) (hb : b.length ≤ 65536) :
    Calls Tryd.prog 82 #[.agg #[.func (.func f) #[] lb, .int .i64 g, .int .i64 sz], v] w fun e w' => ∃ u, e = .returned (.tuple #[.int .i64 (behP ans b).1, u, .bool (behP ans b).2.2]) ∧ New w' w.heap.size u (behP ans b).2.1 ∧ J (s ++ behS b) w' ∧ Only (fun k => F k ∨ w.heap.size ≤ k) w w' := by
  obtain ⟨W0, hW0⟩ : ∃ W, W = w.alloc (.cells #[.func (.func f) #[] lb, .int .i64 g, .int .i64 sz] 93) := ⟨_, rfl⟩
  have hO0 : Only (w.heap.size ≤ ·) w W0 := by rw [hW0]; exact (Only.refl _ w).alloc (fun _ h => h) _
  have hB0 : Blk W0 w.heap.size 93 [.func (.func f) #[] lb, .int .i64 g, .int .i64 sz] := by rw [hW0]; exact Blk.new w 93 _
  have HH : Hid (Calls Tryd.prog 28 #[v] W0 (Told W0 (hdV b))) := Lib.hid (HeadOf_c W0 v b (hG.later hO0) (hv.later hO0) hb)
  have HO0 := Lib.hid hO0
  have HB0 := Lib.hid hB0
  have HJ : Hid (∀ W, Only (w.heap.size ≤ ·) w W → J s W ∧ Only (fun k => F k ∨ w.heap.size ≤ k) w W) := Lib.hid fun W hW => ⟨R.keep s w W hJ hn (hW.mono fun k h => Nat.le_trans hn h), hW.mono fun k h => .inr h⟩
  by_cases h1 : hdE b = 0
  · obtain ⟨he, _, _⟩ := hdV_ok h1
    rw [he] at HH
    unfold hdOk at HH
    obtain ⟨x, hx⟩ : ∃ x : Int, x = ((hdX b : Nat) : Int) := ⟨_, rfl⟩
    by_cases h2 : isId (hdX b : Nat) = true
    · have e1 : behP ans b = (x, (askP ans x 1).2, decide ((askP ans x 1).1 = 0)) := by rw [hx]; exact if_pos ⟨h1, h2⟩
      have e2 : behS b = [(x, 1)] := by rw [hx]; exact if_pos ⟨h1, h2⟩
      rw [e1, e2]
      rw [← hx] at HH h2
      have HI : Hid (∀ W, Calls Tryd.prog 61 #[.int .i64 x] W fun e w' => e = .returned (.bool true) ∧ W = w') := Lib.hid fun W => by have := OisId_c W x; rwa [h2] at this
      have HA : Hid (∀ W, Only (w.heap.size ≤ ·) w W → Calls Tryd.prog 27 #[.agg #[.func (.func f) #[] lb, .int .i64 g, .int .i64 sz], .int .i64 x, .int .i64 1] W fun e w' => ∃ v, e = .returned (.tuple #[v, .int .i64 (askP ans x 1).1]) ∧ New w' W.heap.size v (askP ans x 1).2 ∧ J (s ++ [(x, 1)]) w' ∧ Only (fun k => F k ∨ W.heap.size ≤ k) W w') := Lib.hid fun W hW =>
        ask_c R s W g sz x 1 (HJ.out W hW).1 (by have := hW.size; omega) (by omega) (by omega)
      have HLO := Lib.hid R.low
      generalize (askP ans x 1).1 = z at *
      generalize (askP ans x 1).2 = bs at *
      clear h1 h2 he e1 e2 hv hG hx R hO0 hB0 hJ
      go_enter Tryd.func82, Tryd.ntmps82
      go_wp2_with (first | (go_at_call 28; rw [← hW0]; refine HH.out.mono ?_; rintro e w1 ⟨rfl, ho⟩; have HO := Lib.hid (on_new HO0.out ho); have HB := Lib.hid (HB0.out.later ho); have hz1 := ho.size; (obtain ⟨y0, y1, y2⟩ := HB.out.tri); have hl1 := HB.out.lt; clear ho) | (go_at_call 61; refine (HI.out _).mono ?_; rintro e w2 ⟨rfl, rfl⟩) | (go_at_call 27; go_loud (refine (HA.out _ (HO.out.alloc (fun _ h => h) _)).mono ?_; rintro e w3 ⟨u, rfl, hu, hj3, ho3⟩; have HU := Lib.hid hu; have HJ3 := Lib.hid hj3; have hx3 := (ho3.cell (p := ⟨w1.heap.size, 3, none⟩) (beh_low (k := w1.heap.size) HLO.out hn (Nat.le_of_lt hl1) (by simp))).trans ((Blk.new w1 57 [.int .i64 (hdK b : Nat), .int .i64 (hdG b : Nat), .int .i64 (hdN b : Nat), .int .i64 x]).cell 3); have HO3 := Lib.hid ho3; (obtain ⟨UA, un, rfl, _⟩ := hu); clear ho3 hj3)))
      go_ret3
      refine ⟨_, by simp; exact (Bool.eq_iff_iff.2 (by simp)), HU.out.mono (Nat.le_trans (Nat.le_of_lt hl1) (by simp)), HJ3.out, (HJ.out _ (HO.out.alloc (fun _ h => h) _)).2.trans (HO3.out.mono fun k h => h.imp (fun h => h) fun h => by simp at h; omega)⟩
    · have h2 : isId (hdX b : Nat) = false := by simpa using h2
      have e1 : behP ans b = (0, [], false) := if_neg fun h => by rw [h2] at h; cases h.2
      have e2 : behS b = [] := if_neg fun h => by rw [h2] at h; cases h.2
      rw [e1, e2, List.append_nil]
      rw [← hx] at HH h2
      have HI : Hid (∀ W, Calls Tryd.prog 61 #[.int .i64 x] W fun e w' => e = .returned (.bool false) ∧ W = w') := Lib.hid fun W => by have := OisId_c W x; rwa [h2] at this
      clear h1 h2 he e1 e2 hv hG hx R hO0 hB0
      go_enter Tryd.func82, Tryd.ntmps82
      go_wp2_with (first | (go_at_call 28; rw [← hW0]; refine HH.out.mono ?_; rintro e w1 ⟨rfl, ho⟩; have HO := Lib.hid (on_new HO0.out ho); have HB := Lib.hid (HB0.out.later ho); have hz1 := ho.size; clear ho) | (go_at_call 61; refine (HI.out _).mono ?_; rintro e w2 ⟨rfl, rfl⟩))
      go_ret3
      exact ⟨_, rfl, New.nil_ _ _, HJ.out _ (HO.out.alloc (fun _ h => h) _)⟩
  · have he := hdV_no h1
    have e1 : behP ans b = (0, [], false) := if_neg fun h => h1 h.1
    have e2 : behS b = [] := if_neg fun h => h1 h.1
    rw [e1, e2, List.append_nil]
    have h1' : (hdE b != 0) = true := by rw [bne_iff_ne]; exact h1
    rw [he] at HH
    unfold hdBad at HH
    generalize hdE b = z at *
    clear h1 he e1 e2 hv hG R hO0 hB0 hJ
    go_enter Tryd.func82, Tryd.ntmps82
    go_wp2_with (go_at_call 28; rw [← hW0]; refine HH.out.mono ?_; rintro e w1 ⟨rfl, ho⟩; have HO := Lib.hid (on_new HO0.out ho); have HB := Lib.hid (HB0.out.later ho); have hz1 := ho.size; clear ho)
    go_ret3
    exact ⟨_, rfl, New.nil_ _ _, HJ.out _ (HO.out.alloc (fun _ h => h) _)⟩
end
end Go.Proofs.YtbgnfocfnjlabaaDoor
