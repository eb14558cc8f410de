/-
  readingOf, Decode of a chain.
-/
import Derived.Test.YtbgnfocfnjlabaaDoorOcv
set_option linter.unusedVariables false
namespace Go.Proofs.YtbgnfocfnjlabaaDoor
open Go.RowKit

theorem results_tmp4 {fn : Func} {t u v x : Tmp} (h : fn.results = #[.tmp t, .tmp u, .tmp v, .tmp x]) (tmps : Array Value) (P : Program) (w : World) :
    (results fn tmps).run P w = .ok (.tuple #[tmps.getD t undef, tmps.getD u undef, tmps.getD v undef, tmps.getD x undef]) w := by
  simp [results, h]
section
variable {n₀ : Nat} {F : Nat → Prop} {J : List (Int × Int) → World → Prop} {f : Nat} {lb : Array Value} {ans : Int → Int → Int × Bytes}
theorem OreadingOf_c (w : World) (g sz : Int) :
    Calls Tryd.prog 29 #[.agg #[.func (.func f) #[] lb, .int .i64 g, .int .i64 sz]] w (Told w (if sgl g = true then .func (.func 53) #[.agg #[.func (.func f) #[] lb, .int .i64 g, .int .i64 sz]] #[] else .func (.func 54) #[.agg #[.func (.func f) #[] lb, .int .i64 g, .int .i64 sz]] #[])) := by
  have hmf : ∀ (fn : Fn) (first cap : Array Value) (w : World), (Instr.makeFunc fn first cap).run Tryd.prog w = .ok (.func fn first cap) w := fun _ _ _ _ => rfl
  obtain ⟨b, hb⟩ : ∃ b, b = sgl g := ⟨_, rfl⟩
  have HS : Hid (∀ W, Calls Tryd.prog 9 #[.int .i64 g] W fun e w' => e = .returned (.bool b) ∧ W = w') := Lib.hid fun W => by rw [hb]; exact OSingle_c W g
  rw [← hb]
  clear hb
  cases b
  all_goals
    go_enter Tryd.func29, Tryd.ntmps29
    go_wp2_with (go_at_call 9; go_loud (refine (HS.out _).mono ?_; rintro e w1 ⟨rfl, rfl⟩))
    go_ret
    exact ⟨rfl, (Only.refl _ w).alloc (fun _ h => h) _⟩

theorem func_nil_d (d : Nat) (w : World) : (Op.equalIn (d + 1) 33 (.func (.func f) #[] lb) Value.nilFunc).run Tryd.prog w = .ok false w := by
  simp [Op.equalIn, run_underlying Tryd.underlying33]
theorem func_nil (w : World) : (binOp .eql 33 (.func (.func f) #[] lb) Value.nilFunc).run Tryd.prog w = .ok (.bool false) w := by
  simp only [binOp]
  simp [Op.equal, Op.maxDepth, func_nil_d 9999 w]
theorem dec_low {w : World} {z : Nat} (R : Rdg n₀ F J f lb ans) (hn : n₀ ≤ w.heap.size) (h : z = w.heap.size + 1) : ¬ (F w.heap.size ∨ z ≤ w.heap.size) := fun h3 => by
  rcases h3 with h3 | h3
  · have := R.low _ h3; omega
  · omega
/-- Nothing is decoded. -/
def DecNo (J : List (Int × Int) → World → Prop) (F : Nat → Prop) (w : World) (s : List (Int × Int)) (z : Int) (e : Ending) (w' : World) : Prop := e = .returned (.tuple #[.int .i64 0, .slice none 0 0, .slice none 0 0, .int .i64 z]) ∧ J s w' ∧ Only (fun k => F k ∨ w.heap.size ≤ k) w w'
theorem dec_fin {w w1 w2 : World} {s : List (Int × Int)} (R : Rdg n₀ F J f lb ans) (hn : n₀ ≤ w.heap.size) (hj : J s w1) (h1 : Only (fun k => F k ∨ w.heap.size ≤ k) w w1) (h2 : Only (w1.heap.size ≤ ·) w1 w2) : J s w2 ∧ Only (fun k => F k ∨ w.heap.size ≤ k) w w2 :=
  ⟨R.keep s w1 w2 hj (Nat.le_trans hn h1.size) (h2.mono fun k h => Nat.le_trans hn (Nat.le_trans h1.size h)), h1.trans (h2.mono fun k h => Or.inr (Nat.le_trans h1.size h))⟩

set_option maxRecDepth 100000 in
set_option maxHeartbeats 3200000 in
theorem dec_err (R : Rdg n₀ F J f lb ans) (s : List (Int × Int)) (w : World) (id sz : Int) (hJ : J s w) (hn : n₀ ≤ w.heap.size) (hG : Gens w)
    (h1 : (askP ans id 1).1 ≠ 0) : Calls Tryd.prog 12 #[.func (.func f) #[] lb, .int .i64 id, .int .i64 sz] w (DecNo J F w (s ++ [(id, 1)]) (askP ans id 1).1) := by
  obtain ⟨W0, hW0⟩ : ∃ W, W = w.alloc (.cells #[.func (.func f) #[] lb, .int .i64 0, .int .i64 sz] 54) := ⟨_, rfl⟩
  have hO0 : Only (w.heap.size ≤ ·) w W0 := by rw [hW0]; exact (Only.refl _ w).alloc (fun _ h => h) _
  have HB0 : Hid (Blk W0 w.heap.size 54 [.func (.func f) #[] lb, .int .i64 0, .int .i64 sz]) := Lib.hid (by rw [hW0]; exact Blk.new w 54 _)
  have HZ0 : Hid (W0.heap.size = w.heap.size + 1) := Lib.hid (by rw [hW0]; simp)
  have HO0 : Hid (Only (fun k => F k ∨ w.heap.size ≤ k) w W0) := Lib.hid (hO0.mono fun k h => .inr h)
  have HA : Hid (Calls Tryd.prog 27 #[.agg #[.func (.func f) #[] lb, .int .i64 0, .int .i64 sz], .int .i64 id, .int .i64 1] W0 fun e w' => ∃ v, e = .returned (.tuple #[v, .int .i64 (askP ans id 1).1]) ∧ New w' W0.heap.size v (askP ans id 1).2 ∧ J (s ++ [(id, 1)]) w' ∧ Only (fun k => F k ∨ W0.heap.size ≤ k) W0 w') := Lib.hid
    (ask_c R s W0 0 sz id 1 (R.keep s w W0 hJ hn (hO0.mono fun k h => Nat.le_trans hn h)) (Nat.le_trans hn hO0.size) (by omega) (by omega))
  have HR := Lib.hid R
  have HG := Lib.hid hG
  have HH : Hid (∀ W v, Gens W → Src W v (askP ans id 1).2 → Calls Tryd.prog 28 #[v] W (Told W (hdV (askP ans id 1).2))) := Lib.hid fun W v hW hv => HeadOf_c W v _ hW hv (Nat.le_trans (askP_len ans id) (by omega))
  have hfn := fun w => func_nil (f := f) (lb := lb) w
  have hst : ∀ (w' : World) (a : Addr) (m : Mode), (store a (.func (.func f) #[] lb) m).run Tryd.prog w' = stored Tryd.prog w' a (.func (.func f) #[] lb) m := fun w' a m => run_store_func _ _ _
  clear hO0 R hJ hG
  have h1' : ((askP ans id 1).1 != 0) = true := by rw [bne_iff_ne]; exact h1
  generalize (askP ans id 1).1 = z at *
  clear h1
  go_enter Tryd.func12, Tryd.ntmps12
  go_wp2_with (go_at_call 27; go_loud (rw [← hW0]; refine HA.out.mono ?_; rintro e w1 ⟨v1, rfl, hv1, hj1, ho1⟩; have HV1 := Lib.hid hv1; (obtain ⟨A1, c1, rfl, _⟩ := hv1); have HJ1 := Lib.hid hj1; have HB1 := Lib.hid (HB0.out.only ho1 (dec_low HR.out hn HZ0.out)); have HO1 := Lib.hid (HO0.out.trans (ho1.mono fun k h => h.imp (fun h => h) fun h => by have := HZ0.out; omega)); clear hj1 ho1 hW0))
  refine bodyPost_ret (results_tmp4 rfl _ _ _) rfl ?_
  exact ⟨rfl, HJ1.out, HO1.out⟩
set_option maxRecDepth 100000 in
set_option maxHeartbeats 3200000 in
theorem dec_head (R : Rdg n₀ F J f lb ans) (s : List (Int × Int)) (w : World) (id sz : Int) (hJ : J s w) (hn : n₀ ≤ w.heap.size) (hG : Gens w)
    (h1 : (askP ans id 1).1 = 0) (h2 : hdE (askP ans id 1).2 ≠ 0) : Calls Tryd.prog 12 #[.func (.func f) #[] lb, .int .i64 id, .int .i64 sz] w (DecNo J F w (s ++ [(id, 1)]) 80) := by
  obtain ⟨W0, hW0⟩ : ∃ W, W = w.alloc (.cells #[.func (.func f) #[] lb, .int .i64 0, .int .i64 sz] 54) := ⟨_, rfl⟩
  have hO0 : Only (w.heap.size ≤ ·) w W0 := by rw [hW0]; exact (Only.refl _ w).alloc (fun _ h => h) _
  have HB0 : Hid (Blk W0 w.heap.size 54 [.func (.func f) #[] lb, .int .i64 0, .int .i64 sz]) := Lib.hid (by rw [hW0]; exact Blk.new w 54 _)
  have HZ0 : Hid (W0.heap.size = w.heap.size + 1) := Lib.hid (by rw [hW0]; simp)
  have HO0 : Hid (Only (fun k => F k ∨ w.heap.size ≤ k) w W0) := Lib.hid (hO0.mono fun k h => .inr h)
  have HA : Hid (Calls Tryd.prog 27 #[.agg #[.func (.func f) #[] lb, .int .i64 0, .int .i64 sz], .int .i64 id, .int .i64 1] W0 fun e w' => ∃ v, e = .returned (.tuple #[v, .int .i64 (askP ans id 1).1]) ∧ New w' W0.heap.size v (askP ans id 1).2 ∧ J (s ++ [(id, 1)]) w' ∧ Only (fun k => F k ∨ W0.heap.size ≤ k) W0 w') := Lib.hid
    (ask_c R s W0 0 sz id 1 (R.keep s w W0 hJ hn (hO0.mono fun k h => Nat.le_trans hn h)) (Nat.le_trans hn hO0.size) (by omega) (by omega))
  have HR := Lib.hid R
  have HG := Lib.hid hG
  have HH : Hid (∀ W v, Gens W → Src W v (askP ans id 1).2 → Calls Tryd.prog 28 #[v] W (Told W (hdV (askP ans id 1).2))) := Lib.hid fun W v hW hv => HeadOf_c W v _ hW hv (Nat.le_trans (askP_len ans id) (by omega))
  have hfn := fun w => func_nil (f := f) (lb := lb) w
  have hst : ∀ (w' : World) (a : Addr) (m : Mode), (store a (.func (.func f) #[] lb) m).run Tryd.prog w' = stored Tryd.prog w' a (.func (.func f) #[] lb) m := fun w' a m => run_store_func _ _ _
  clear hO0 R hJ hG
  rw [h1] at HA
  have he := hdV_no h2
  have h2' : (hdE (askP ans id 1).2 != 0) = true := by rw [bne_iff_ne]; exact h2
  rw [he] at HH
  unfold hdBad at HH
  generalize hdE (askP ans id 1).2 = z at *
  generalize (askP ans id 1).2 = b at *
  clear h1 h2 he
  go_enter Tryd.func12, Tryd.ntmps12
  go_wp2_with (first
    | (go_at_call 27; go_loud (rw [← hW0]; refine HA.out.mono ?_; rintro e w1 ⟨v1, rfl, hv1, hj1, ho1⟩; have HV1 := Lib.hid hv1; (obtain ⟨A1, c1, rfl, _⟩ := hv1); have HJ1 := Lib.hid hj1; have HB1 := Lib.hid (HB0.out.only ho1 (dec_low HR.out hn HZ0.out)); have HO1 := Lib.hid (HO0.out.trans (ho1.mono fun k h => h.imp (fun h => h) fun h => by have := HZ0.out; omega)); clear hj1 ho1 hW0))
    | (go_at_call 28; go_loud (refine (HH.out w1 _ (gens_keep HG.out HO1.out HR.out.zero) HV1.out.src).mono ?_; rintro e w2 ⟨rfl, ho2⟩; have HO2 := Lib.hid ho2; have hz1 := HO1.out.size; clear ho2)))
  refine bodyPost_ret (results_tmp4 rfl _ _ _) rfl ?_
  exact ⟨rfl, dec_fin HR.out hn HJ1.out HO1.out (HO2.out.alloc (fun _ h => h) _)⟩
set_option maxRecDepth 100000 in
set_option maxHeartbeats 3200000 in
theorem dec_many (R : Rdg n₀ F J f lb ans) (s : List (Int × Int)) (w : World) (id sz : Int) (hJ : J s w) (hn : n₀ ≤ w.heap.size) (hG : Gens w)
    (h1 : (askP ans id 1).1 = 0) (h2 : hdE (askP ans id 1).2 = 0) (h3 : manyP (hdG (askP ans id 1).2 : Nat) sz = 0) : Calls Tryd.prog 12 #[.func (.func f) #[] lb, .int .i64 id, .int .i64 sz] w (DecNo J F w (s ++ [(id, 1)]) 80) := by
  obtain ⟨W0, hW0⟩ : ∃ W, W = w.alloc (.cells #[.func (.func f) #[] lb, .int .i64 0, .int .i64 sz] 54) := ⟨_, rfl⟩
  have hO0 : Only (w.heap.size ≤ ·) w W0 := by rw [hW0]; exact (Only.refl _ w).alloc (fun _ h => h) _
  have HB0 : Hid (Blk W0 w.heap.size 54 [.func (.func f) #[] lb, .int .i64 0, .int .i64 sz]) := Lib.hid (by rw [hW0]; exact Blk.new w 54 _)
  have HZ0 : Hid (W0.heap.size = w.heap.size + 1) := Lib.hid (by rw [hW0]; simp)
  have HO0 : Hid (Only (fun k => F k ∨ w.heap.size ≤ k) w W0) := Lib.hid (hO0.mono fun k h => .inr h)
  have HA : Hid (Calls Tryd.prog 27 #[.agg #[.func (.func f) #[] lb, .int .i64 0, .int .i64 sz], .int .i64 id, .int .i64 1] W0 fun e w' => ∃ v, e = .returned (.tuple #[v, .int .i64 (askP ans id 1).1]) ∧ New w' W0.heap.size v (askP ans id 1).2 ∧ J (s ++ [(id, 1)]) w' ∧ Only (fun k => F k ∨ W0.heap.size ≤ k) W0 w') := Lib.hid
    (ask_c R s W0 0 sz id 1 (R.keep s w W0 hJ hn (hO0.mono fun k h => Nat.le_trans hn h)) (Nat.le_trans hn hO0.size) (by omega) (by omega))
  have HR := Lib.hid R
  have HG := Lib.hid hG
  have HH : Hid (∀ W v, Gens W → Src W v (askP ans id 1).2 → Calls Tryd.prog 28 #[v] W (Told W (hdV (askP ans id 1).2))) := Lib.hid fun W v hW hv => HeadOf_c W v _ hW hv (Nat.le_trans (askP_len ans id) (by omega))
  have hfn := fun w => func_nil (f := f) (lb := lb) w
  have hst : ∀ (w' : World) (a : Addr) (m : Mode), (store a (.func (.func f) #[] lb) m).run Tryd.prog w' = stored Tryd.prog w' a (.func (.func f) #[] lb) m := fun w' a m => run_store_func _ _ _
  clear hO0 R hJ hG
  rw [h1] at HA
  obtain ⟨he, _, _⟩ := hdV_ok h2
  rw [he] at HH
  unfold hdOk at HH
  have HM : Hid (∀ W, Gens W → Calls Tryd.prog 7 #[.int .i64 (hdG (askP ans id 1).2 : Nat), .int .i64 sz] W (Told W (.int .i64 0))) := Lib.hid fun W hW => by have := OMany_c W (hdG (askP ans id 1).2 : Nat) sz hW; rwa [h3] at this
  generalize hdK (askP ans id 1).2 = k1 at *
  generalize hdG (askP ans id 1).2 = k2 at *
  generalize hdN (askP ans id 1).2 = k3 at *
  generalize hdX (askP ans id 1).2 = k4 at *
  generalize (askP ans id 1).2 = b at *
  clear h1 h2 he h3
  go_enter Tryd.func12, Tryd.ntmps12
  go_wp2_with (first
    | (go_at_call 27; go_loud (rw [← hW0]; refine HA.out.mono ?_; rintro e w1 ⟨v1, rfl, hv1, hj1, ho1⟩; have HV1 := Lib.hid hv1; (obtain ⟨A1, c1, rfl, _⟩ := hv1); have HJ1 := Lib.hid hj1; have HB1 := Lib.hid (HB0.out.only ho1 (dec_low HR.out hn HZ0.out)); have HO1 := Lib.hid (HO0.out.trans (ho1.mono fun k h => h.imp (fun h => h) fun h => by have := HZ0.out; omega)); clear hj1 ho1 hW0))
    | (go_at_call 28; go_loud (refine (HH.out w1 _ (gens_keep HG.out HO1.out HR.out.zero) HV1.out.src).mono ?_; rintro e w2 ⟨rfl, ho2⟩; have HO2 := Lib.hid ho2; have hz1 := HO1.out.size; clear ho2))
    | (go_at_call 7; go_loud (refine (HM.out _ ((gens_keep HG.out HO1.out HR.out.zero).later (HO2.out.alloc (fun _ h => h) _))).mono ?_; rintro e w3 ⟨rfl, ho3⟩; have HO3 := Lib.hid (on_new (HO2.out.alloc (fun _ h => h) _) ho3); clear ho3)))
  refine bodyPost_ret (results_tmp4 rfl _ _ _) rfl ?_
  exact ⟨rfl, dec_fin HR.out hn HJ1.out HO1.out HO3.out⟩

/-- What a value's reading tells. -/
def GaveV (J : List (Int × Int) → World → Prop) (F : Nat → Prop) (s : List (Int × Int)) (VR : Bytes × List Int × Bool) (W : World) (e : Ending) (w' : World) : Prop := ∃ v i, e = .returned (.tuple #[v, i, .bool VR.2.2]) ∧ Src w' v VR.1 ∧ Ints w' i VR.2.1 ∧ J s w' ∧ Only (fun k => F k ∨ W.heap.size ≤ k) W w'
/-- A value is decoded. -/
def DecYes (J : List (Int × Int) → World → Prop) (F : Nat → Prop) (w : World) (s : List (Int × Int)) (g : Int) (VR : Bytes × List Int × Bool) (e : Ending) (w' : World) : Prop := ∃ v i, e = .returned (.tuple #[.int .i64 g, v, i, .int .i64 0]) ∧ Src w' v VR.1 ∧ Ints w' i VR.2.1 ∧ J s w' ∧ Only (fun k => F k ∨ w.heap.size ≤ k) w w'
set_option maxRecDepth 100000 in
set_option maxHeartbeats 6400000 in
theorem dec_chain (R : Rdg n₀ F J f lb ans) (s : List (Int × Int)) (w : World) (id sz : Int) (hJ : J s w) (hn : n₀ ≤ w.heap.size) (hG : Gens w)
    (h1 : (askP ans id 1).1 = 0) (h2 : hdE (askP ans id 1).2 = 0) (g z : Int) (hgg : g = (hdG (askP ans id 1).2 : Nat)) (h3 : manyP g sz = z) (hz : z ≠ 0) (hsg : sgl g = true) (s' : List (Int × Int)) (VR : Bytes × List Int × Bool)
    (HVA : ∀ (W : World) (A : Option Addr) (c : Nat), J (s ++ [(id, 1)]) W → n₀ ≤ W.heap.size → Gens W → New W n₀ (.slice A (askP ans id 1).2.length c) (askP ans id 1).2 → Calls Tryd.prog 53 #[.agg #[.func (.func f) #[] lb, .int .i64 g, .int .i64 sz], .int .i64 id, .slice A (askP ans id 1).2.length c] W (GaveV J F s' VR W)) :
    Calls Tryd.prog 12 #[.func (.func f) #[] lb, .int .i64 id, .int .i64 sz] w (if VR.2.2 = true then DecYes J F w s' g VR else DecNo J F w s' 80) := by
  obtain ⟨W0, hW0⟩ : ∃ W, W = w.alloc (.cells #[.func (.func f) #[] lb, .int .i64 0, .int .i64 sz] 54) := ⟨_, rfl⟩
  have hO0 : Only (w.heap.size ≤ ·) w W0 := by rw [hW0]; exact (Only.refl _ w).alloc (fun _ h => h) _
  have HB0 : Hid (Blk W0 w.heap.size 54 [.func (.func f) #[] lb, .int .i64 0, .int .i64 sz]) := Lib.hid (by rw [hW0]; exact Blk.new w 54 _)
  have HZ0 : Hid (W0.heap.size = w.heap.size + 1) := Lib.hid (by rw [hW0]; simp)
  have HO0 : Hid (Only (fun k => F k ∨ w.heap.size ≤ k) w W0) := Lib.hid (hO0.mono fun k h => .inr h)
  have HA : Hid (Calls Tryd.prog 27 #[.agg #[.func (.func f) #[] lb, .int .i64 0, .int .i64 sz], .int .i64 id, .int .i64 1] W0 fun e w' => ∃ v, e = .returned (.tuple #[v, .int .i64 (askP ans id 1).1]) ∧ New w' W0.heap.size v (askP ans id 1).2 ∧ J (s ++ [(id, 1)]) w' ∧ Only (fun k => F k ∨ W0.heap.size ≤ k) W0 w') := Lib.hid
    (ask_c R s W0 0 sz id 1 (R.keep s w W0 hJ hn (hO0.mono fun k h => Nat.le_trans hn h)) (Nat.le_trans hn hO0.size) (by omega) (by omega))
  have HR := Lib.hid R
  have HG := Lib.hid hG
  have HH : Hid (∀ W v, Gens W → Src W v (askP ans id 1).2 → Calls Tryd.prog 28 #[v] W (Told W (hdV (askP ans id 1).2))) := Lib.hid fun W v hW hv => HeadOf_c W v _ hW hv (Nat.le_trans (askP_len ans id) (by omega))
  have hfn := fun w => func_nil (f := f) (lb := lb) w
  have hst : ∀ (w' : World) (a : Addr) (m : Mode), (store a (.func (.func f) #[] lb) m).run Tryd.prog w' = stored Tryd.prog w' a (.func (.func f) #[] lb) m := fun w' a m => run_store_func _ _ _
  clear hO0 R hJ hG
  rw [h1] at HA
  obtain ⟨he, _, _⟩ := hdV_ok h2
  rw [he] at HH
  unfold hdOk at HH
  have HM : Hid (∀ W, Gens W → Calls Tryd.prog 7 #[.int .i64 g, .int .i64 sz] W (Told W (.int .i64 z))) := Lib.hid fun W hW => by have := OMany_c W g sz hW; rwa [h3] at this
  have HRD : Hid (∀ W, Calls Tryd.prog 29 #[.agg #[.func (.func f) #[] lb, .int .i64 g, .int .i64 sz]] W (Told W (.func (.func 53) #[.agg #[.func (.func f) #[] lb, .int .i64 g, .int .i64 sz]] #[]))) := Lib.hid fun W => by have := OreadingOf_c (f := f) (lb := lb) W g sz; rw [hsg] at this; exact this
  have HVH := Lib.hid HVA
  have hz' : (z == 0) = false := by rw [beq_eq_false_iff_ne]; exact hz
  rw [← hgg] at HH
  generalize hdK (askP ans id 1).2 = k1 at *
  generalize hdN (askP ans id 1).2 = k3 at *
  generalize hdX (askP ans id 1).2 = k4 at *
  generalize (askP ans id 1).2 = b at *
  clear h1 h2 he h3 hgg HVA hsg hz
  obtain ⟨ok, hok⟩ : ∃ ok, ok = VR.2.2 := ⟨_, rfl⟩
  have HOK := Lib.hid hok
  obtain ⟨QQ, hQQ⟩ : ∃ QQ, QQ = (if VR.2.2 = true then DecYes J F w s' g VR else DecNo J F w s' 80) := ⟨_, rfl⟩
  have HQQ := Lib.hid hQQ
  rw [← hQQ]
  clear hok hQQ
  go_enter Tryd.func12, Tryd.ntmps12
  go_upto_region 10 with (first
    | (go_at_call 27; go_loud (rw [← hW0]; refine HA.out.mono ?_; rintro e w1 ⟨v1, rfl, hv1, hj1, ho1⟩; have HV1 := Lib.hid hv1; (obtain ⟨A1, c1, rfl, _⟩ := hv1); have HJ1 := Lib.hid hj1; have HB1 := Lib.hid (HB0.out.only ho1 (dec_low HR.out hn HZ0.out)); have HO1 := Lib.hid (HO0.out.trans (ho1.mono fun k h => h.imp (fun h => h) fun h => by have := HZ0.out; omega)); clear hj1 ho1 hW0))
    | (go_at_call 28; go_loud (refine (HH.out w1 _ (gens_keep HG.out HO1.out HR.out.zero) HV1.out.src).mono ?_; rintro e w2 ⟨rfl, ho2⟩; have HO2 := Lib.hid ho2; have hz1 := HO1.out.size; clear ho2))
    | (go_at_call 7; go_loud (refine (HM.out _ ((gens_keep HG.out HO1.out HR.out.zero).later (HO2.out.alloc (fun _ h => h) _))).mono ?_; rintro e w3 ⟨rfl, ho3⟩; have HO3 := Lib.hid (on_new (HO2.out.alloc (fun _ h => h) _) ho3); have HH3 := Lib.hid (Blk.later (Blk.new w2 57 [.int .i64 (k1 : Nat), .int .i64 g, .int .i64 (k3 : Nat), .int .i64 (k4 : Nat)]) ho3); have hl2 := HO2.out.size; clear ho3)))
  have hhd := HH3.out.cell 1
  have HB3 := Lib.hid (HB1.out.later HO3.out)
  obtain ⟨q0, q1, q2⟩ := HB3.out.tri
  have qf := HB3.out.frozen 1
  have hw3 := HB3.out.lt
  obtain ⟨W5, hW5⟩ : ∃ W, W = w3.setCell ⟨w.heap.size, 1, none⟩ (.int .i64 g) := ⟨_, rfl⟩
  have HB5 : Hid (Blk W5 w.heap.size 54 [.func (.func f) #[] lb, .int .i64 g, .int .i64 sz]) := Lib.hid (by rw [hW5]; exact HB3.out.set_ 1 _)
  have HO5 : Hid (Only (· = w.heap.size) w3 W5) := Lib.hid (by rw [hW5]; exact (Only.refl (· = w.heap.size) w3).setCell (p := ⟨w.heap.size, 1, none⟩) rfl _)
  have HJO := Lib.hid (dec_fin HR.out hn HJ1.out HO1.out HO3.out)
  have HO6 : Hid (Only (fun k => F k ∨ w.heap.size ≤ k) w W5) := Lib.hid (HJO.out.2.trans (HO5.out.mono fun k h => Or.inr (Nat.le_of_eq h.symm)))
  have HJ5 := Lib.hid (HR.out.keep _ w3 W5 HJO.out.1 (Nat.le_trans hn HJO.out.2.size) (HO5.out.mono fun k h => by rw [h]; exact hn))
  have HG5 := Lib.hid (gens_keep HG.out HO6.out HR.out.zero)
  have HV5 : Hid (New W5 n₀ (.slice A1 b.length c1) b) := Lib.hid (((HV1.out.later HO3.out).keepAt HO5.out fun ad e h => by have := HV1.out.from_ ad e; have := HZ0.out; omega).mono (by have := HZ0.out; omega))
  have hn5 : n₀ ≤ W5.heap.size := Nat.le_trans hn HO6.out.size
  cases ok
  all_goals go_wp2_with (first
    | (go_at_call 29; go_loud (rw [← hW5]; refine (HRD.out _).mono ?_; rintro e w6 ⟨rfl, ho6⟩; have HJ6 := Lib.hid (dec_fin HR.out hn HJ5.out HO6.out ho6); have HG6 := Lib.hid (HG5.out.later ho6); have HV6 := Lib.hid (HV5.out.later ho6); have HB6 := Lib.hid (HB5.out.later ho6); have hn6 := Nat.le_trans hn5 ho6.size; clear hW5 ho6))
    | (go_at_call 53; go_loud (refine (HVH.out w6 A1 c1 HJ6.out.1 hn6 HG6.out HV6.out).mono ?_; rintro e w7 ⟨v, i, rfl, hv, hi, hj, ho⟩; rw [← HOK.out]; have HV7 := Lib.hid hv; have HI7 := Lib.hid hi; have HJ7 := Lib.hid hj; have HB7 := Lib.hid (HB6.out.only ho (fun h => h.elim (fun h => by have := HR.out.low _ h; omega) fun h => by have := HB6.out.lt; omega)); (obtain ⟨b0, b1, b2⟩ := HB7.out.tri); have HO7 := Lib.hid (HJ6.out.2.trans (ho.mono fun k h => h.imp (fun h => h) fun h => Nat.le_trans HJ6.out.2.size h)); clear hv hi hj ho)))
  · refine bodyPost_ret (results_tmp4 rfl _ _ _) rfl ?_
    rw [HQQ.out, ← HOK.out, if_neg (by simp)]
    exact ⟨rfl, HJ7.out, HO7.out⟩
  · refine bodyPost_ret (results_tmp4 rfl _ _ _) rfl ?_
    rw [HQQ.out, ← HOK.out, if_pos rfl]
    exact ⟨v, i, rfl, HV7.out, HI7.out, HJ7.out, HO7.out⟩
set_option maxRecDepth 100000 in
set_option maxHeartbeats 6400000 in
theorem dec_extent (R : Rdg n₀ F J f lb ans) (s : List (Int × Int)) (w : World) (id sz : Int) (hJ : J s w) (hn : n₀ ≤ w.heap.size) (hG : Gens w)
    (h1 : (askP ans id 1).1 = 0) (h2 : hdE (askP ans id 1).2 = 0) (g z : Int) (hgg : g = (hdG (askP ans id 1).2 : Nat)) (h3 : manyP g sz = z) (hz : z ≠ 0) (hsg : sgl g = false) (s' : List (Int × Int)) (VR : Bytes × List Int × Bool)
    (HVA : ∀ (W : World) (A : Option Addr) (c : Nat), J (s ++ [(id, 1)]) W → n₀ ≤ W.heap.size → Gens W → New W n₀ (.slice A (askP ans id 1).2.length c) (askP ans id 1).2 → Calls Tryd.prog 54 #[.agg #[.func (.func f) #[] lb, .int .i64 g, .int .i64 sz], .int .i64 id, .slice A (askP ans id 1).2.length c] W (GaveV J F s' VR W)) :
    Calls Tryd.prog 12 #[.func (.func f) #[] lb, .int .i64 id, .int .i64 sz] w (if VR.2.2 = true then DecYes J F w s' g VR else DecNo J F w s' 80) := by
  obtain ⟨W0, hW0⟩ : ∃ W, W = w.alloc (.cells #[.func (.func f) #[] lb, .int .i64 0, .int .i64 sz] 54) := ⟨_, rfl⟩
  have hO0 : Only (w.heap.size ≤ ·) w W0 := by rw [hW0]; exact (Only.refl _ w).alloc (fun _ h => h) _
  have HB0 : Hid (Blk W0 w.heap.size 54 [.func (.func f) #[] lb, .int .i64 0, .int .i64 sz]) := Lib.hid (by rw [hW0]; exact Blk.new w 54 _)
  have HZ0 : Hid (W0.heap.size = w.heap.size + 1) := Lib.hid (by rw [hW0]; simp)
  have HO0 : Hid (Only (fun k => F k ∨ w.heap.size ≤ k) w W0) := Lib.hid (hO0.mono fun k h => .inr h)
  have HA : Hid (Calls Tryd.prog 27 #[.agg #[.func (.func f) #[] lb, .int .i64 0, .int .i64 sz], .int .i64 id, .int .i64 1] W0 fun e w' => ∃ v, e = .returned (.tuple #[v, .int .i64 (askP ans id 1).1]) ∧ New w' W0.heap.size v (askP ans id 1).2 ∧ J (s ++ [(id, 1)]) w' ∧ Only (fun k => F k ∨ W0.heap.size ≤ k) W0 w') := Lib.hid
    (ask_c R s W0 0 sz id 1 (R.keep s w W0 hJ hn (hO0.mono fun k h => Nat.le_trans hn h)) (Nat.le_trans hn hO0.size) (by omega) (by omega))
  have HR := Lib.hid R
  have HG := Lib.hid hG
  have HH : Hid (∀ W v, Gens W → Src W v (askP ans id 1).2 → Calls Tryd.prog 28 #[v] W (Told W (hdV (askP ans id 1).2))) := Lib.hid fun W v hW hv => HeadOf_c W v _ hW hv (Nat.le_trans (askP_len ans id) (by omega))
  have hfn := fun w => func_nil (f := f) (lb := lb) w
  have hst : ∀ (w' : World) (a : Addr) (m : Mode), (store a (.func (.func f) #[] lb) m).run Tryd.prog w' = stored Tryd.prog w' a (.func (.func f) #[] lb) m := fun w' a m => run_store_func _ _ _
  clear hO0 R hJ hG
  rw [h1] at HA
  obtain ⟨he, _, _⟩ := hdV_ok h2
  rw [he] at HH
  unfold hdOk at HH
  have HM : Hid (∀ W, Gens W → Calls Tryd.prog 7 #[.int .i64 g, .int .i64 sz] W (Told W (.int .i64 z))) := Lib.hid fun W hW => by have := OMany_c W g sz hW; rwa [h3] at this
  have HRD : Hid (∀ W, Calls Tryd.prog 29 #[.agg #[.func (.func f) #[] lb, .int .i64 g, .int .i64 sz]] W (Told W (.func (.func 54) #[.agg #[.func (.func f) #[] lb, .int .i64 g, .int .i64 sz]] #[]))) := Lib.hid fun W => by have := OreadingOf_c (f := f) (lb := lb) W g sz; rw [hsg] at this; exact this
  have HVH := Lib.hid HVA
  have hz' : (z == 0) = false := by rw [beq_eq_false_iff_ne]; exact hz
  rw [← hgg] at HH
  generalize hdK (askP ans id 1).2 = k1 at *
  generalize hdN (askP ans id 1).2 = k3 at *
  generalize hdX (askP ans id 1).2 = k4 at *
  generalize (askP ans id 1).2 = b at *
  clear h1 h2 he h3 hgg HVA hsg hz
  obtain ⟨ok, hok⟩ : ∃ ok, ok = VR.2.2 := ⟨_, rfl⟩
  have HOK := Lib.hid hok
  obtain ⟨QQ, hQQ⟩ : ∃ QQ, QQ = (if VR.2.2 = true then DecYes J F w s' g VR else DecNo J F w s' 80) := ⟨_, rfl⟩
  have HQQ := Lib.hid hQQ
  rw [← hQQ]
  clear hok hQQ
  go_enter Tryd.func12, Tryd.ntmps12
  go_upto_region 10 with (first
    | (go_at_call 27; go_loud (rw [← hW0]; refine HA.out.mono ?_; rintro e w1 ⟨v1, rfl, hv1, hj1, ho1⟩; have HV1 := Lib.hid hv1; (obtain ⟨A1, c1, rfl, _⟩ := hv1); have HJ1 := Lib.hid hj1; have HB1 := Lib.hid (HB0.out.only ho1 (dec_low HR.out hn HZ0.out)); have HO1 := Lib.hid (HO0.out.trans (ho1.mono fun k h => h.imp (fun h => h) fun h => by have := HZ0.out; omega)); clear hj1 ho1 hW0))
    | (go_at_call 28; go_loud (refine (HH.out w1 _ (gens_keep HG.out HO1.out HR.out.zero) HV1.out.src).mono ?_; rintro e w2 ⟨rfl, ho2⟩; have HO2 := Lib.hid ho2; have hz1 := HO1.out.size; clear ho2))
    | (go_at_call 7; go_loud (refine (HM.out _ ((gens_keep HG.out HO1.out HR.out.zero).later (HO2.out.alloc (fun _ h => h) _))).mono ?_; rintro e w3 ⟨rfl, ho3⟩; have HO3 := Lib.hid (on_new (HO2.out.alloc (fun _ h => h) _) ho3); have HH3 := Lib.hid (Blk.later (Blk.new w2 57 [.int .i64 (k1 : Nat), .int .i64 g, .int .i64 (k3 : Nat), .int .i64 (k4 : Nat)]) ho3); have hl2 := HO2.out.size; clear ho3)))
  have hhd := HH3.out.cell 1
  have HB3 := Lib.hid (HB1.out.later HO3.out)
  obtain ⟨q0, q1, q2⟩ := HB3.out.tri
  have qf := HB3.out.frozen 1
  have hw3 := HB3.out.lt
  obtain ⟨W5, hW5⟩ : ∃ W, W = w3.setCell ⟨w.heap.size, 1, none⟩ (.int .i64 g) := ⟨_, rfl⟩
  have HB5 : Hid (Blk W5 w.heap.size 54 [.func (.func f) #[] lb, .int .i64 g, .int .i64 sz]) := Lib.hid (by rw [hW5]; exact HB3.out.set_ 1 _)
  have HO5 : Hid (Only (· = w.heap.size) w3 W5) := Lib.hid (by rw [hW5]; exact (Only.refl (· = w.heap.size) w3).setCell (p := ⟨w.heap.size, 1, none⟩) rfl _)
  have HJO := Lib.hid (dec_fin HR.out hn HJ1.out HO1.out HO3.out)
  have HO6 : Hid (Only (fun k => F k ∨ w.heap.size ≤ k) w W5) := Lib.hid (HJO.out.2.trans (HO5.out.mono fun k h => Or.inr (Nat.le_of_eq h.symm)))
  have HJ5 := Lib.hid (HR.out.keep _ w3 W5 HJO.out.1 (Nat.le_trans hn HJO.out.2.size) (HO5.out.mono fun k h => by rw [h]; exact hn))
  have HG5 := Lib.hid (gens_keep HG.out HO6.out HR.out.zero)
  have HV5 : Hid (New W5 n₀ (.slice A1 b.length c1) b) := Lib.hid (((HV1.out.later HO3.out).keepAt HO5.out fun ad e h => by have := HV1.out.from_ ad e; have := HZ0.out; omega).mono (by have := HZ0.out; omega))
  have hn5 : n₀ ≤ W5.heap.size := Nat.le_trans hn HO6.out.size
  cases ok
  all_goals go_wp2_with (first
    | (go_at_call 29; go_loud (rw [← hW5]; refine (HRD.out _).mono ?_; rintro e w6 ⟨rfl, ho6⟩; have HJ6 := Lib.hid (dec_fin HR.out hn HJ5.out HO6.out ho6); have HG6 := Lib.hid (HG5.out.later ho6); have HV6 := Lib.hid (HV5.out.later ho6); have HB6 := Lib.hid (HB5.out.later ho6); have hn6 := Nat.le_trans hn5 ho6.size; clear hW5 ho6))
    | (go_at_call 54; go_loud (refine (HVH.out w6 A1 c1 HJ6.out.1 hn6 HG6.out HV6.out).mono ?_; rintro e w7 ⟨v, i, rfl, hv, hi, hj, ho⟩; rw [← HOK.out]; have HV7 := Lib.hid hv; have HI7 := Lib.hid hi; have HJ7 := Lib.hid hj; have HB7 := Lib.hid (HB6.out.only ho (fun h => h.elim (fun h => by have := HR.out.low _ h; omega) fun h => by have := HB6.out.lt; omega)); (obtain ⟨b0, b1, b2⟩ := HB7.out.tri); have HO7 := Lib.hid (HJ6.out.2.trans (ho.mono fun k h => h.imp (fun h => h) fun h => Nat.le_trans HJ6.out.2.size h)); clear hv hi hj ho)))
  · refine bodyPost_ret (results_tmp4 rfl _ _ _) rfl ?_
    rw [HQQ.out, ← HOK.out, if_neg (by simp)]
    exact ⟨rfl, HJ7.out, HO7.out⟩
  · refine bodyPost_ret (results_tmp4 rfl _ _ _) rfl ?_
    rw [HQQ.out, ← HOK.out, if_pos rfl]
    exact ⟨v, i, rfl, HV7.out, HI7.out, HJ7.out, HO7.out⟩
end
end Go.Proofs.YtbgnfocfnjlabaaDoor
