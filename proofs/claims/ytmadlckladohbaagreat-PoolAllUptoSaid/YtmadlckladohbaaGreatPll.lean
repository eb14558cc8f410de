/-
  PoolAll: the walk.
-/
import Derived.Test.YtmadlckladohbaaGreatRnx
import Derived.Test.YtmadlckladohbaaGreatPjo
import Derived.Deep.CutRange
import Derived.Deep.LoopGhost
import Derived.Deep.CutBlock
set_option linter.unusedVariables false
namespace Go.Proofs.YtmadlckladohbaaGreat
open Go.RowKit Go.Shelf

theorem rnew_c (w : World) (A B : Option Addr) (nn cc mm dd : Nat) (a b : List R) (t p lim : Int) (ha : Row w (.slice A nn cc) a) (hb : Row w (.slice B mm dd) b) (hai : ∀ x ∈ a, I64 x) (hbi : ∀ x ∈ b, I64 x) :
    Calls Tryz.prog 8 #[.agg #[.slice A nn cc, .slice B mm dd], .int .i64 t, .int .i64 p, .int .i64 lim] w (NewDoc w a b t p lim) := by
  by_cases h : ¬ RightS a b ∨ p < 2 ∨ lim < p ∨ 16384 < lim ∨ t < 0
  · refine (rnew_early w A B nn cc mm dd a b t p lim ha hb hai hbi h).mono fun e w' ⟨h1, h2⟩ => ⟨.inr ⟨h1, fun hno => ?_⟩, h2⟩
    obtain ⟨k1, k2, k3, k4, k5, _⟩ := hno
    rcases h with h | h | h | h | h
    · exact h k5
    · omega
    · omega
    · omega
    · omega
  · simp only [not_or, Classical.not_not] at h
    obtain ⟨h1, h2, h3, h4, h5⟩ := h
    obtain ⟨p, rfl⟩ : ∃ k : Nat, p = k := ⟨p.toNat, by omega⟩
    exact rnew_main w A B nn cc mm dd a b t lim p ha hb hai hbi h1 (by omega) (by omega) (by omega) (by omega)

set_option maxRecDepth 100000 in
set_option maxHeartbeats 6400000 in
theorem all_early (w : World) (A B C : Option Addr) (nn cc mm dd n c : Nat) (a b : List R) (t p lim : Int) (l : List OpD) (ha : Row w (.slice A nn cc) a) (hb : Row w (.slice B mm dd) b) (hai : ∀ x ∈ a, I64 x) (hbi : ∀ x ∈ b, I64 x) (hla : a.length ≤ 2000000) (hlb : b.length ≤ 2000000) (hl : Os w C l) (hn : l.length = n) (hln : n ≤ 20000000) (hli : ∀ o ∈ l, I64o o) (ht : t ≤ 9223372036854775807) (h : ¬ FewOk a b p l ∨ ¬ NewOk a b t p lim) :
    Calls Tryz.prog 3 #[.agg #[.slice A nn cc, .slice B mm dd], .agg #[.int .i64 t, .int .i64 p, .int .i64 lim], .slice C n c] w (Told w (.bool true)) := by
  obtain ⟨w2, hw2⟩ : ∃ w2, w2 = (w.alloc (.cells #[.slice A nn cc, .slice B mm dd] 24)).alloc (.cells #[.int .i64 t, .int .i64 p, .int .i64 lim] 25) := ⟨_, rfl⟩
  obtain ⟨b1, hb1⟩ : ∃ b1, b1 = w.heap.size := ⟨_, rfl⟩
  obtain ⟨b2, hb2⟩ : ∃ b2, b2 = w.heap.size + 1 := ⟨_, rfl⟩
  have HB1 : Hid (Blk w2 b1 24 [.slice A nn cc, .slice B mm dd]) := Lib.hid (by rw [hw2, hb1]; exact (Blk.new w _ [.slice A nn cc, .slice B mm dd]).alloc _)
  have HB2 : Hid (Blk w2 b2 25 [.int .i64 t, .int .i64 p, .int .i64 lim]) := Lib.hid (by
    rw [hw2, hb2]
    have := Blk.new (w.alloc (.cells #[.slice A nn cc, .slice B mm dd] 24)) 25 [.int .i64 t, .int .i64 p, .int .i64 lim]
    rwa [show (w.alloc (.cells #[.slice A nn cc, .slice B mm dd] 24)).heap.size = w.heap.size + 1 by simp] at this)
  have HO : Hid (Only (w.heap.size ≤ ·) w w2) := Lib.hid (by rw [hw2]; exact ((Only.refl _ w).alloc (fun _ h => h) _).alloc (fun _ h => h) _)
  have HEQ : Hid (w2 = (w.alloc (.cells #[.slice A nn cc, .slice B mm dd] 24)).alloc (.cells #[.int .i64 t, .int .i64 p, .int .i64 lim] 25) ∧ b1 = w.heap.size ∧ b2 = w.heap.size + 1) := Lib.hid ⟨hw2, hb1, hb2⟩
  have HLEN : Hid (a.length ≤ 2000000 ∧ b.length ≤ 2000000) := Lib.hid ⟨hla, hlb⟩
  have HOF : Hid (∀ W, Only (w.heap.size ≤ ·) w W → Calls Tryz.prog 7 #[.agg #[.slice A nn cc, .slice B mm dd]] W (OfSt W a b)) := Lib.hid fun W hW => pOf_c W A B nn cc mm dd a b (ha.later hW) (hb.later hW) hla hlb
  have HFWS : Hid (∀ W, Only (w.heap.size ≤ ·) w W → Calls Tryz.prog 4 #[.agg #[.slice A nn cc, .slice B mm dd], .int .i64 p, .slice C n c] W (FewSays W a b p l)) := Lib.hid fun W hW => pfew_c W A B C nn cc mm dd n c a b p l (ha.later hW) (hb.later hW) (hl.later hW) hn hla hlb hln
  have HAI := Lib.hid hai
  have HBI := Lib.hid hbi
  have HRN : Hid (∀ W, Only (w.heap.size ≤ ·) w W → Calls Tryz.prog 8 #[.agg #[.slice A nn cc, .slice B mm dd], .int .i64 t, .int .i64 p, .int .i64 lim] W (NewDoc W a b t p lim)) := Lib.hid fun W hW => rnew_c W A B nn cc mm dd a b t p lim (ha.later hW) (hb.later hW) hai hbi
  clear ha hb hai hbi hla hlb hw2 hb1 hb2 hl hn hli hln ht
  by_cases hf : FewOk a b p l
  · have HF := Lib.hid hf
    have HFW : Hid (∀ W, Only (w.heap.size ≤ ·) w W → Calls Tryz.prog 4 #[.agg #[.slice A nn cc, .slice B mm dd], .int .i64 p, .slice C n c] W (Told W (.bool true))) := Lib.hid fun W hW => (HFWS.out W hW).mono fun e w' ⟨⟨r, r1, r2⟩, r3⟩ => ⟨by rw [r1, r2.2 HF.out], r3⟩
    have HNO : Hid (¬ NewOk a b t p lim) := Lib.hid (h.resolve_left (fun h => h hf))
    have HRNN : Hid (∀ W, Only (w.heap.size ≤ ·) w W → Calls Tryz.prog 8 #[.agg #[.slice A nn cc, .slice B mm dd], .int .i64 t, .int .i64 p, .int .i64 lim] W (NoneDoc W)) := Lib.hid fun W hW => (HRN.out W hW).mono fun e w' ⟨h, ho⟩ => ⟨by
      rcases h with ⟨v, who, _, _, hno, _⟩ | ⟨h, _⟩
      · exact absurd hno HNO.out
      · exact h, ho⟩
    clear h hf HRN
    go_enter Tryz.func3, Tryz.ntmps3
    go_upto_region 1 with (fail)
    rw [← HEQ.out.1, ← HEQ.out.2.2, ← HEQ.out.2.1]
    obtain ⟨q0, q1⟩ := box_two HB1.out
    obtain ⟨r0, r1, r2⟩ := box_three HB2.out
    go_upto_region 3 with (go_at_call 4; (with_reducible refine (HFW.out _ HO.out).mono ?_); rintro e w1 ⟨rfl, ho⟩; replace HB1 := Lib.hid (HB1.out.later ho); replace HB2 := Lib.hid (HB2.out.later ho); replace HO := Lib.hid (on_new HO.out ho); clear ho)
    replace HB1 := Lib.hid HB1.out.drew
    replace HB2 := Lib.hid HB2.out.drew
    replace HO := Lib.hid HO.out.drew
    refine wp_region_list (B := [false, false, false, false, false, false, false, false, false, false, false, false, false, false]) (S := (fun W => (W.cell? ⟨b1, 0, none⟩ = some (.slice A nn cc) ∧ W.cell? ⟨b1, 1, none⟩ = some (.slice B mm dd)) ∧ W.cell? ⟨b2, 0, none⟩ = some (.int .i64 t) ∧ W.cell? ⟨b2, 1, none⟩ = some (.int .i64 p) ∧ W.cell? ⟨b2, 2, none⟩ = some (.int .i64 lim))) (by kernel_rfl) (by kernel_rfl) (by kernel_rfl) ⟨box_two HB1.out, box_three HB2.out⟩ (fun hsel hHeld => ?_)
    generalize hwz : World.drew _ = wz at HB1 HB2 HO hHeld ⊢
    clear hwz
    refine oneA 0 34 hsel (h := ?_)
    simp only [Act.put, List.setIfInBounds_toArray, List.set_cons_zero, List.set_cons_succ]
    refine oneA 2 36 hsel (h := ?_)
    simp only [Act.put, List.setIfInBounds_toArray, List.set_cons_zero, List.set_cons_succ]
    refine oneA 3 37 hsel (h := ?_)
    simp only [Act.put, List.setIfInBounds_toArray, List.set_cons_zero, List.set_cons_succ]
    refine oneA 4 38 hsel (h := ?_)
    simp only [Act.put, List.setIfInBounds_toArray, List.set_cons_zero, List.set_cons_succ]
    refine oneA 5 39 hsel (h := ?_)
    simp only [Act.put, List.setIfInBounds_toArray, List.set_cons_zero, List.set_cons_succ]
    refine oneA 6 40 hsel (h := ?_)
    simp only [Act.put, List.setIfInBounds_toArray, List.set_cons_zero, List.set_cons_succ]
    refine oneA 7 41 hsel (h := ?_)
    simp only [Act.put, List.setIfInBounds_toArray, List.set_cons_zero, List.set_cons_succ]
    refine wpAnyL_ready (rs := [1]) (by kernel_rfl) (by kernel_rfl) (by simp) ?_
    refine AllReadyL.cons (o := ?_) ?_ (fun K hK => ?_) AllReadyL.nil
    case refine_2 => (simp only [List.getElem?_cons_succ, List.getElem?_cons_zero]; rfl)
    go_simp
    (go_at_call 7; (with_reducible refine (HOF.out _ HO.out).mono ?_); rintro ee w5 ⟨A5, n5, c5, B5, m5, d5, rfl, hra, hrb, ho⟩; have HRA := Lib.hid hra; have HRB := Lib.hid hrb; replace HB1 := Lib.hid (HB1.out.later ho); replace HB2 := Lib.hid (HB2.out.later ho); replace HO := Lib.hid (on_new HO.out ho); clear hra hrb ho)
    go_wp2_with (fail)
    clear hHeld
    refine hK.out _ _ ⟨box_two HB1.out, box_three HB2.out⟩ (fun hHeld => ?_)
    clear hK K
    try simp only [Act.put, List.setIfInBounds_toArray, List.set_cons_zero, List.set_cons_succ]
    refine wpAnyL_ready (rs := [8]) (by kernel_rfl) (by kernel_rfl) (by simp) ?_
    refine AllReadyL.cons (o := ?_) ?_ (fun K hK => ?_) AllReadyL.nil
    case refine_2 => (simp only [List.getElem?_cons_succ, List.getElem?_cons_zero]; rfl)
    go_simp
    (go_at_call 6; (with_reducible refine (New_not HRA.out HRB.out HAI.out HBI.out HNO.out).mono ?_); rintro ee w6 ⟨rfl, ho⟩; replace HB1 := Lib.hid (HB1.out.later ho); replace HB2 := Lib.hid (HB2.out.later ho);  replace HO := Lib.hid (on_new HO.out ho); clear ho)
    go_wp2_with (fail)
    clear hHeld
    refine hK.out _ _ ⟨box_two HB1.out, box_three HB2.out⟩ (fun hHeld => ?_)
    clear hK K
    try simp only [Act.put, List.setIfInBounds_toArray, List.set_cons_zero, List.set_cons_succ]
    refine oneA 9 33 hsel (h := ?_)
    simp only [Act.put, List.setIfInBounds_toArray, List.set_cons_zero, List.set_cons_succ]
    refine oneA 10 43 hsel (h := ?_)
    simp only [Act.put, List.setIfInBounds_toArray, List.set_cons_zero, List.set_cons_succ]
    refine oneA 11 44 hsel (h := ?_)
    simp only [Act.put, List.setIfInBounds_toArray, List.set_cons_zero, List.set_cons_succ]
    refine oneA 12 7 hsel (h := ?_)
    simp only [Act.put, List.setIfInBounds_toArray, List.set_cons_zero, List.set_cons_succ]
    refine oneA 13 8 hsel (h := ?_)
    simp only [Act.put, List.setIfInBounds_toArray, List.set_cons_zero, List.set_cons_succ]
    refine wpAnyL_done (by kernel_rfl) (by kernel_rfl) ?_ _
    clear hsel hHeld
    obtain ⟨q0, q1⟩ := box_two HB1.out
    obtain ⟨r0, r1, r2⟩ := box_three HB2.out
    go_wp2_with (first
      | (go_at_call 8; (with_reducible refine (HRNN.out _ HO.out).mono ?_); rintro e w8 ⟨rfl, ho⟩; replace HO := Lib.hid ((on_new HO.out ho).alloc (fun _ h => h) (.cells #[.slice none 0 0, .int .i64 0] 39)); clear ho)
      | (go_at_call 5; (with_reducible refine (alive_c _).mono ?_); rintro e w9 ⟨rfl, ho⟩; replace HO := Lib.hid (on_new HO.out ho); clear ho))
    go_ret
    exact ⟨rfl, HO.out⟩
  · have HF := Lib.hid hf
    have HFW : Hid (∀ W, Only (w.heap.size ≤ ·) w W → Calls Tryz.prog 4 #[.agg #[.slice A nn cc, .slice B mm dd], .int .i64 p, .slice C n c] W (Told W (.bool false))) := Lib.hid fun W hW => (HFWS.out W hW).mono fun e w' ⟨⟨r, r1, r2⟩, r3⟩ => ⟨by rw [r1, Bool.eq_false_iff.2 fun e => HF.out (r2.1 e)], r3⟩
    clear h hf
    go_enter Tryz.func3, Tryz.ntmps3
    go_upto_region 1 with (fail)
    rw [← HEQ.out.1, ← HEQ.out.2.2, ← HEQ.out.2.1]
    obtain ⟨q0, q1⟩ := box_two HB1.out
    obtain ⟨r0, r1, r2⟩ := box_three HB2.out
    go_wp2_with (first
      | (go_at_call 4; (with_reducible refine (HFW.out _ HO.out).mono ?_); rintro e w1 ⟨rfl, ho⟩; replace HB1 := Lib.hid (HB1.out.later ho); replace HB2 := Lib.hid (HB2.out.later ho); replace HO := Lib.hid (on_new HO.out ho); clear ho)
      | (go_at_call 5; (with_reducible refine (alive_c _).mono ?_); rintro e w9 ⟨rfl, ho⟩; replace HO := Lib.hid (on_new HO.out ho); clear ho))
    go_ret
    exact ⟨rfl, HO.out⟩

set_option maxRecDepth 100000 in
set_option maxHeartbeats 51200000 in
theorem all_main (w : World) (A B C : Option Addr) (nn cc mm dd n c : Nat) (a b : List R) (t p lim : Int) (l : List OpD) (ha : Row w (.slice A nn cc) a) (hb : Row w (.slice B mm dd) b) (hai : ∀ x ∈ a, I64 x) (hbi : ∀ x ∈ b, I64 x) (hla : a.length ≤ 2000000) (hlb : b.length ≤ 2000000) (hl : Os w C l) (hn : l.length = n) (hln : n ≤ 20000000) (hli : ∀ o ∈ l, I64o o) (ht : t ≤ 9223372036854775807) (hf : FewOk a b p l) (hno : NewOk a b t p lim) :
    Calls Tryz.prog 3 #[.agg #[.slice A nn cc, .slice B mm dd], .agg #[.int .i64 t, .int .i64 p, .int .i64 lim], .slice C n c] w (Told w (.bool true)) := by
  obtain ⟨w2, hw2⟩ : ∃ w2, w2 = (w.alloc (.cells #[.slice A nn cc, .slice B mm dd] 24)).alloc (.cells #[.int .i64 t, .int .i64 p, .int .i64 lim] 25) := ⟨_, rfl⟩
  obtain ⟨b1, hb1⟩ : ∃ b1, b1 = w.heap.size := ⟨_, rfl⟩
  obtain ⟨b2, hb2⟩ : ∃ b2, b2 = w.heap.size + 1 := ⟨_, rfl⟩
  have HB1 : Hid (Blk w2 b1 24 [.slice A nn cc, .slice B mm dd]) := Lib.hid (by rw [hw2, hb1]; exact (Blk.new w _ [.slice A nn cc, .slice B mm dd]).alloc _)
  have HB2 : Hid (Blk w2 b2 25 [.int .i64 t, .int .i64 p, .int .i64 lim]) := Lib.hid (by
    rw [hw2, hb2]
    have := Blk.new (w.alloc (.cells #[.slice A nn cc, .slice B mm dd] 24)) 25 [.int .i64 t, .int .i64 p, .int .i64 lim]
    rwa [show (w.alloc (.cells #[.slice A nn cc, .slice B mm dd] 24)).heap.size = w.heap.size + 1 by simp] at this)
  have HO : Hid (Only (w.heap.size ≤ ·) w w2) := Lib.hid (by rw [hw2]; exact ((Only.refl _ w).alloc (fun _ h => h) _).alloc (fun _ h => h) _)
  have HEQ : Hid (w2 = (w.alloc (.cells #[.slice A nn cc, .slice B mm dd] 24)).alloc (.cells #[.int .i64 t, .int .i64 p, .int .i64 lim] 25) ∧ b1 = w.heap.size ∧ b2 = w.heap.size + 1) := Lib.hid ⟨hw2, hb1, hb2⟩
  have HLEN : Hid (a.length ≤ 2000000 ∧ b.length ≤ 2000000) := Lib.hid ⟨hla, hlb⟩
  have HOF : Hid (∀ W, Only (w.heap.size ≤ ·) w W → Calls Tryz.prog 7 #[.agg #[.slice A nn cc, .slice B mm dd]] W (OfSt W a b)) := Lib.hid fun W hW => pOf_c W A B nn cc mm dd a b (ha.later hW) (hb.later hW) hla hlb
  have HFWS : Hid (∀ W, Only (w.heap.size ≤ ·) w W → Calls Tryz.prog 4 #[.agg #[.slice A nn cc, .slice B mm dd], .int .i64 p, .slice C n c] W (FewSays W a b p l)) := Lib.hid fun W hW => pfew_c W A B C nn cc mm dd n c a b p l (ha.later hW) (hb.later hW) (hl.later hW) hn hla hlb hln
  have HAI := Lib.hid hai
  have HBI := Lib.hid hbi
  have HRN : Hid (∀ W, Only (w.heap.size ≤ ·) w W → Calls Tryz.prog 8 #[.agg #[.slice A nn cc, .slice B mm dd], .int .i64 t, .int .i64 p, .int .i64 lim] W (NewDoc W a b t p lim)) := Lib.hid fun W hW => rnew_c W A B nn cc mm dd a b t p lim (ha.later hW) (hb.later hW) hai hbi
  have HF := Lib.hid hf
  have HFW : Hid (∀ W, Only (w.heap.size ≤ ·) w W → Calls Tryz.prog 4 #[.agg #[.slice A nn cc, .slice B mm dd], .int .i64 p, .slice C n c] W (Told W (.bool true))) := Lib.hid fun W hW => (HFWS.out W hW).mono fun e w' ⟨⟨r, r1, r2⟩, r3⟩ => ⟨by rw [r1, r2.2 HF.out], r3⟩
  have HNO := Lib.hid hno
  have HRNY : Hid (∀ W, Only (w.heap.size ≤ ·) w W → Calls Tryz.prog 8 #[.agg #[.slice A nn cc, .slice B mm dd], .int .i64 t, .int .i64 p, .int .i64 lim] W fun e w' => (∃ v who, e = .returned (.tuple #[.agg #[v, .int .i64 lim], .bool true]) ∧ Wh w' v who ∧ WhoS (NewS a b t p lim) who) ∧ Only (W.heap.size ≤ ·) W w') := Lib.hid fun W hW => (HRN.out W hW).mono fun e w' ⟨h, ho⟩ => ⟨by
    rcases h with ⟨v, who, h1, h2, _, h3⟩ | ⟨_, h⟩
    · exact ⟨v, who, h1, h2, h3⟩
    · exact absurd HNO.out h, ho⟩
  have HOS := Lib.hid hl
  have HNL := Lib.hid hn
  have HTB := Lib.hid (And.intro (show -9223372036854775808 ≤ t by have := hno.2.2.2.1; omega) ht)
  have HI := Lib.hid hli
  have HN60 : Hid (n ≤ 60) := Lib.hid (by rw [← hn]; exact hf.2.2.1)
  clear ha hb hai hbi hla hlb hw2 hb1 hb2 hf hno hn hl ht hln hli HRN
  go_enter Tryz.func3, Tryz.ntmps3
  go_upto_region 1 with (fail)
  rw [← HEQ.out.1, ← HEQ.out.2.2, ← HEQ.out.2.1]
  obtain ⟨q0, q1⟩ := box_two HB1.out
  obtain ⟨r0, r1, r2⟩ := box_three HB2.out
  go_upto_region 3 with (go_at_call 4; (with_reducible refine (HFW.out _ HO.out).mono ?_); rintro e w1 ⟨rfl, ho⟩; replace HB1 := Lib.hid (HB1.out.later ho); replace HB2 := Lib.hid (HB2.out.later ho); replace HO := Lib.hid (on_new HO.out ho); clear ho)
  replace HB1 := Lib.hid HB1.out.drew
  replace HB2 := Lib.hid HB2.out.drew
  replace HO := Lib.hid HO.out.drew
  refine wp_region_list (B := [false, false, false, false, false, false, false, false, false, false, false, false, false, false]) (S := (fun W => (W.cell? ⟨b1, 0, none⟩ = some (.slice A nn cc) ∧ W.cell? ⟨b1, 1, none⟩ = some (.slice B mm dd)) ∧ W.cell? ⟨b2, 0, none⟩ = some (.int .i64 t) ∧ W.cell? ⟨b2, 1, none⟩ = some (.int .i64 p) ∧ W.cell? ⟨b2, 2, none⟩ = some (.int .i64 lim))) (by kernel_rfl) (by kernel_rfl) (by kernel_rfl) ⟨box_two HB1.out, box_three HB2.out⟩ (fun hsel hHeld => ?_)
  generalize hwz : World.drew _ = wz at HB1 HB2 HO hHeld ⊢
  clear hwz
  refine oneA 0 34 hsel (h := ?_)
  simp only [Act.put, List.setIfInBounds_toArray, List.set_cons_zero, List.set_cons_succ]
  refine oneA 2 36 hsel (h := ?_)
  simp only [Act.put, List.setIfInBounds_toArray, List.set_cons_zero, List.set_cons_succ]
  refine oneA 3 37 hsel (h := ?_)
  simp only [Act.put, List.setIfInBounds_toArray, List.set_cons_zero, List.set_cons_succ]
  refine oneA 4 38 hsel (h := ?_)
  simp only [Act.put, List.setIfInBounds_toArray, List.set_cons_zero, List.set_cons_succ]
  refine oneA 5 39 hsel (h := ?_)
  simp only [Act.put, List.setIfInBounds_toArray, List.set_cons_zero, List.set_cons_succ]
  refine oneA 6 40 hsel (h := ?_)
  simp only [Act.put, List.setIfInBounds_toArray, List.set_cons_zero, List.set_cons_succ]
  refine oneA 7 41 hsel (h := ?_)
  simp only [Act.put, List.setIfInBounds_toArray, List.set_cons_zero, List.set_cons_succ]
  refine wpAnyL_ready (rs := [1]) (by kernel_rfl) (by kernel_rfl) (by simp) ?_
  refine AllReadyL.cons (o := ?_) ?_ (fun K hK => ?_) AllReadyL.nil
  case refine_2 => (simp only [List.getElem?_cons_succ, List.getElem?_cons_zero]; rfl)
  go_simp
  (go_at_call 7; (with_reducible refine (HOF.out _ HO.out).mono ?_); rintro ee w5 ⟨A5, n5, c5, B5, m5, d5, rfl, hra, hrb, ho⟩; have HRA := Lib.hid hra; have HRB := Lib.hid hrb; replace HB1 := Lib.hid (HB1.out.later ho); replace HB2 := Lib.hid (HB2.out.later ho); replace HO := Lib.hid (on_new HO.out ho); clear hra hrb ho)
  go_wp2_with (fail)
  clear hHeld
  refine hK.out _ _ ⟨box_two HB1.out, box_three HB2.out⟩ (fun hHeld => ?_)
  clear hK K
  try simp only [Act.put, List.setIfInBounds_toArray, List.set_cons_zero, List.set_cons_succ]
  refine wpAnyL_ready (rs := [8]) (by kernel_rfl) (by kernel_rfl) (by simp) ?_
  refine AllReadyL.cons (o := ?_) ?_ (fun K hK => ?_) AllReadyL.nil
  case refine_2 => (simp only [List.getElem?_cons_succ, List.getElem?_cons_zero]; rfl)
  go_simp
  (go_at_call 6; have HB2P := Lib.hid HB2.out.lt; (with_reducible refine (New_ok _ A5 B5 n5 c5 m5 d5 a b t p lim HRA.out HRB.out HTB.out.2 HNO.out).mono ?_); rintro ee w6 ⟨pb, mb, rfl, hp, hm, hat, ho⟩; replace HB1 := Lib.hid (HB1.out.later ho); replace HB2 := Lib.hid (HB2.out.later ho); have HP := Lib.hid hat; have HG : Hid (w.heap.size ≤ pb ∧ w.heap.size ≤ mb) := Lib.hid ⟨Nat.le_trans HO.out.size hp, Nat.le_trans HO.out.size hm⟩; have HBG : Hid (b2 ≠ pb ∧ b2 ≠ mb) := Lib.hid ⟨Nat.ne_of_lt (Nat.lt_of_lt_of_le HB2P.out hp), Nat.ne_of_lt (Nat.lt_of_lt_of_le HB2P.out hm)⟩; clear hp hm hat; replace HO := Lib.hid (on_new HO.out ho); clear ho)
  go_wp2_with (fail)
  clear hHeld
  refine hK.out _ _ ⟨box_two HB1.out, box_three HB2.out⟩ (fun hHeld => ?_)
  clear hK K
  try simp only [Act.put, List.setIfInBounds_toArray, List.set_cons_zero, List.set_cons_succ]
  refine oneA 9 33 hsel (h := ?_)
  simp only [Act.put, List.setIfInBounds_toArray, List.set_cons_zero, List.set_cons_succ]
  refine oneA 10 43 hsel (h := ?_)
  simp only [Act.put, List.setIfInBounds_toArray, List.set_cons_zero, List.set_cons_succ]
  refine oneA 11 44 hsel (h := ?_)
  simp only [Act.put, List.setIfInBounds_toArray, List.set_cons_zero, List.set_cons_succ]
  refine oneA 12 7 hsel (h := ?_)
  simp only [Act.put, List.setIfInBounds_toArray, List.set_cons_zero, List.set_cons_succ]
  refine oneA 13 8 hsel (h := ?_)
  simp only [Act.put, List.setIfInBounds_toArray, List.set_cons_zero, List.set_cons_succ]
  refine wpAnyL_done (by kernel_rfl) (by kernel_rfl) ?_ _
  clear hsel hHeld
  have HOK0 := Lib.hid (NewS_ok HNO.out)
  obtain ⟨q0, q1⟩ := box_two HB1.out
  obtain ⟨r0, r1, r2⟩ := box_three HB2.out
  go_upto_region 5 with (go_at_call 8; (with_reducible refine (HRNY.out _ HO.out).mono ?_); rintro e w8 ⟨⟨v9, who, rfl, hwh, hws⟩, ho⟩; obtain ⟨A9, n9, c9, rfl⟩ := hwh.form; replace HB2 := Lib.hid (HB2.out.later ho); replace HP := Lib.hid (HP.out.later ho); replace HO := Lib.hid (on_new HO.out ho); have HW0 := Lib.hid hwh; have HWS := Lib.hid hws; clear hwh hws ho)
  obtain ⟨w9, hwn⟩ : ∃ x, x = w8.alloc (.cells #[.slice A9 n9 c9, .int .i64 lim] 39) := ⟨_, rfl⟩
  obtain ⟨b9, hbn⟩ : ∃ x, x = w8.heap.size := ⟨_, rfl⟩
  have Hb9 : Hid (Blk w9 b9 39 [.slice A9 n9 c9, .int .i64 lim]) := Lib.hid (by rw [hwn, hbn]; exact Blk.new w8 _ [.slice A9 n9 c9, .int .i64 lim])
  have HNX : Hid (Only (w8.heap.size ≤ ·) w8 w9) := Lib.hid (by rw [hwn]; exact (Only.refl _ w8).alloc (fun _ h => h) _)
  have HEQb9 : Hid (w9 = w8.alloc (.cells #[.slice A9 n9 c9, .int .i64 lim] 39) ∧ b9 = w8.heap.size) := Lib.hid ⟨hwn, hbn⟩
  have HB9N : Hid (b9 ≠ pb ∧ b9 ≠ mb ∧ w.heap.size ≤ b9 ∧ b9 ≠ b2) := Lib.hid (by have h1 := HP.out.lt; have h2 := HO.out.size; have h3 := HB2.out.lt; rw [hbn]; omega)
  have HB9 := Lib.hid Hb9.out
  replace HB2 := Lib.hid (HB2.out.later HNX.out)
  replace HP := Lib.hid (HP.out.later HNX.out)
  replace HO := Lib.hid (on_new HO.out HNX.out)
  have HW := Lib.hid (HW0.out.later HNX.out)
  clear hwn hbn q0 q1 r0 r1 r2 HNX HW0 Hb9
  rw [← HEQb9.out.1, ← HEQb9.out.2]
  obtain ⟨r0, r1, r2⟩ := box_three HB2.out
  obtain ⟨s0, s1⟩ := box_two HB9.out
  go_upto_region 9 with (go_at_call 9; (with_reducible refine (stands_t _ pb mb 1 _ _ lim t who HP.out HOK0.out HW.out HWS.out HTB.out).mono ?_); rintro e w10 ⟨rfl, ho⟩; replace HP := Lib.hid (HP.out.later ho); replace HB9 := Lib.hid (HB9.out.later ho); replace HW := Lib.hid (HW.out.later ho); replace HO := Lib.hid (on_new HO.out ho); clear ho)
  clear r0 r1 r2 s0 s1
  go_wp2_with (fail)
  go_loopg [7, 83] n (fun gk0 pv i wr => ∃ (k N pb mb : Nat) (A9 : Option Addr) (n9 c9 : Nat) (S : PS) (who : List Int), gk0 = n - k ∧ k ≤ n ∧ N ≤ k + 1 ∧ pv = .pointer (some ⟨pb, 0, none⟩) ∧ i = .int .i64 (k : Int) ∧ Hid (At wr pb mb N S) ∧ Hid S.Ok ∧ Hid (S.limit = lim) ∧ Hid (WhoS S who) ∧ Hid (Wh wr (.slice A9 n9 c9) who) ∧ Hid (Blk wr b9 39 [.slice A9 n9 c9, .int .i64 lim]) ∧ Hid (w.heap.size ≤ pb ∧ w.heap.size ≤ mb ∧ b9 ≠ pb ∧ b9 ≠ mb) ∧ Hid (Only (w.heap.size ≤ ·) w wr))
  case atStart => exact ⟨0, 1, pb, mb, A9, n9, c9, _, who, rfl, Nat.zero_le _, Nat.le_refl _, rfl, rfl, HP, HOK0, Lib.hid rfl, HWS, HW, HB9, Lib.hid ⟨HG.out.1, HG.out.2, HB9N.out.1, HB9N.out.2.1⟩, HO⟩
  case round =>
    clear HP HWS HW HB9 HG HBG HO HB2 HB1
    obtain ⟨k, N, pb, mb, A9, n9, c9, S, who, rfl, hk, hN, rfl, rfl, HP, HOK, HLIM, HWS, HW, HB9, HG, HO⟩ := hrel
    by_cases hlt : k < n
    · obtain ⟨g0, off, o, rfl, hg, hx, c0, c1, c2, c3, c4⟩ := (HOS.out.later HO.out).at_ (k := k) (by rw [HNL.out]; exact hlt)
      have hio := HI.out _ (List.mem_of_getElem? hx)
      have hfo := HF.out.1 _ (List.mem_of_getElem? hx)
      obtain ⟨ok, ot, on, oa, ol⟩ := o
      have hni : N ≤ 100000 := by have := HN60.out; omega
      have HNI := Lib.hid hni
      have HFO := Lib.hid hfo
      have HOT : Hid (-9223372036854775808 ≤ ot ∧ ot ≤ 9223372036854775807) := Lib.hid hio.2.1
      have HON : Hid (-9223372036854775808 ≤ on ∧ on ≤ 9223372036854775807) := Lib.hid hio.2.2.1
      have HOX : Hid (I64 (oa, ol)) := Lib.hid hio.2.2.2
      have hnb : n ≤ 60 := HN60.out
      simp only at c0 c1 c2 c3 c4
      clear hx hg hni hio hfo
      obtain ⟨fl, hfl⟩ := HP.out.row
      have HFL := Lib.hid hfl
      have HL2 := Lib.hid (HWS.out.two HOK.out)
      clear hfl
      obtain ⟨w3, hwn⟩ : ∃ x, x = wr.alloc (.cells #[.int .i64 ok, .int .i64 ot, .int .i64 on, .int .i64 oa, .int .i64 ol] 46) := ⟨_, rfl⟩
      obtain ⟨b3, hbn⟩ : ∃ x, x = wr.heap.size := ⟨_, rfl⟩
      have Hb3 : Hid (Blk w3 b3 46 [.int .i64 ok, .int .i64 ot, .int .i64 on, .int .i64 oa, .int .i64 ol]) := Lib.hid (by rw [hwn, hbn]; exact Blk.new wr _ [.int .i64 ok, .int .i64 ot, .int .i64 on, .int .i64 oa, .int .i64 ol])
      have HNX : Hid (Only (wr.heap.size ≤ ·) wr w3) := Lib.hid (by rw [hwn]; exact (Only.refl _ wr).alloc (fun _ h => h) _)
      have HEQb3 : Hid (w3 = wr.alloc (.cells #[.int .i64 ok, .int .i64 ot, .int .i64 on, .int .i64 oa, .int .i64 ol] 46) ∧ b3 = wr.heap.size) := Lib.hid ⟨hwn, hbn⟩
      have HB3N : Hid (b3 ≠ pb ∧ b3 ≠ mb ∧ w.heap.size ≤ b3 ∧ b9 < b3) := Lib.hid (by have h1 := HP.out.lt; have h2 := HO.out.size; have h3 := HB9.out.lt; rw [hbn]; omega)
      have HB3 := Lib.hid Hb3.out
      replace HP := Lib.hid (HP.out.later HNX.out)
      replace HB9 := Lib.hid (HB9.out.later HNX.out)
      replace HW := Lib.hid (HW.out.later HNX.out)
      replace HO := Lib.hid (on_new HO.out HNX.out)
      clear hwn hbn HNX Hb3
      go_upto_region 12 with (fail)
      rw [← HEQb3.out.1, ← HEQb3.out.2]
      obtain ⟨f0, f1, f2, f3, f4⟩ := box_five HB3.out
      obtain ⟨s0, s1⟩ := box_two HB9.out
      clear c0 c1 c2 c3 c4
      by_cases d0 : ok = 0
      · subst d0
        go_upto_region 15 with (go_at_call 10; (with_reducible refine (take_pair _ _ on lim HW.out HWS.out HOK.out HLIM.out HON.out.2 HFL.out).mono ?_); rintro e w4 ⟨⟨S', v4, l4, x4, y4, rfl, hw4, hok4, hl4, hs4, hc4⟩, ho⟩; replace HP := Lib.hid (HP.out.later ho); replace HB9 := Lib.hid (HB9.out.later ho); replace HB3 := Lib.hid (HB3.out.later ho); replace HO := Lib.hid (on_new HO.out ho); replace HW := Lib.hid hw4; obtain ⟨A4, n4, c4, rfl⟩ := hw4.form; have HOK4 := Lib.hid hok4; have HL4 := Lib.hid hl4; have HS4 := Lib.hid hs4; have HC4 := Lib.hid hc4; clear hw4 hok4 hl4 hs4 hc4 ho)
        obtain ⟨w5, hwn⟩ : ∃ x, x = w4.alloc (.cells #[.slice A4 n4 c4, .int .i64 lim] 39) := ⟨_, rfl⟩
        obtain ⟨b5, hbn⟩ : ∃ x, x = w4.heap.size := ⟨_, rfl⟩
        have Hb5 : Hid (Blk w5 b5 39 [.slice A4 n4 c4, .int .i64 lim]) := Lib.hid (by rw [hwn, hbn]; exact Blk.new w4 _ [.slice A4 n4 c4, .int .i64 lim])
        have HNX : Hid (Only (w4.heap.size ≤ ·) w4 w5) := Lib.hid (by rw [hwn]; exact (Only.refl _ w4).alloc (fun _ h => h) _)
        have HEQb5 : Hid (w5 = w4.alloc (.cells #[.slice A4 n4 c4, .int .i64 lim] 39) ∧ b5 = w4.heap.size) := Lib.hid ⟨hwn, hbn⟩
        have Hb5N : Hid (b5 ≠ pb ∧ b5 ≠ mb) := Lib.hid (by have h1 := HP.out.lt; rw [hbn]; omega)
        have H59 : Hid (b5 ≠ b9) := Lib.hid (by have h1 := HB9.out.lt; rw [hbn]; omega)
        have ho := HNX.out
        replace HP := Lib.hid (HP.out.later ho); replace HB9 := Lib.hid (HB9.out.later ho); replace HB3 := Lib.hid (HB3.out.later ho); replace HO := Lib.hid (on_new HO.out ho); replace HW := Lib.hid (HW.out.later ho);
        clear ho hwn hbn HNX
        rw [← HEQb5.out.1, ← HEQb5.out.2]
        have HL0 := Lib.hid (HS4.out.two HOK4.out).1
        have HLN := Lib.hid (HS4.out.two HOK4.out).2
        clear f0 f1 f2 f3 f4 s0 s1
        obtain ⟨f0, f1, f2, f3, f4⟩ := box_five HB3.out
        go_upto_region 16 with (go_at_call 11; (with_reducible refine (HC4.out _ pb mb N HP.out).mono ?_); rintro e w6 ⟨rfl, N', hn', hat, ht⟩; replace HB9 := Lib.hid (blk_touch2 HB9.out HG.out.2.2 ht); replace HB3 := Lib.hid (blk_touch2 HB3.out ⟨HB3N.out.1, HB3N.out.2.1⟩ ht); replace HW := Lib.hid (HW.out.touch HP.out HOK.out HL0.out ht); replace HO := Lib.hid (down_new HO.out ht HG.out.1 HG.out.2.1); replace Hb5 := Lib.hid (blk_touch2 Hb5.out Hb5N.out ht); replace HP := Lib.hid hat; replace HOK := HOK4; replace HLIM := HL4; replace HWS := HS4; clear hat ht)
        obtain ⟨s0, s1⟩ := box_two HB9.out
        have g0 := HB9.out.frozen 0
        have g1 := HB9.out.frozen 1
        obtain ⟨p0, p1⟩ := box_two Hb5.out
        clear f0 f1 f2 f3 f4
        obtain ⟨w7, hwz⟩ : ∃ x, x = (w6.setCell ⟨b9, 0, none⟩ (.slice A4 n4 c4)).setCell ⟨b9, 1, none⟩ (.int .i64 lim) := ⟨_, rfl⟩
        have HEQw7 := Lib.hid hwz
        have HWR : Hid (Only (fun k => k = b9) w6 w7) := Lib.hid (by rw [hwz]; exact ((Only.refl (fun k => k = b9) w6).setCell (p := ⟨b9, 0, none⟩) rfl _).setCell (p := ⟨b9, 1, none⟩) rfl _)
        replace HO := Lib.hid (HO.out.trans (HWR.out.mono fun k hk => by subst hk; exact HB9N.out.2.2.1))
        replace HP := Lib.hid (HP.out.box HB9.out HG.out.2.2 HWR.out)
        replace HW := Lib.hid (HW.out.off HB9.out (fun _ _ => by simp) HWR.out (.inl HLN.out))
        replace HB3 := Lib.hid (HB3.out.only HWR.out (Nat.ne_of_gt HB3N.out.2.2.2))
        replace HB9 : Hid (Blk w7 b9 39 [.slice A4 n4 c4, .int .i64 lim]) := Lib.hid (by rw [hwz]; exact (HB9.out.set_ 0 _).set_ 1 _)
        clear hwz HWR
        go_upto_region 17 with (fail)
        rw [← HEQw7.out]
        clear p0 p1 g0 g1 s0 s1
        obtain ⟨f0, f1, f2, f3, f4⟩ := box_five HB3.out
        obtain ⟨s0, s1⟩ := box_two HB9.out
        go_wp2_with (go_at_call 9; (with_reducible refine (stands_t _ pb mb _ _ _ lim ot _ HP.out HOK.out HW.out HWS.out HOT.out).mono ?_); rintro e w20 ⟨rfl, ho⟩; replace HP := Lib.hid (HP.out.later ho); replace HB9 := Lib.hid (HB9.out.later ho); replace HW := Lib.hid (HW.out.later ho); replace HO := Lib.hid (on_new HO.out ho); clear ho)
        go_roundg (n - (k + 1))
        case measure => omega
        case rel => exact ⟨k + 1, N', _, _, _, _, _, _, _, rfl, by omega, by omega, rfl, by go_num, HP, HOK, HLIM, HWS, HW, HB9, HG, HO⟩
      ·
        by_cases d1 : ok = 1
        · subst d1
          go_upto_region 21 with (go_at_call 12; (with_reducible refine (give_pair _ _ ot oa ol lim HW.out HWS.out HOK.out HLIM.out HOX.out HOT.out.2).mono ?_); rintro e w4 ⟨⟨S', v4, l4, y4, rfl, hw4, hok4, hl4, hs4, hc4⟩, ho⟩; replace HP := Lib.hid (HP.out.later ho); replace HB9 := Lib.hid (HB9.out.later ho); replace HB3 := Lib.hid (HB3.out.later ho); replace HO := Lib.hid (on_new HO.out ho); replace HW := Lib.hid hw4; obtain ⟨A4, n4, c4, rfl⟩ := hw4.form; have HOK4 := Lib.hid hok4; have HL4 := Lib.hid hl4; have HS4 := Lib.hid hs4; have HC4 := Lib.hid hc4; clear hw4 hok4 hl4 hs4 hc4 ho)
          obtain ⟨w5, hwn⟩ : ∃ x, x = w4.alloc (.cells #[.slice A4 n4 c4, .int .i64 lim] 39) := ⟨_, rfl⟩
          obtain ⟨b5, hbn⟩ : ∃ x, x = w4.heap.size := ⟨_, rfl⟩
          have Hb5 : Hid (Blk w5 b5 39 [.slice A4 n4 c4, .int .i64 lim]) := Lib.hid (by rw [hwn, hbn]; exact Blk.new w4 _ [.slice A4 n4 c4, .int .i64 lim])
          have HNX : Hid (Only (w4.heap.size ≤ ·) w4 w5) := Lib.hid (by rw [hwn]; exact (Only.refl _ w4).alloc (fun _ h => h) _)
          have HEQb5 : Hid (w5 = w4.alloc (.cells #[.slice A4 n4 c4, .int .i64 lim] 39) ∧ b5 = w4.heap.size) := Lib.hid ⟨hwn, hbn⟩
          have H59 : Hid (b5 ≠ b9) := Lib.hid (by have h1 := HB9.out.lt; rw [hbn]; omega)
          have ho := HNX.out
          replace HP := Lib.hid (HP.out.later ho); replace HB9 := Lib.hid (HB9.out.later ho); replace HB3 := Lib.hid (HB3.out.later ho); replace HO := Lib.hid (on_new HO.out ho); replace HW := Lib.hid (HW.out.later ho);
          clear ho hwn hbn HNX
          rw [← HEQb5.out.1, ← HEQb5.out.2]
          have HL0 := Lib.hid (HS4.out.two HOK4.out).1
          have HLN := Lib.hid (HS4.out.two HOK4.out).2
          clear f0 f1 f2 f3 f4 s0 s1
          obtain ⟨s0, s1⟩ := box_two HB9.out
          have g0 := HB9.out.frozen 0
          have g1 := HB9.out.frozen 1
          obtain ⟨p0, p1⟩ := box_two Hb5.out
          obtain ⟨w7, hwz⟩ : ∃ x, x = (w5.setCell ⟨b9, 0, none⟩ (.slice A4 n4 c4)).setCell ⟨b9, 1, none⟩ (.int .i64 lim) := ⟨_, rfl⟩
          have HEQw7 := Lib.hid hwz
          have HWR : Hid (Only (fun k => k = b9) w5 w7) := Lib.hid (by rw [hwz]; exact ((Only.refl (fun k => k = b9) w5).setCell (p := ⟨b9, 0, none⟩) rfl _).setCell (p := ⟨b9, 1, none⟩) rfl _)
          replace HO := Lib.hid (HO.out.trans (HWR.out.mono fun k hk => by subst hk; exact HB9N.out.2.2.1))
          replace HP := Lib.hid (HP.out.box HB9.out HG.out.2.2 HWR.out)
          replace HW := Lib.hid (HW.out.off HB9.out (fun _ _ => by simp) HWR.out (.inl HLN.out))
          replace HB3 := Lib.hid (HB3.out.only HWR.out (Nat.ne_of_gt HB3N.out.2.2.2))
          replace HB9 : Hid (Blk w7 b9 39 [.slice A4 n4 c4, .int .i64 lim]) := Lib.hid (by rw [hwz]; exact (HB9.out.set_ 0 _).set_ 1 _)
          clear hwz HWR
          go_upto_region 22 with (fail)
          rw [← HEQw7.out]
          clear p0 p1 g0 g1 s0 s1
          obtain ⟨f0, f1, f2, f3, f4⟩ := box_five HB3.out
          go_upto_region 40 with (go_at_call 13; (with_reducible refine (HC4.out _ pb mb N HNI.out HP.out).mono ?_); rintro e w6 ⟨rfl, N', hn', hat, ht⟩; replace HB9 := Lib.hid (blk_touch2 HB9.out HG.out.2.2 ht); replace HB3 := Lib.hid (blk_touch2 HB3.out ⟨HB3N.out.1, HB3N.out.2.1⟩ ht); replace HW := Lib.hid (HW.out.touch HP.out HOK.out HL0.out ht); replace HO := Lib.hid (down_new HO.out ht HG.out.1 HG.out.2.1); replace HP := Lib.hid hat; replace HOK := HOK4; replace HLIM := HL4; replace HWS := HS4; clear hat ht)
          clear f0 f1 f2 f3 f4
          obtain ⟨f0, f1, f2, f3, f4⟩ := box_five HB3.out
          obtain ⟨s0, s1⟩ := box_two HB9.out
          go_wp2_with (go_at_call 9; (with_reducible refine (stands_t _ pb mb _ _ _ lim ot _ HP.out HOK.out HW.out HWS.out HOT.out).mono ?_); rintro e w20 ⟨rfl, ho⟩; replace HP := Lib.hid (HP.out.later ho); replace HB9 := Lib.hid (HB9.out.later ho); replace HW := Lib.hid (HW.out.later ho); replace HO := Lib.hid (on_new HO.out ho); clear ho)
          go_roundg (n - (k + 1))
          case measure => omega
          case rel => exact ⟨k + 1, N', _, _, _, _, _, _, _, rfl, by omega, by omega, rfl, by go_num, HP, HOK, HLIM, HWS, HW, HB9, HG, HO⟩
        ·
          by_cases d2 : ok = 2
          · subst d2
            have HT0 : Hid (0 ≤ ot) := Lib.hid (Int.not_lt.1 fun h0 => HFO.out.2 ⟨rfl, h0⟩)
            have HL0 := Lib.hid HL2.out.1
            have HOKS := Lib.hid (settled_ok HOK.out (min (max ot 0 - 2) on))
            have HWSS := Lib.hid (who_settled HWS.out HOK.out ot on)
            have HLEN : Hid (who.length ≤ 16384) := Lib.hid (by have h1 := HWS.out.1; have h2 := HOK.out.hi; have h3 := HOK.out.top; omega)
            go_upto_region 26 with (go_at_call 14; (with_reducible refine (Settle_c _ pb mb N S ot on HP.out HOK.out HOT.out HON.out).mono ?_); rintro e w6 ⟨rfl, hat, ht⟩; replace HB9 := Lib.hid (blk_touch2 HB9.out HG.out.2.2 ht); replace HB3 := Lib.hid (blk_touch2 HB3.out ⟨HB3N.out.1, HB3N.out.2.1⟩ ht); replace HW := Lib.hid (HW.out.touch HP.out HOK.out HL0.out ht); replace HO := Lib.hid (down_new HO.out ht HG.out.1 HG.out.2.1); replace HP := Lib.hid hat; clear hat ht)
            clear f0 f1 f2 f3 f4 s0 s1
            obtain ⟨f0, f1, f2, f3, f4⟩ := box_five HB3.out
            obtain ⟨s0, s1⟩ := box_two HB9.out
            go_upto_region 40 with (go_at_call 15; (with_reducible refine (rsettle_c _ _ lim ot on who HW.out HLEN.out HL2.out.2 ⟨HT0.out, HOT.out.2⟩).mono ?_); rintro e w7 ⟨⟨v7, rfl, hw7⟩, ho⟩; replace HP := Lib.hid (HP.out.later ho); replace HB9 := Lib.hid (HB9.out.later ho); replace HB3 := Lib.hid (HB3.out.later ho); replace HO := Lib.hid (on_new HO.out ho); replace HW := Lib.hid hw7; obtain ⟨A4, n4, c4, rfl⟩ := hw7.form; replace HOK := HOKS; replace HWS := HWSS; have HLN := Lib.hid (HWS.out.two HOK.out).2; have g0 := HB9.out.frozen 0; have g1 := HB9.out.frozen 1; have s0 := (box_two HB9.out).1; have s1 := (box_two HB9.out).2; clear hw7 ho)
            obtain ⟨w8, hwz⟩ : ∃ x, x = (w7.setCell ⟨b9, 0, none⟩ (.slice A4 n4 c4)).setCell ⟨b9, 1, none⟩ (.int .i64 lim) := ⟨_, rfl⟩
            have HEQw8 := Lib.hid hwz
            have HWR : Hid (Only (fun k => k = b9) w7 w8) := Lib.hid (by rw [hwz]; exact ((Only.refl (fun k => k = b9) w7).setCell (p := ⟨b9, 0, none⟩) rfl _).setCell (p := ⟨b9, 1, none⟩) rfl _)
            replace HO := Lib.hid (HO.out.trans (HWR.out.mono fun k hk => by subst hk; exact HB9N.out.2.2.1))
            replace HP := Lib.hid (HP.out.box HB9.out HG.out.2.2 HWR.out)
            replace HW := Lib.hid (HW.out.off HB9.out (fun _ _ => by simp) HWR.out (.inl HLN.out))
            replace HB3 := Lib.hid (HB3.out.only HWR.out (Nat.ne_of_gt HB3N.out.2.2.2))
            replace HB9 : Hid (Blk w8 b9 39 [.slice A4 n4 c4, .int .i64 lim]) := Lib.hid (by rw [hwz]; exact (HB9.out.set_ 0 _).set_ 1 _)
            clear hwz HWR
            rw [← HEQw8.out]
            clear g0 g1 s0 s1 f0 f1 f2 f3 f4
            obtain ⟨f0, f1, f2, f3, f4⟩ := box_five HB3.out
            obtain ⟨s0, s1⟩ := box_two HB9.out
            go_wp2_with (go_at_call 9; (with_reducible refine (stands_t _ pb mb _ _ _ lim ot _ HP.out HOK.out HW.out HWS.out HOT.out).mono ?_); rintro e w20 ⟨rfl, ho⟩; replace HP := Lib.hid (HP.out.later ho); replace HB9 := Lib.hid (HB9.out.later ho); replace HW := Lib.hid (HW.out.later ho); replace HO := Lib.hid (on_new HO.out ho); clear ho)
            go_roundg (n - (k + 1))
            case measure => omega
            case rel => exact ⟨k + 1, N, _, _, _, _, _, _, _, rfl, by omega, by omega, rfl, by go_num, HP, HOK, HLIM, HWS, HW, HB9, HG, HO⟩
          ·
            by_cases d3 : ok = 4
            · subst d3
              go_upto_region 29 with (go_at_call 16; (with_reducible refine (grow_pair _ _ on lim HW.out HWS.out HOK.out HLIM.out HON.out.2 HFL.out).mono ?_); rintro e w4 ⟨⟨S', v4, l4, x4, y4, rfl, hw4, hok4, hl4, hs4, hc4⟩, ho⟩; replace HP := Lib.hid (HP.out.later ho); replace HB9 := Lib.hid (HB9.out.later ho); replace HB3 := Lib.hid (HB3.out.later ho); replace HO := Lib.hid (on_new HO.out ho); replace HW := Lib.hid hw4; obtain ⟨A4, n4, c4, rfl⟩ := hw4.form; have HOK4 := Lib.hid hok4; have HL4 := Lib.hid hl4; have HS4 := Lib.hid hs4; have HC4 := Lib.hid hc4; clear hw4 hok4 hl4 hs4 hc4 ho)
              obtain ⟨w5, hwn⟩ : ∃ x, x = w4.alloc (.cells #[.slice A4 n4 c4, .int .i64 lim] 39) := ⟨_, rfl⟩
              obtain ⟨b5, hbn⟩ : ∃ x, x = w4.heap.size := ⟨_, rfl⟩
              have Hb5 : Hid (Blk w5 b5 39 [.slice A4 n4 c4, .int .i64 lim]) := Lib.hid (by rw [hwn, hbn]; exact Blk.new w4 _ [.slice A4 n4 c4, .int .i64 lim])
              have HNX : Hid (Only (w4.heap.size ≤ ·) w4 w5) := Lib.hid (by rw [hwn]; exact (Only.refl _ w4).alloc (fun _ h => h) _)
              have HEQb5 : Hid (w5 = w4.alloc (.cells #[.slice A4 n4 c4, .int .i64 lim] 39) ∧ b5 = w4.heap.size) := Lib.hid ⟨hwn, hbn⟩
              have Hb5N : Hid (b5 ≠ pb ∧ b5 ≠ mb) := Lib.hid (by have h1 := HP.out.lt; rw [hbn]; omega)
              have H59 : Hid (b5 ≠ b9) := Lib.hid (by have h1 := HB9.out.lt; rw [hbn]; omega)
              have ho := HNX.out
              replace HP := Lib.hid (HP.out.later ho); replace HB9 := Lib.hid (HB9.out.later ho); replace HB3 := Lib.hid (HB3.out.later ho); replace HO := Lib.hid (on_new HO.out ho); replace HW := Lib.hid (HW.out.later ho);
              clear ho hwn hbn HNX
              rw [← HEQb5.out.1, ← HEQb5.out.2]
              have HL0 := Lib.hid (HS4.out.two HOK4.out).1
              have HLN := Lib.hid (HS4.out.two HOK4.out).2
              clear f0 f1 f2 f3 f4 s0 s1
              obtain ⟨f0, f1, f2, f3, f4⟩ := box_five HB3.out
              go_upto_region 30 with (go_at_call 17; (with_reducible refine (HC4.out _ pb mb N HP.out).mono ?_); rintro e w6 ⟨rfl, N', hn', hat, ht⟩; replace HB9 := Lib.hid (blk_touch2 HB9.out HG.out.2.2 ht); replace HB3 := Lib.hid (blk_touch2 HB3.out ⟨HB3N.out.1, HB3N.out.2.1⟩ ht); replace HW := Lib.hid (HW.out.touch HP.out HOK.out HL0.out ht); replace HO := Lib.hid (down_new HO.out ht HG.out.1 HG.out.2.1); replace Hb5 := Lib.hid (blk_touch2 Hb5.out Hb5N.out ht); replace HP := Lib.hid hat; replace HOK := HOK4; replace HLIM := HL4; replace HWS := HS4; clear hat ht)
              obtain ⟨s0, s1⟩ := box_two HB9.out
              have g0 := HB9.out.frozen 0
              have g1 := HB9.out.frozen 1
              obtain ⟨p0, p1⟩ := box_two Hb5.out
              clear f0 f1 f2 f3 f4
              obtain ⟨w7, hwz⟩ : ∃ x, x = (w6.setCell ⟨b9, 0, none⟩ (.slice A4 n4 c4)).setCell ⟨b9, 1, none⟩ (.int .i64 lim) := ⟨_, rfl⟩
              have HEQw7 := Lib.hid hwz
              have HWR : Hid (Only (fun k => k = b9) w6 w7) := Lib.hid (by rw [hwz]; exact ((Only.refl (fun k => k = b9) w6).setCell (p := ⟨b9, 0, none⟩) rfl _).setCell (p := ⟨b9, 1, none⟩) rfl _)
              replace HO := Lib.hid (HO.out.trans (HWR.out.mono fun k hk => by subst hk; exact HB9N.out.2.2.1))
              replace HP := Lib.hid (HP.out.box HB9.out HG.out.2.2 HWR.out)
              replace HW := Lib.hid (HW.out.off HB9.out (fun _ _ => by simp) HWR.out (.inl HLN.out))
              replace HB3 := Lib.hid (HB3.out.only HWR.out (Nat.ne_of_gt HB3N.out.2.2.2))
              replace HB9 : Hid (Blk w7 b9 39 [.slice A4 n4 c4, .int .i64 lim]) := Lib.hid (by rw [hwz]; exact (HB9.out.set_ 0 _).set_ 1 _)
              clear hwz HWR
              go_upto_region 31 with (fail)
              rw [← HEQw7.out]
              clear p0 p1 g0 g1 s0 s1
              obtain ⟨f0, f1, f2, f3, f4⟩ := box_five HB3.out
              obtain ⟨s0, s1⟩ := box_two HB9.out
              go_wp2_with (go_at_call 9; (with_reducible refine (stands_t _ pb mb _ _ _ lim ot _ HP.out HOK.out HW.out HWS.out HOT.out).mono ?_); rintro e w20 ⟨rfl, ho⟩; replace HP := Lib.hid (HP.out.later ho); replace HB9 := Lib.hid (HB9.out.later ho); replace HW := Lib.hid (HW.out.later ho); replace HO := Lib.hid (on_new HO.out ho); clear ho)
              go_roundg (n - (k + 1))
              case measure => omega
              case rel => exact ⟨k + 1, N', _, _, _, _, _, _, _, rfl, by omega, by omega, rfl, by go_num, HP, HOK, HLIM, HWS, HW, HB9, HG, HO⟩
            ·
              by_cases d4 : ok = 3
              · subst d4
                have HL0 := Lib.hid HL2.out.1
                go_upto_region 37 with (go_at_call 18; (with_reducible refine (Copy_c _ pb mb N S HP.out).mono ?_); rintro e w4 ⟨qb, qm, rfl, hq1, hq2, hcp, ho⟩; have HQ : Hid (∀ W, Touch pb mb w4 W → At W qb qm N S) := Lib.hid hcp; have HQN : Hid (w.heap.size ≤ qb ∧ w.heap.size ≤ qm ∧ b9 ≠ qb ∧ b9 ≠ qm) := Lib.hid (by have h1 := HB9.out.lt; have h2 := HO.out.size; omega); replace HP := Lib.hid (HP.out.later ho); replace HB9 := Lib.hid (HB9.out.later ho); replace HB3 := Lib.hid (HB3.out.later ho); replace HO := Lib.hid (on_new HO.out ho); replace HW := Lib.hid (HW.out.later ho); have HT4 : Hid (Touch pb mb w4 w4) := Lib.hid (Only.refl _ _); clear hq1 hq2 hcp ho)
                clear f0 f1 f2 f3 f4 s0 s1
                go_upto_region 38 with (go_at_call 11; (with_reducible refine (Take_any HP.out HOK.out (by decide)).mono ?_); rintro e w5 ⟨v5, S5, N5, rfl, hn5, hat, hok5, hl5, ht⟩; replace HT4 := Lib.hid (HT4.out.trans ht); replace HB9 := Lib.hid (blk_touch2 HB9.out HG.out.2.2 ht); replace HB3 := Lib.hid (blk_touch2 HB3.out ⟨HB3N.out.1, HB3N.out.2.1⟩ ht); replace HW := Lib.hid (HW.out.touch HP.out HOK.out HL0.out ht); replace HO := Lib.hid (down_new HO.out ht HG.out.1 HG.out.2.1); replace HP := Lib.hid hat; have HOK5 := Lib.hid hok5; clear hat ht hok5 hl5 hn5)
                go_upto_region 39 with (go_at_call 14; (with_reducible refine (Settle_any HP.out HOK5.out (by decide) (by decide)).mono ?_); rintro e w6 ⟨v6, S6, N6, rfl, hn6, hat, hok6, hl6, ht⟩; replace HT4 := Lib.hid (HT4.out.trans ht); replace HB9 := Lib.hid (blk_touch2 HB9.out HG.out.2.2 ht); replace HB3 := Lib.hid (blk_touch2 HB3.out ⟨HB3N.out.1, HB3N.out.2.1⟩ ht); replace HW := Lib.hid (HW.out.touch HP.out HOK5.out HL0.out ht); replace HO := Lib.hid (down_new HO.out ht HG.out.1 HG.out.2.1); replace HP := Lib.hid hat; clear hat ht hok6 hl6 hn6)
                replace HP := Lib.hid (HQ.out _ HT4.out)
                replace HG := HQN
                obtain ⟨f0, f1, f2, f3, f4⟩ := box_five HB3.out
                obtain ⟨s0, s1⟩ := box_two HB9.out
                go_wp2_with (go_at_call 9; (with_reducible refine (stands_t _ qb qm _ _ _ lim ot _ HP.out HOK.out HW.out HWS.out HOT.out).mono ?_); rintro e w20 ⟨rfl, ho⟩; replace HP := Lib.hid (HP.out.later ho); replace HB9 := Lib.hid (HB9.out.later ho); replace HW := Lib.hid (HW.out.later ho); replace HO := Lib.hid (on_new HO.out ho); clear ho)
                go_roundg (n - (k + 1))
                case measure => omega
                case rel => exact ⟨k + 1, N, _, _, _, _, _, _, _, rfl, by omega, by omega, rfl, by go_num, HP, HOK, HLIM, HWS, HW, HB9, HG, HO⟩
              ·
                have hn' : N ≤ N + 1 := Nat.le_succ _
                obtain ⟨f0, f1, f2, f3, f4⟩ := box_five HB3.out
                obtain ⟨s0, s1⟩ := box_two HB9.out
                go_wp2_with (go_at_call 9; (with_reducible refine (stands_t _ pb mb _ _ _ lim ot _ HP.out HOK.out HW.out HWS.out HOT.out).mono ?_); rintro e w20 ⟨rfl, ho⟩; replace HP := Lib.hid (HP.out.later ho); replace HB9 := Lib.hid (HB9.out.later ho); replace HW := Lib.hid (HW.out.later ho); replace HO := Lib.hid (on_new HO.out ho); clear ho)
                go_roundg (n - (k + 1))
                case measure => omega
                case rel => exact ⟨k + 1, N, _, _, _, _, _, _, _, rfl, by omega, by omega, rfl, by go_num, HP, HOK, HLIM, HWS, HW, HB9, HG, HO⟩
    · obtain rfl : k = n := by omega
      have hkm : ¬ (k : Int) < (k : Int) := by omega
      go_wp2_with (go_at_call 5; (with_reducible refine (alive_c _).mono ?_); rintro e w9 ⟨rfl, ho⟩; replace HO := Lib.hid (on_new HO.out ho); clear ho)
      go_ret
      exact ⟨rfl, HO.out⟩
end Go.Proofs.YtmadlckladohbaaGreat
