/-
  PoolStates: the walk.
-/
import Derived.Test.YtmadlckladohbaaPsn
import Derived.Deep.CutRange
import Derived.Deep.LoopGhost
import Derived.Deep.CutBlock
set_option linter.unusedVariables false
namespace Go.Proofs.Ytmadlckladohbaa
open Go.RowKit Go.Shelf

set_option maxRecDepth 100000 in
set_option maxHeartbeats 6400000 in
theorem states_early (w : World) (A B C : Option Addr) (nn cc mm dd n c : Nat) (a b : List R) (t p lim : Int) (l : List OpD) (ha : Row w (.slice A nn cc) a) (hb : Row w (.slice B mm dd) b) (hai : ∀ x ∈ a, I64 x) (hbi : ∀ x ∈ b, I64 x) (hla : a.length ≤ 2000000) (hlb : b.length ≤ 2000000) (hl : Os w C l) (hn : l.length = n) (hln : n ≤ 20000000) (hli : ∀ o ∈ l, I64o o) (ht : t ≤ 9223372036854775807) (h : ¬ FewOk a b p l ∨ ¬ NewOk a b t p lim) :
    Calls Try.prog 4 #[.agg #[.slice A nn cc, .slice B mm dd], .agg #[.int .i64 t, .int .i64 p, .int .i64 lim], .slice C n c] w (Told w (.bool true)) := by
  obtain ⟨w2, hw2⟩ : ∃ w2, w2 = (w.alloc (.cells #[.slice A nn cc, .slice B mm dd] 40)).alloc (.cells #[.int .i64 t, .int .i64 p, .int .i64 lim] 41) := ⟨_, rfl⟩
  obtain ⟨b1, hb1⟩ : ∃ b1, b1 = w.heap.size := ⟨_, rfl⟩
  obtain ⟨b2, hb2⟩ : ∃ b2, b2 = w.heap.size + 1 := ⟨_, rfl⟩
  have HB1 : Hid (Blk w2 b1 40 [.slice A nn cc, .slice B mm dd]) := Lib.hid (by rw [hw2, hb1]; exact (Blk.new w _ [.slice A nn cc, .slice B mm dd]).alloc _)
  have HB2 : Hid (Blk w2 b2 41 [.int .i64 t, .int .i64 p, .int .i64 lim]) := Lib.hid (by
    rw [hw2, hb2]
    have := Blk.new (w.alloc (.cells #[.slice A nn cc, .slice B mm dd] 40)) 41 [.int .i64 t, .int .i64 p, .int .i64 lim]
    rwa [show (w.alloc (.cells #[.slice A nn cc, .slice B mm dd] 40)).heap.size = w.heap.size + 1 by simp] at this)
  have HO : Hid (Only (w.heap.size ≤ ·) w w2) := Lib.hid (by rw [hw2]; exact ((Only.refl _ w).alloc (fun _ h => h) _).alloc (fun _ h => h) _)
  have HEQ : Hid (w2 = (w.alloc (.cells #[.slice A nn cc, .slice B mm dd] 40)).alloc (.cells #[.int .i64 t, .int .i64 p, .int .i64 lim] 41) ∧ b1 = w.heap.size ∧ b2 = w.heap.size + 1) := Lib.hid ⟨hw2, hb1, hb2⟩
  have HLEN : Hid (a.length ≤ 2000000 ∧ b.length ≤ 2000000) := Lib.hid ⟨hla, hlb⟩
  have HOF : Hid (∀ W, Only (w.heap.size ≤ ·) w W → Calls Try.prog 15 #[.agg #[.slice A nn cc, .slice B mm dd]] W (OfSt W a b)) := Lib.hid fun W hW => pOf_c W A B nn cc mm dd a b (ha.later hW) (hb.later hW) hla hlb
  have HFWS : Hid (∀ W, Only (w.heap.size ≤ ·) w W → Calls Try.prog 14 #[.agg #[.slice A nn cc, .slice B mm dd], .int .i64 p, .slice C n c] W (FewSays W a b p l)) := Lib.hid fun W hW => pfew_c W A B C nn cc mm dd n c a b p l (ha.later hW) (hb.later hW) (hl.later hW) hn hla hlb hln
  have HAI := Lib.hid hai
  have HBI := Lib.hid hbi
  clear ha hb hai hbi hla hlb hw2 hb1 hb2 hl hn hli hln ht
  by_cases hf : FewOk a b p l
  · have HF := Lib.hid hf
    have HFW : Hid (∀ W, Only (w.heap.size ≤ ·) w W → Calls Try.prog 14 #[.agg #[.slice A nn cc, .slice B mm dd], .int .i64 p, .slice C n c] W (Told W (.bool true))) := Lib.hid fun W hW => (HFWS.out W hW).mono fun e w' ⟨⟨r, r1, r2⟩, r3⟩ => ⟨by rw [r1, r2.2 HF.out], r3⟩
    have HNO : Hid (¬ NewOk a b t p lim) := Lib.hid (h.resolve_left (fun h => h hf))
    clear h hf
    go_enter Try.func4, Try.ntmps4
    go_upto_region 1 with (fail)
    rw [← HEQ.out.1, ← HEQ.out.2.2, ← HEQ.out.2.1]
    obtain ⟨q0, q1⟩ := box_two HB1.out
    obtain ⟨r0, r1, r2⟩ := box_three HB2.out
    go_upto_region 3 with (go_at_call 14; (with_reducible refine (HFW.out _ HO.out).mono ?_); rintro e w1 ⟨rfl, ho⟩; replace HB1 := Lib.hid (HB1.out.later ho); replace HB2 := Lib.hid (HB2.out.later ho); replace HO := Lib.hid (on_new HO.out ho); clear ho)
    replace HB1 := Lib.hid HB1.out.drew
    replace HB2 := Lib.hid HB2.out.drew
    replace HO := Lib.hid HO.out.drew
    refine wp_region_list (B := [false, false, false, false, false, false, false, false, false, false, false, false, false, false]) (S := (fun W => (W.cell? ⟨b1, 0, none⟩ = some (.slice A nn cc) ∧ W.cell? ⟨b1, 1, none⟩ = some (.slice B mm dd)) ∧ W.cell? ⟨b2, 0, none⟩ = some (.int .i64 t) ∧ W.cell? ⟨b2, 1, none⟩ = some (.int .i64 p) ∧ W.cell? ⟨b2, 2, none⟩ = some (.int .i64 lim))) (by kernel_rfl) (by kernel_rfl) (by kernel_rfl) ⟨box_two HB1.out, box_three HB2.out⟩ (fun hsel hHeld => ?_)
    generalize hwz : World.drew _ = wz at HB1 HB2 HO hHeld ⊢
    clear hwz
    refine oneA 0 21 hsel (h := ?_)
    simp only [Act.put, List.setIfInBounds_toArray, List.set_cons_zero, List.set_cons_succ]
    refine oneA 2 23 hsel (h := ?_)
    simp only [Act.put, List.setIfInBounds_toArray, List.set_cons_zero, List.set_cons_succ]
    refine oneA 3 24 hsel (h := ?_)
    simp only [Act.put, List.setIfInBounds_toArray, List.set_cons_zero, List.set_cons_succ]
    refine oneA 4 25 hsel (h := ?_)
    simp only [Act.put, List.setIfInBounds_toArray, List.set_cons_zero, List.set_cons_succ]
    refine oneA 5 26 hsel (h := ?_)
    simp only [Act.put, List.setIfInBounds_toArray, List.set_cons_zero, List.set_cons_succ]
    refine oneA 6 27 hsel (h := ?_)
    simp only [Act.put, List.setIfInBounds_toArray, List.set_cons_zero, List.set_cons_succ]
    refine oneA 7 28 hsel (h := ?_)
    simp only [Act.put, List.setIfInBounds_toArray, List.set_cons_zero, List.set_cons_succ]
    refine wpAnyL_ready (rs := [1]) (by kernel_rfl) (by kernel_rfl) (by simp) ?_
    refine AllReadyL.cons (o := ?_) ?_ (fun K hK => ?_) AllReadyL.nil
    case refine_2 => (simp only [List.getElem?_cons_succ, List.getElem?_cons_zero]; rfl)
    go_simp
    (go_at_call 15; (with_reducible refine (HOF.out _ HO.out).mono ?_); rintro ee w5 ⟨A5, n5, c5, B5, m5, d5, rfl, hra, hrb, ho⟩; have HRA := Lib.hid hra; have HRB := Lib.hid hrb; replace HB1 := Lib.hid (HB1.out.later ho); replace HB2 := Lib.hid (HB2.out.later ho); replace HO := Lib.hid (on_new HO.out ho); clear hra hrb ho)
    go_wp2_with (fail)
    clear hHeld
    refine hK.out _ _ ⟨box_two HB1.out, box_three HB2.out⟩ (fun hHeld => ?_)
    clear hK K
    try simp only [Act.put, List.setIfInBounds_toArray, List.set_cons_zero, List.set_cons_succ]
    refine wpAnyL_ready (rs := [8]) (by kernel_rfl) (by kernel_rfl) (by simp) ?_
    refine AllReadyL.cons (o := ?_) ?_ (fun K hK => ?_) AllReadyL.nil
    case refine_2 => (simp only [List.getElem?_cons_succ, List.getElem?_cons_zero]; rfl)
    go_simp
    (go_at_call 8; (with_reducible refine (New_not HRA.out HRB.out HAI.out HBI.out HNO.out).mono ?_); rintro ee w6 ⟨rfl, ho⟩; replace HB1 := Lib.hid (HB1.out.later ho); replace HB2 := Lib.hid (HB2.out.later ho);  replace HO := Lib.hid (on_new HO.out ho); clear ho)
    go_wp2_with (fail)
    clear hHeld
    refine hK.out _ _ ⟨box_two HB1.out, box_three HB2.out⟩ (fun hHeld => ?_)
    clear hK K
    try simp only [Act.put, List.setIfInBounds_toArray, List.set_cons_zero, List.set_cons_succ]
    refine oneA 9 20 hsel (h := ?_)
    simp only [Act.put, List.setIfInBounds_toArray, List.set_cons_zero, List.set_cons_succ]
    refine oneA 10 30 hsel (h := ?_)
    simp only [Act.put, List.setIfInBounds_toArray, List.set_cons_zero, List.set_cons_succ]
    refine oneA 11 31 hsel (h := ?_)
    simp only [Act.put, List.setIfInBounds_toArray, List.set_cons_zero, List.set_cons_succ]
    refine oneA 12 7 hsel (h := ?_)
    simp only [Act.put, List.setIfInBounds_toArray, List.set_cons_zero, List.set_cons_succ]
    refine oneA 13 8 hsel (h := ?_)
    simp only [Act.put, List.setIfInBounds_toArray, List.set_cons_zero, List.set_cons_succ]
    refine wpAnyL_done (by kernel_rfl) (by kernel_rfl) ?_ _
    clear hsel hHeld
    go_wp2_with (go_at_call 7; (with_reducible refine (alive_c _).mono ?_); rintro e w9 ⟨rfl, ho⟩; replace HO := Lib.hid (on_new HO.out ho); clear ho)
    go_ret
    exact ⟨rfl, HO.out⟩
  · have HF := Lib.hid hf
    have HFW : Hid (∀ W, Only (w.heap.size ≤ ·) w W → Calls Try.prog 14 #[.agg #[.slice A nn cc, .slice B mm dd], .int .i64 p, .slice C n c] W (Told W (.bool false))) := Lib.hid fun W hW => (HFWS.out W hW).mono fun e w' ⟨⟨r, r1, r2⟩, r3⟩ => ⟨by rw [r1, Bool.eq_false_iff.2 fun e => HF.out (r2.1 e)], r3⟩
    clear h hf
    go_enter Try.func4, Try.ntmps4
    go_upto_region 1 with (fail)
    rw [← HEQ.out.1, ← HEQ.out.2.2, ← HEQ.out.2.1]
    obtain ⟨q0, q1⟩ := box_two HB1.out
    obtain ⟨r0, r1, r2⟩ := box_three HB2.out
    go_wp2_with (first
      | (go_at_call 14; (with_reducible refine (HFW.out _ HO.out).mono ?_); rintro e w1 ⟨rfl, ho⟩; replace HB1 := Lib.hid (HB1.out.later ho); replace HB2 := Lib.hid (HB2.out.later ho); replace HO := Lib.hid (on_new HO.out ho); clear ho)
      | (go_at_call 7; (with_reducible refine (alive_c _).mono ?_); rintro e w9 ⟨rfl, ho⟩; replace HO := Lib.hid (on_new HO.out ho); clear ho))
    go_ret
    exact ⟨rfl, HO.out⟩

set_option maxRecDepth 100000 in
set_option maxHeartbeats 25600000 in
theorem states_main (w : World) (A B C : Option Addr) (nn cc mm dd n c : Nat) (a b : List R) (t p lim : Int) (l : List OpD) (ha : Row w (.slice A nn cc) a) (hb : Row w (.slice B mm dd) b) (hai : ∀ x ∈ a, I64 x) (hbi : ∀ x ∈ b, I64 x) (hla : a.length ≤ 2000000) (hlb : b.length ≤ 2000000) (hl : Os w C l) (hn : l.length = n) (hln : n ≤ 20000000) (hli : ∀ o ∈ l, I64o o) (ht : t ≤ 9223372036854775807) (hf : FewOk a b p l) (hno : NewOk a b t p lim) :
    Calls Try.prog 4 #[.agg #[.slice A nn cc, .slice B mm dd], .agg #[.int .i64 t, .int .i64 p, .int .i64 lim], .slice C n c] w (Told w (.bool true)) := by
  obtain ⟨w2, hw2⟩ : ∃ w2, w2 = (w.alloc (.cells #[.slice A nn cc, .slice B mm dd] 40)).alloc (.cells #[.int .i64 t, .int .i64 p, .int .i64 lim] 41) := ⟨_, rfl⟩
  obtain ⟨b1, hb1⟩ : ∃ b1, b1 = w.heap.size := ⟨_, rfl⟩
  obtain ⟨b2, hb2⟩ : ∃ b2, b2 = w.heap.size + 1 := ⟨_, rfl⟩
  have HB1 : Hid (Blk w2 b1 40 [.slice A nn cc, .slice B mm dd]) := Lib.hid (by rw [hw2, hb1]; exact (Blk.new w _ [.slice A nn cc, .slice B mm dd]).alloc _)
  have HB2 : Hid (Blk w2 b2 41 [.int .i64 t, .int .i64 p, .int .i64 lim]) := Lib.hid (by
    rw [hw2, hb2]
    have := Blk.new (w.alloc (.cells #[.slice A nn cc, .slice B mm dd] 40)) 41 [.int .i64 t, .int .i64 p, .int .i64 lim]
    rwa [show (w.alloc (.cells #[.slice A nn cc, .slice B mm dd] 40)).heap.size = w.heap.size + 1 by simp] at this)
  have HO : Hid (Only (w.heap.size ≤ ·) w w2) := Lib.hid (by rw [hw2]; exact ((Only.refl _ w).alloc (fun _ h => h) _).alloc (fun _ h => h) _)
  have HEQ : Hid (w2 = (w.alloc (.cells #[.slice A nn cc, .slice B mm dd] 40)).alloc (.cells #[.int .i64 t, .int .i64 p, .int .i64 lim] 41) ∧ b1 = w.heap.size ∧ b2 = w.heap.size + 1) := Lib.hid ⟨hw2, hb1, hb2⟩
  have HLEN : Hid (a.length ≤ 2000000 ∧ b.length ≤ 2000000) := Lib.hid ⟨hla, hlb⟩
  have HOF : Hid (∀ W, Only (w.heap.size ≤ ·) w W → Calls Try.prog 15 #[.agg #[.slice A nn cc, .slice B mm dd]] W (OfSt W a b)) := Lib.hid fun W hW => pOf_c W A B nn cc mm dd a b (ha.later hW) (hb.later hW) hla hlb
  have HFWS : Hid (∀ W, Only (w.heap.size ≤ ·) w W → Calls Try.prog 14 #[.agg #[.slice A nn cc, .slice B mm dd], .int .i64 p, .slice C n c] W (FewSays W a b p l)) := Lib.hid fun W hW => pfew_c W A B C nn cc mm dd n c a b p l (ha.later hW) (hb.later hW) (hl.later hW) hn hla hlb hln
  have HAI := Lib.hid hai
  have HBI := Lib.hid hbi
  have HF := Lib.hid hf
  have HFW : Hid (∀ W, Only (w.heap.size ≤ ·) w W → Calls Try.prog 14 #[.agg #[.slice A nn cc, .slice B mm dd], .int .i64 p, .slice C n c] W (Told W (.bool true))) := Lib.hid fun W hW => (HFWS.out W hW).mono fun e w' ⟨⟨r, r1, r2⟩, r3⟩ => ⟨by rw [r1, r2.2 HF.out], r3⟩
  have HNO := Lib.hid hno
  have HOS := Lib.hid hl
  have HNL := Lib.hid hn
  have HTB := Lib.hid ht
  have HI := Lib.hid hli
  have HN60 : Hid (n ≤ 60) := Lib.hid (by rw [← hn]; exact hf.2.2.1)
  clear ha hb hai hbi hla hlb hw2 hb1 hb2 hf hno hn hl ht hln hli
  go_enter Try.func4, Try.ntmps4
  go_upto_region 1 with (fail)
  rw [← HEQ.out.1, ← HEQ.out.2.2, ← HEQ.out.2.1]
  obtain ⟨q0, q1⟩ := box_two HB1.out
  obtain ⟨r0, r1, r2⟩ := box_three HB2.out
  go_upto_region 3 with (go_at_call 14; (with_reducible refine (HFW.out _ HO.out).mono ?_); rintro e w1 ⟨rfl, ho⟩; replace HB1 := Lib.hid (HB1.out.later ho); replace HB2 := Lib.hid (HB2.out.later ho); replace HO := Lib.hid (on_new HO.out ho); clear ho)
  replace HB1 := Lib.hid HB1.out.drew
  replace HB2 := Lib.hid HB2.out.drew
  replace HO := Lib.hid HO.out.drew
  refine wp_region_list (B := [false, false, false, false, false, false, false, false, false, false, false, false, false, false]) (S := (fun W => (W.cell? ⟨b1, 0, none⟩ = some (.slice A nn cc) ∧ W.cell? ⟨b1, 1, none⟩ = some (.slice B mm dd)) ∧ W.cell? ⟨b2, 0, none⟩ = some (.int .i64 t) ∧ W.cell? ⟨b2, 1, none⟩ = some (.int .i64 p) ∧ W.cell? ⟨b2, 2, none⟩ = some (.int .i64 lim))) (by kernel_rfl) (by kernel_rfl) (by kernel_rfl) ⟨box_two HB1.out, box_three HB2.out⟩ (fun hsel hHeld => ?_)
  generalize hwz : World.drew _ = wz at HB1 HB2 HO hHeld ⊢
  clear hwz
  refine oneA 0 21 hsel (h := ?_)
  simp only [Act.put, List.setIfInBounds_toArray, List.set_cons_zero, List.set_cons_succ]
  refine oneA 2 23 hsel (h := ?_)
  simp only [Act.put, List.setIfInBounds_toArray, List.set_cons_zero, List.set_cons_succ]
  refine oneA 3 24 hsel (h := ?_)
  simp only [Act.put, List.setIfInBounds_toArray, List.set_cons_zero, List.set_cons_succ]
  refine oneA 4 25 hsel (h := ?_)
  simp only [Act.put, List.setIfInBounds_toArray, List.set_cons_zero, List.set_cons_succ]
  refine oneA 5 26 hsel (h := ?_)
  simp only [Act.put, List.setIfInBounds_toArray, List.set_cons_zero, List.set_cons_succ]
  refine oneA 6 27 hsel (h := ?_)
  simp only [Act.put, List.setIfInBounds_toArray, List.set_cons_zero, List.set_cons_succ]
  refine oneA 7 28 hsel (h := ?_)
  simp only [Act.put, List.setIfInBounds_toArray, List.set_cons_zero, List.set_cons_succ]
  refine wpAnyL_ready (rs := [1]) (by kernel_rfl) (by kernel_rfl) (by simp) ?_
  refine AllReadyL.cons (o := ?_) ?_ (fun K hK => ?_) AllReadyL.nil
  case refine_2 => (simp only [List.getElem?_cons_succ, List.getElem?_cons_zero]; rfl)
  go_simp
  (go_at_call 15; (with_reducible refine (HOF.out _ HO.out).mono ?_); rintro ee w5 ⟨A5, n5, c5, B5, m5, d5, rfl, hra, hrb, ho⟩; have HRA := Lib.hid hra; have HRB := Lib.hid hrb; replace HB1 := Lib.hid (HB1.out.later ho); replace HB2 := Lib.hid (HB2.out.later ho); replace HO := Lib.hid (on_new HO.out ho); clear hra hrb ho)
  go_wp2_with (fail)
  clear hHeld
  refine hK.out _ _ ⟨box_two HB1.out, box_three HB2.out⟩ (fun hHeld => ?_)
  clear hK K
  try simp only [Act.put, List.setIfInBounds_toArray, List.set_cons_zero, List.set_cons_succ]
  refine wpAnyL_ready (rs := [8]) (by kernel_rfl) (by kernel_rfl) (by simp) ?_
  refine AllReadyL.cons (o := ?_) ?_ (fun K hK => ?_) AllReadyL.nil
  case refine_2 => (simp only [List.getElem?_cons_succ, List.getElem?_cons_zero]; rfl)
  go_simp
  (go_at_call 8; have HB2P := Lib.hid HB2.out.lt; (with_reducible refine (New_ok _ A5 B5 n5 c5 m5 d5 a b t p lim HRA.out HRB.out HTB.out HNO.out).mono ?_); rintro ee w6 ⟨pb, mb, rfl, hp, hm, hat, ho⟩; replace HB1 := Lib.hid (HB1.out.later ho); replace HB2 := Lib.hid (HB2.out.later ho); have HP := Lib.hid hat; have HG : Hid (w.heap.size ≤ pb ∧ w.heap.size ≤ mb) := Lib.hid ⟨Nat.le_trans HO.out.size hp, Nat.le_trans HO.out.size hm⟩; have HBG : Hid (b2 ≠ pb ∧ b2 ≠ mb) := Lib.hid ⟨Nat.ne_of_lt (Nat.lt_of_lt_of_le HB2P.out hp), Nat.ne_of_lt (Nat.lt_of_lt_of_le HB2P.out hm)⟩; clear hp hm hat; replace HO := Lib.hid (on_new HO.out ho); clear ho)
  go_wp2_with (fail)
  clear hHeld
  refine hK.out _ _ ⟨box_two HB1.out, box_three HB2.out⟩ (fun hHeld => ?_)
  clear hK K
  try simp only [Act.put, List.setIfInBounds_toArray, List.set_cons_zero, List.set_cons_succ]
  refine oneA 9 20 hsel (h := ?_)
  simp only [Act.put, List.setIfInBounds_toArray, List.set_cons_zero, List.set_cons_succ]
  refine oneA 10 30 hsel (h := ?_)
  simp only [Act.put, List.setIfInBounds_toArray, List.set_cons_zero, List.set_cons_succ]
  refine oneA 11 31 hsel (h := ?_)
  simp only [Act.put, List.setIfInBounds_toArray, List.set_cons_zero, List.set_cons_succ]
  refine oneA 12 7 hsel (h := ?_)
  simp only [Act.put, List.setIfInBounds_toArray, List.set_cons_zero, List.set_cons_succ]
  refine oneA 13 8 hsel (h := ?_)
  simp only [Act.put, List.setIfInBounds_toArray, List.set_cons_zero, List.set_cons_succ]
  refine wpAnyL_done (by kernel_rfl) (by kernel_rfl) ?_ _
  clear hsel hHeld
  go_wp2_with (fail)
  have HOK0 := Lib.hid (NewS_ok HNO.out)
  go_loopg [41] n (fun gk0 i wr => ∃ (k N : Nat) (S : PS), gk0 = n - k ∧ k ≤ n ∧ N ≤ k + 1 ∧ i = .int .i64 k ∧ Hid (At wr pb mb N S) ∧ Hid S.Ok ∧ Hid (S.limit = lim) ∧ Hid (Blk wr b2 41 [.int .i64 t, .int .i64 p, .int .i64 lim]) ∧ Hid (Only (w.heap.size ≤ ·) w wr))
  case atStart => exact ⟨0, 1, _, rfl, Nat.zero_le _, Nat.le_refl _, rfl, HP, HOK0, Lib.hid rfl, HB2, HO⟩
  case round =>
    obtain ⟨k, N, S, rfl, hk, hN, rfl, HP, HOK, HLIM, HB2, HO⟩ := hrel
    by_cases hlt : k < n
    · obtain ⟨g0, off, o, rfl, hg, hx, c0, c1, c2, c3, c4⟩ := (HOS.out.later HO.out).at_ (k := k) (by rw [HNL.out]; exact hlt)
      have hio := HI.out _ (List.mem_of_getElem? hx)
      obtain ⟨ok, ot, on, oa, ol⟩ := o
      have hni : N ≤ 100000 := by have := HN60.out; omega
      have HNI := Lib.hid hni
      have HOT : Hid (-9223372036854775808 ≤ ot ∧ ot ≤ 9223372036854775807) := Lib.hid hio.2.1
      have HON : Hid (-9223372036854775808 ≤ on ∧ on ≤ 9223372036854775807) := Lib.hid hio.2.2.1
      have HOX : Hid (I64 (oa, ol)) := Lib.hid hio.2.2.2
      have hnb : n ≤ 60 := HN60.out
      simp only at c0 c1 c2 c3 c4
      clear hx hg hni hio
      obtain ⟨w3, hw3⟩ : ∃ w3, w3 = wr.alloc (.cells #[.int .i64 ok, .int .i64 ot, .int .i64 on, .int .i64 oa, .int .i64 ol] 47) := ⟨_, rfl⟩
      obtain ⟨b3, hb3⟩ : ∃ b3, b3 = wr.heap.size := ⟨_, rfl⟩
      have HB3 : Hid (Blk w3 b3 47 [.int .i64 ok, .int .i64 ot, .int .i64 on, .int .i64 oa, .int .i64 ol]) := Lib.hid (by rw [hw3, hb3]; exact Blk.new wr _ [.int .i64 ok, .int .i64 ot, .int .i64 on, .int .i64 oa, .int .i64 ol])
      have HNX : Hid (Only (wr.heap.size ≤ ·) wr w3) := Lib.hid (by rw [hw3]; exact (Only.refl _ wr).alloc (fun _ h => h) _)
      have HB3N : Hid (b3 ≠ pb ∧ b3 ≠ mb) := Lib.hid (by have := HP.out.lt; rw [hb3]; omega)
      have HEQ3 : Hid (w3 = wr.alloc (.cells #[.int .i64 ok, .int .i64 ot, .int .i64 on, .int .i64 oa, .int .i64 ol] 47) ∧ b3 = wr.heap.size) := Lib.hid ⟨hw3, hb3⟩
      replace HP := Lib.hid (HP.out.later HNX.out)
      replace HB2 := Lib.hid (HB2.out.later HNX.out)
      replace HO := Lib.hid (on_new HO.out HNX.out)
      clear hw3 hb3
      go_upto_region 9 with (fail)
      rw [← HEQ3.out.1, ← HEQ3.out.2]
      obtain ⟨f0, f1, f2, f3, f4⟩ := box_five HB3.out
      clear c0 c1 c2 c3 c4 HNX
      go_upto_block 2 with (fail)
      go_cut [41] from 41 to 135 (fun y wz => y = .int .i64 k ∧ ((fun wz => ∃ (S' : PS) (N' : Nat), N' ≤ k + 2 ∧ Hid (At wz pb mb N' S') ∧ Hid S'.Ok ∧ Hid (S'.limit = lim) ∧ Hid (Blk wz b2 41 [.int .i64 t, .int .i64 p, .int .i64 lim]) ∧ Hid (Blk wz b3 47 [.int .i64 ok, .int .i64 ot, .int .i64 on, .int .i64 oa, .int .i64 ol]) ∧ Hid (Only (w.heap.size ≤ ·) w wz)) wz))
      case first =>
        by_cases d0 : ok = 0
        · subst d0
          go_wp2_with (go_at_call 16; (with_reducible refine (Take_any HP.out HOK.out HON.out.2).mono ?_); rintro e w14 ⟨v14, S', N', rfl, hn', hat, hok', hl', htc⟩; replace HB2 := Lib.hid (blk_touch2 HB2.out HBG.out htc); replace HB3 := Lib.hid (blk_touch2 HB3.out HB3N.out htc); replace HO := Lib.hid (down_new HO.out htc HG.out.1 HG.out.2); replace HP := Lib.hid hat; replace HOK := Lib.hid hok'; replace HLIM := Lib.hid (hl'.trans HLIM.out); have HN' := Lib.hid hn'; clear hat hok' hl' htc hn')
          go_meet
          case rel => exact ⟨rfl, _, _, by have := HN'.out; omega, HP, HOK, HLIM, HB2, HB3, HO⟩
        ·
          by_cases d1 : ok = 4
          · subst d1
            go_wp2_with (go_at_call 17; (with_reducible refine (Grow_any HP.out HOK.out HON.out.2).mono ?_); rintro e w14 ⟨v14, S', N', rfl, hn', hat, hok', hl', htc⟩; replace HB2 := Lib.hid (blk_touch2 HB2.out HBG.out htc); replace HB3 := Lib.hid (blk_touch2 HB3.out HB3N.out htc); replace HO := Lib.hid (down_new HO.out htc HG.out.1 HG.out.2); replace HP := Lib.hid hat; replace HOK := Lib.hid hok'; replace HLIM := Lib.hid (hl'.trans HLIM.out); have HN' := Lib.hid hn'; clear hat hok' hl' htc hn')
            go_meet
            case rel => exact ⟨rfl, _, _, by have := HN'.out; omega, HP, HOK, HLIM, HB2, HB3, HO⟩
          ·
            by_cases d2 : ok = 1
            · subst d2
              go_wp2_with (go_at_call 9; (with_reducible refine (Give_any HP.out HOK.out HOX.out HOT.out.2 HNI.out).mono ?_); rintro e w14 ⟨v14, S', N', rfl, hn', hat, hok', hl', htc⟩; replace HB2 := Lib.hid (blk_touch2 HB2.out HBG.out htc); replace HB3 := Lib.hid (blk_touch2 HB3.out HB3N.out htc); replace HO := Lib.hid (down_new HO.out htc HG.out.1 HG.out.2); replace HP := Lib.hid hat; replace HOK := Lib.hid hok'; replace HLIM := Lib.hid (hl'.trans HLIM.out); have HN' := Lib.hid hn'; clear hat hok' hl' htc hn')
              go_meet
              case rel => exact ⟨rfl, _, _, by have := HN'.out; omega, HP, HOK, HLIM, HB2, HB3, HO⟩
            ·
              by_cases d3 : ok = 2
              · subst d3
                go_wp2_with (go_at_call 10; (with_reducible refine (Settle_any HP.out HOK.out HOT.out HON.out).mono ?_); rintro e w14 ⟨v14, S', N', rfl, hn', hat, hok', hl', htc⟩; replace HB2 := Lib.hid (blk_touch2 HB2.out HBG.out htc); replace HB3 := Lib.hid (blk_touch2 HB3.out HB3N.out htc); replace HO := Lib.hid (down_new HO.out htc HG.out.1 HG.out.2); replace HP := Lib.hid hat; replace HOK := Lib.hid hok'; replace HLIM := Lib.hid (hl'.trans HLIM.out); have HN' := Lib.hid hn'; clear hat hok' hl' htc hn')
                go_meet
                case rel => exact ⟨rfl, _, _, by have := HN'.out; omega, HP, HOK, HLIM, HB2, HB3, HO⟩
              ·
                go_wp2_with (fail)
                go_meet
                case rel => exact ⟨rfl, _, _, by omega, HP, HOK, HLIM, HB2, HB3, HO⟩
      case rest =>
      obtain ⟨rfl, hcut⟩ := hcut
      obtain ⟨S, N', hN', HP, HOK, HLIM, HB2, HB3, HO⟩ := hcut
      obtain ⟨f0, f1, f2, f3, f4⟩ := box_five HB3.out
      by_cases ht0 : ot < 0
      · go_wp2_with (fail)
        go_roundg (n - (k + 1))
        case rel => exact ⟨k + 1, N', S, rfl, by omega, by omega, by go_num, HP, HOK, HLIM, HB2, HO⟩
        case measure => omega
      · have HT0 : Hid (0 ≤ ot) := Lib.hid (by omega)
        obtain ⟨fl, hfl⟩ := HP.out.row
        have HFL := Lib.hid hfl
        obtain ⟨pg, hpg⟩ : ∃ pg, pg = S.pages := ⟨_, rfl⟩
        have HPG := Lib.hid hpg
        clear hfl hpg
        go_upto_region 19 with (fail)
        clear f0 f1 f2 f3 f4
        replace HP := Lib.hid (HP.out.later (Only.refl _ _).drew)
        replace HB2 := Lib.hid HB2.out.drew
        replace HB3 := Lib.hid HB3.out.drew
        replace HO := Lib.hid HO.out.drew
        refine wp_region_list (B := [false, false, false, false, false, false, false, false, false, false, false, false, false, false, false, false]) (S := (fun W => (W.cell? ⟨b3, 1, none⟩ = some (.int .i64 ot)) ∧ W.cell? ⟨b2, 2, none⟩ = some (.int .i64 lim))) (by kernel_rfl) (by kernel_rfl) (by kernel_rfl) ⟨(box_five HB3.out).2.1, (box_three HB2.out).2.2⟩ (fun hsel hHeld => ?_)
        generalize hwz : World.drew _ = wz at HP HB2 HB3 HO hHeld ⊢
        clear hwz
        refine oneA 0 79 hsel (h := ?_)
        simp only [Act.put, List.setIfInBounds_toArray, List.set_cons_zero, List.set_cons_succ]
        refine oneA 1 80 hsel (h := ?_)
        simp only [Act.put, List.setIfInBounds_toArray, List.set_cons_zero, List.set_cons_succ]
        refine oneA 2 81 hsel (h := ?_)
        simp only [Act.put, List.setIfInBounds_toArray, List.set_cons_zero, List.set_cons_succ]
        refine oneA 4 83 hsel (h := ?_)
        simp only [Act.put, List.setIfInBounds_toArray, List.set_cons_zero, List.set_cons_succ]
        refine oneA 5 84 hsel (h := ?_)
        simp only [Act.put, List.setIfInBounds_toArray, List.set_cons_zero, List.set_cons_succ]
        refine oneA 6 85 hsel (h := ?_)
        simp only [Act.put, List.setIfInBounds_toArray, List.set_cons_zero, List.set_cons_succ]
        refine oneA 8 87 hsel (h := ?_)
        simp only [Act.put, List.setIfInBounds_toArray, List.set_cons_zero, List.set_cons_succ]
        refine oneA 9 88 hsel (h := ?_)
        simp only [Act.put, List.setIfInBounds_toArray, List.set_cons_zero, List.set_cons_succ]
        refine wpAnyL_ready (rs := [3]) (by kernel_rfl) (by kernel_rfl) (by simp) ?_
        refine AllReadyL.cons (o := ?_) ?_ (fun K hK => ?_) AllReadyL.nil
        case refine_2 => (simp only [List.getElem?_cons_succ, List.getElem?_cons_zero]; rfl)
        go_simp
        (go_at_call 18; (with_reducible refine (State_c _ pb mb N' S ot HP.out HOK.out HOT.out).mono ?_); rintro e w15 ⟨A1, n1, c1', A2, n2, c2', la, lb, rfl, hra, hrb, hla, hlb, ho⟩; replace HB2 := Lib.hid (HB2.out.later ho); replace HB3 := Lib.hid (HB3.out.later ho); replace HP := Lib.hid (HP.out.later ho); replace HO := Lib.hid (on_new HO.out ho); have HR1 := Lib.hid hra; have HR2 := Lib.hid hrb; have HLA := Lib.hid hla; have HLB := Lib.hid hlb; clear hra hrb hla hlb ho)
        go_wp2_with (fail)
        clear hHeld
        refine hK.out _ _ ⟨(box_five HB3.out).2.1, (box_three HB2.out).2.2⟩ (fun hHeld => ?_)
        clear hK K
        try simp only [Act.put, List.setIfInBounds_toArray, List.set_cons_zero, List.set_cons_succ]
        refine wpAnyL_ready (rs := [7]) (by kernel_rfl) (by kernel_rfl) (by simp) ?_
        refine AllReadyL.cons (o := ?_) ?_ (fun K hK => ?_) AllReadyL.nil
        case refine_2 => (simp only [List.getElem?_cons_succ, List.getElem?_cons_zero]; rfl)
        go_simp
        (go_at_call 19; (with_reducible refine (pages_b HP.out HPG.out).mono ?_); rintro e w16 ⟨rfl, ho⟩; replace HB2 := Lib.hid (HB2.out.later ho); replace HB3 := Lib.hid (HB3.out.later ho); replace HP := Lib.hid (HP.out.later ho); replace HO := Lib.hid (on_new HO.out ho); replace HR1 := Lib.hid (HR1.out.later ho); replace HR2 := Lib.hid (HR2.out.later ho); clear ho)
        go_wp2_with (fail)
        clear hHeld
        refine hK.out _ _ ⟨(box_five HB3.out).2.1, (box_three HB2.out).2.2⟩ (fun hHeld => ?_)
        clear hK K
        try simp only [Act.put, List.setIfInBounds_toArray, List.set_cons_zero, List.set_cons_succ]
        refine wpAnyL_ready (rs := [10]) (by kernel_rfl) (by kernel_rfl) (by simp) ?_
        refine AllReadyL.cons (o := ?_) ?_ (fun K hK => ?_) AllReadyL.nil
        case refine_2 => (simp only [List.getElem?_cons_succ, List.getElem?_cons_zero]; rfl)
        go_simp
        (go_at_call 8; (with_reducible refine (New_ok _ A1 A2 n1 c1' n2 c2' la lb ot pg lim HR1.out HR2.out HOT.out.2 (state_new HOK.out HT0.out HLA.out HLB.out HPG.out HLIM.out)).mono ?_); rintro e w17 ⟨qb, mq, rfl, hqp, hqm, hat, ho⟩; replace HB2 := Lib.hid (HB2.out.later ho); replace HB3 := Lib.hid (HB3.out.later ho); replace HP := Lib.hid (HP.out.later ho); replace HO := Lib.hid (on_new HO.out ho); have HQ := Lib.hid hat; clear hqp hqm hat ho)
        go_wp2_with (fail)
        clear hHeld
        refine hK.out _ _ ⟨(box_five HB3.out).2.1, (box_three HB2.out).2.2⟩ (fun hHeld => ?_)
        clear hK K
        try simp only [Act.put, List.setIfInBounds_toArray, List.set_cons_zero, List.set_cons_succ]
        refine oneA 11 78 hsel (h := ?_)
        simp only [Act.put, List.setIfInBounds_toArray, List.set_cons_zero, List.set_cons_succ]
        refine oneA 12 90 hsel (h := ?_)
        simp only [Act.put, List.setIfInBounds_toArray, List.set_cons_zero, List.set_cons_succ]
        refine oneA 13 91 hsel (h := ?_)
        simp only [Act.put, List.setIfInBounds_toArray, List.set_cons_zero, List.set_cons_succ]
        refine oneA 14 11 hsel (h := ?_)
        simp only [Act.put, List.setIfInBounds_toArray, List.set_cons_zero, List.set_cons_succ]
        refine oneA 15 12 hsel (h := ?_)
        simp only [Act.put, List.setIfInBounds_toArray, List.set_cons_zero, List.set_cons_succ]
        refine wpAnyL_done (by kernel_rfl) (by kernel_rfl) ?_ _
        clear hsel hHeld
        obtain ⟨k1, hk1⟩ : ∃ x, cnt la = x := ⟨_, rfl⟩
        obtain ⟨k2, hk2⟩ : ∃ x, cnt lb = x := ⟨_, rfl⟩
        obtain ⟨k3, hk3⟩ : ∃ x, cnt fl = x := ⟨_, rfl⟩
        have hs1 := cnt_small HLA.out.1
        have hs2 := cnt_small HLB.out.1
        have hs3 := cnt_small HFL.out.1
        have HNO2 := Lib.hid (state_new HOK.out HT0.out HLA.out HLB.out HPG.out HLIM.out)
        have HOKQ := Lib.hid (NewS_ok HNO2.out)
        have HLAQ : Hid (IsRow la (NewS la lb ot pg lim).F) := Lib.hid ⟨HLA.out.1, fun q => Iff.rfl⟩
        have HLBQ : Hid (IsRow lb (fun q => ∃ u, (NewS la lb ot pg lim).H u q)) := Lib.hid ⟨HLB.out.1, fun q => ⟨fun h => ⟨ot, rfl, h⟩, fun ⟨u, h⟩ => h.2⟩⟩
        have HUEQ : Hid (∀ u7 u8 : List R, IsRow u7 (fun q => (S.F q ∨ ∃ u, u ≠ ot ∧ S.H u q) ∨ S.H ot q) → IsRow u8 (fun q => S.F q ∨ ∃ u, S.H u q) → u7 = u8) := Lib.hid fun u7 u8 h7 h8 => h7.eq (h8.congr fun q => by
          constructor
          · rintro (h | ⟨u, h⟩)
            · exact .inl (.inl h)
            · by_cases e : u = ot
              · exact .inr (e ▸ h)
              · exact .inl (.inr ⟨u, e, h⟩)
          · rintro ((h | ⟨u, _, h⟩) | h)
            · exact .inl h
            · exact .inr ⟨u, h⟩
            · exact .inr ⟨ot, h⟩)
        rw [hk1] at hs1
        rw [hk2] at hs2
        rw [hk3] at hs3
        have HRTB : Hid (right lb = true) := Lib.hid HLB.out.1
        have HK1 := Lib.hid hk1
        have HK2 := Lib.hid hk2
        have HK3 := Lib.hid hk3
        have HB0 := Lib.hid hs3
        have hwr1 : IntKind.i64.wrap (k1 + k2) = k1 + k2 := IntWalk.i64_in _ (by omega)
        clear hk1 hk2 hk3 hs1 hs2 hs3
        go_wp2_with (first
          | (go_at_call 12; (with_reducible refine (Free_b HQ.out).mono ?_); rintro e w20 ⟨⟨A1, n1, c1', u1, rfl, hv, hu⟩, ho⟩; rw [hu.eq HLAQ.out] at hv; (try replace HB2 := Lib.hid (HB2.out.later ho)); (try replace HB3 := Lib.hid (HB3.out.later ho)); (try replace HP := Lib.hid (HP.out.later ho)); (try replace HQ := Lib.hid (HQ.out.later ho)); (try replace HO := Lib.hid (on_new HO.out ho)); (try replace HR1 := Lib.hid (HR1.out.later ho)); (try replace HR2 := Lib.hid (HR2.out.later ho)); (try replace HR3 := Lib.hid (HR3.out.later ho)); (try replace HR4 := Lib.hid (HR4.out.later ho)); (try replace HR7 := Lib.hid (HR7.out.later ho)); (try replace HR8 := Lib.hid (HR8.out.later ho)); (try replace HR9 := Lib.hid (HR9.out.later ho)); have HR1 := Lib.hid hv.row; clear hv hu ho)
          | (go_at_call 13; (with_reducible refine (Held_b HQ.out HOKQ.out).mono ?_); rintro e w20 ⟨⟨A1, n1, c1', u1, rfl, hv, hu⟩, ho⟩; rw [hu.eq HLBQ.out] at hv; (try replace HB2 := Lib.hid (HB2.out.later ho)); (try replace HB3 := Lib.hid (HB3.out.later ho)); (try replace HP := Lib.hid (HP.out.later ho)); (try replace HQ := Lib.hid (HQ.out.later ho)); (try replace HO := Lib.hid (on_new HO.out ho)); (try replace HR1 := Lib.hid (HR1.out.later ho)); (try replace HR2 := Lib.hid (HR2.out.later ho)); (try replace HR3 := Lib.hid (HR3.out.later ho)); (try replace HR4 := Lib.hid (HR4.out.later ho)); (try replace HR7 := Lib.hid (HR7.out.later ho)); (try replace HR8 := Lib.hid (HR8.out.later ho)); (try replace HR9 := Lib.hid (HR9.out.later ho)); have HR2 := Lib.hid hv.row; clear hv hu ho)
          | (go_at_call 20; (with_reducible refine (Count_b HR1.out HLA.out HLA.out _ HK1.out).mono ?_); rintro e w22 ⟨rfl, ho⟩; (try replace HB2 := Lib.hid (HB2.out.later ho)); (try replace HB3 := Lib.hid (HB3.out.later ho)); (try replace HP := Lib.hid (HP.out.later ho)); (try replace HQ := Lib.hid (HQ.out.later ho)); (try replace HO := Lib.hid (on_new HO.out ho)); (try replace HR1 := Lib.hid (HR1.out.later ho)); (try replace HR2 := Lib.hid (HR2.out.later ho)); (try replace HR3 := Lib.hid (HR3.out.later ho)); (try replace HR4 := Lib.hid (HR4.out.later ho)); (try replace HR7 := Lib.hid (HR7.out.later ho)); (try replace HR8 := Lib.hid (HR8.out.later ho)); (try replace HR9 := Lib.hid (HR9.out.later ho)); clear ho)
          | (go_at_call 20; (with_reducible refine (Count_b HR2.out HLB.out HLB.out _ HK2.out).mono ?_); rintro e w22 ⟨rfl, ho⟩; (try replace HB2 := Lib.hid (HB2.out.later ho)); (try replace HB3 := Lib.hid (HB3.out.later ho)); (try replace HP := Lib.hid (HP.out.later ho)); (try replace HQ := Lib.hid (HQ.out.later ho)); (try replace HO := Lib.hid (on_new HO.out ho)); (try replace HR1 := Lib.hid (HR1.out.later ho)); (try replace HR2 := Lib.hid (HR2.out.later ho)); (try replace HR3 := Lib.hid (HR3.out.later ho)); (try replace HR4 := Lib.hid (HR4.out.later ho)); (try replace HR7 := Lib.hid (HR7.out.later ho)); (try replace HR8 := Lib.hid (HR8.out.later ho)); (try replace HR9 := Lib.hid (HR9.out.later ho)); clear ho)
          | (go_at_call 12; (with_reducible refine (Free_b HP.out).mono ?_); rintro e w20 ⟨⟨A1, n1, c1', u1, rfl, hv, hu⟩, ho⟩; rw [hu.eq HFL.out] at hv; (try replace HB2 := Lib.hid (HB2.out.later ho)); (try replace HB3 := Lib.hid (HB3.out.later ho)); (try replace HP := Lib.hid (HP.out.later ho)); (try replace HQ := Lib.hid (HQ.out.later ho)); (try replace HO := Lib.hid (on_new HO.out ho)); (try replace HR1 := Lib.hid (HR1.out.later ho)); (try replace HR2 := Lib.hid (HR2.out.later ho)); (try replace HR3 := Lib.hid (HR3.out.later ho)); (try replace HR4 := Lib.hid (HR4.out.later ho)); (try replace HR7 := Lib.hid (HR7.out.later ho)); (try replace HR8 := Lib.hid (HR8.out.later ho)); (try replace HR9 := Lib.hid (HR9.out.later ho)); have HR3 := Lib.hid hv.row; clear hv hu ho)
          | (go_at_call 20; (with_reducible refine (Count_b HR3.out HFL.out HFL.out _ HK3.out).mono ?_); rintro e w22 ⟨rfl, ho⟩; (try replace HB2 := Lib.hid (HB2.out.later ho)); (try replace HB3 := Lib.hid (HB3.out.later ho)); (try replace HP := Lib.hid (HP.out.later ho)); (try replace HQ := Lib.hid (HQ.out.later ho)); (try replace HO := Lib.hid (on_new HO.out ho)); (try replace HR1 := Lib.hid (HR1.out.later ho)); (try replace HR2 := Lib.hid (HR2.out.later ho)); (try replace HR3 := Lib.hid (HR3.out.later ho)); (try replace HR4 := Lib.hid (HR4.out.later ho)); (try replace HR7 := Lib.hid (HR7.out.later ho)); (try replace HR8 := Lib.hid (HR8.out.later ho)); (try replace HR9 := Lib.hid (HR9.out.later ho)); clear ho)
          | (go_at_call 13; (with_reducible refine (Held_b HP.out HOK.out).mono ?_); rintro e w20 ⟨⟨A1, n1, c1', u1, rfl, hv, hu⟩, ho⟩; rw [hu.eq HHL.out] at hv; (try replace HB2 := Lib.hid (HB2.out.later ho)); (try replace HB3 := Lib.hid (HB3.out.later ho)); (try replace HP := Lib.hid (HP.out.later ho)); (try replace HQ := Lib.hid (HQ.out.later ho)); (try replace HO := Lib.hid (on_new HO.out ho)); (try replace HR1 := Lib.hid (HR1.out.later ho)); (try replace HR2 := Lib.hid (HR2.out.later ho)); (try replace HR3 := Lib.hid (HR3.out.later ho)); (try replace HR4 := Lib.hid (HR4.out.later ho)); (try replace HR7 := Lib.hid (HR7.out.later ho)); (try replace HR8 := Lib.hid (HR8.out.later ho)); (try replace HR9 := Lib.hid (HR9.out.later ho)); have HR4 := Lib.hid hv.row; clear hv hu ho)
          | (go_at_call 13; (with_reducible refine (Held_b HP.out HOK.out).mono ?_); rintro e w21 ⟨⟨A4, n4, c4', hl, rfl, hv, hu⟩, ho⟩; (try replace HB2 := Lib.hid (HB2.out.later ho)); (try replace HB3 := Lib.hid (HB3.out.later ho)); (try replace HP := Lib.hid (HP.out.later ho)); (try replace HQ := Lib.hid (HQ.out.later ho)); (try replace HO := Lib.hid (on_new HO.out ho)); (try replace HR1 := Lib.hid (HR1.out.later ho)); (try replace HR2 := Lib.hid (HR2.out.later ho)); (try replace HR3 := Lib.hid (HR3.out.later ho)); (try replace HR4 := Lib.hid (HR4.out.later ho)); (try replace HR7 := Lib.hid (HR7.out.later ho)); (try replace HR8 := Lib.hid (HR8.out.later ho)); (try replace HR9 := Lib.hid (HR9.out.later ho)); have HR4 := Lib.hid hv.row; have HHL := Lib.hid hu; have hsum := state_counts HOK.out HLA.out HLB.out HFL.out hu; obtain ⟨k4, hk4⟩ : ∃ x, cnt hl = x := ⟨_, rfl⟩; rw [HK1.out, HK2.out, HK3.out, hk4] at hsum; have HK4 := Lib.hid hk4; have hwr2 : IntKind.i64.wrap (k3 + k4) = k3 + k4 := IntWalk.i64_in _ (by have := cnt_small hu.1; have := HB0.out; rw [hk4] at *; omega); clear hv hu ho hk4)
          | (go_at_call 20; (with_reducible refine (Count_b HR4.out HHL.out HHL.out _ HK4.out).mono ?_); rintro e w22 ⟨rfl, ho⟩; (try replace HB2 := Lib.hid (HB2.out.later ho)); (try replace HB3 := Lib.hid (HB3.out.later ho)); (try replace HP := Lib.hid (HP.out.later ho)); (try replace HQ := Lib.hid (HQ.out.later ho)); (try replace HO := Lib.hid (on_new HO.out ho)); (try replace HR1 := Lib.hid (HR1.out.later ho)); (try replace HR2 := Lib.hid (HR2.out.later ho)); (try replace HR3 := Lib.hid (HR3.out.later ho)); (try replace HR4 := Lib.hid (HR4.out.later ho)); (try replace HR7 := Lib.hid (HR7.out.later ho)); (try replace HR8 := Lib.hid (HR8.out.later ho)); (try replace HR9 := Lib.hid (HR9.out.later ho)); clear ho)
          | (go_at_call 23; (with_reducible refine (Union_b HR1.out HR2.out HLA.out HLB.out).mono ?_); rintro e w23 ⟨⟨A7, n7, c7', u7, rfl, hv, hu⟩, ho⟩; (try replace HB2 := Lib.hid (HB2.out.later ho)); (try replace HB3 := Lib.hid (HB3.out.later ho)); (try replace HP := Lib.hid (HP.out.later ho)); (try replace HQ := Lib.hid (HQ.out.later ho)); (try replace HO := Lib.hid (on_new HO.out ho)); (try replace HR1 := Lib.hid (HR1.out.later ho)); (try replace HR2 := Lib.hid (HR2.out.later ho)); (try replace HR3 := Lib.hid (HR3.out.later ho)); (try replace HR4 := Lib.hid (HR4.out.later ho)); (try replace HR7 := Lib.hid (HR7.out.later ho)); (try replace HR8 := Lib.hid (HR8.out.later ho)); (try replace HR9 := Lib.hid (HR9.out.later ho)); have HR7 := Lib.hid hv.row; have HU7 := Lib.hid hu; have HLN7 := Lib.hid (row_len hu); clear hv hu ho)
          | (go_at_call 22; (with_reducible refine (old_b HR7.out HLN7.out).mono ?_); rintro e w24 ⟨⟨A9, n9, c9', rfl, hv⟩, ho⟩; (try replace HB2 := Lib.hid (HB2.out.later ho)); (try replace HB3 := Lib.hid (HB3.out.later ho)); (try replace HP := Lib.hid (HP.out.later ho)); (try replace HQ := Lib.hid (HQ.out.later ho)); (try replace HO := Lib.hid (on_new HO.out ho)); (try replace HR1 := Lib.hid (HR1.out.later ho)); (try replace HR2 := Lib.hid (HR2.out.later ho)); (try replace HR3 := Lib.hid (HR3.out.later ho)); (try replace HR4 := Lib.hid (HR4.out.later ho)); (try replace HR7 := Lib.hid (HR7.out.later ho)); (try replace HR8 := Lib.hid (HR8.out.later ho)); (try replace HR9 := Lib.hid (HR9.out.later ho)); have HR9 := Lib.hid hv; clear hv ho)
          | (go_at_call 23; (with_reducible refine (Union_b HR3.out HR4.out HFL.out HHL.out).mono ?_); rintro e w23 ⟨⟨A8, n8, c8', u8, rfl, hv, hu⟩, ho⟩; (try replace HB2 := Lib.hid (HB2.out.later ho)); (try replace HB3 := Lib.hid (HB3.out.later ho)); (try replace HP := Lib.hid (HP.out.later ho)); (try replace HQ := Lib.hid (HQ.out.later ho)); (try replace HO := Lib.hid (on_new HO.out ho)); (try replace HR1 := Lib.hid (HR1.out.later ho)); (try replace HR2 := Lib.hid (HR2.out.later ho)); (try replace HR3 := Lib.hid (HR3.out.later ho)); (try replace HR4 := Lib.hid (HR4.out.later ho)); (try replace HR7 := Lib.hid (HR7.out.later ho)); (try replace HR8 := Lib.hid (HR8.out.later ho)); (try replace HR9 := Lib.hid (HR9.out.later ho)); have HR8 := Lib.hid hv.row; have HU8 := Lib.hid hu; have HLN8 := Lib.hid (row_len hu); clear hv hu ho)
          | (go_at_call 22; (with_reducible refine (old_b HR8.out HLN8.out).mono ?_); rintro e w24 ⟨⟨A10, n10, c10', rfl, hv⟩, ho⟩; (try replace HB2 := Lib.hid (HB2.out.later ho)); (try replace HB3 := Lib.hid (HB3.out.later ho)); (try replace HP := Lib.hid (HP.out.later ho)); (try replace HQ := Lib.hid (HQ.out.later ho)); (try replace HO := Lib.hid (on_new HO.out ho)); (try replace HR1 := Lib.hid (HR1.out.later ho)); (try replace HR2 := Lib.hid (HR2.out.later ho)); (try replace HR3 := Lib.hid (HR3.out.later ho)); (try replace HR4 := Lib.hid (HR4.out.later ho)); (try replace HR7 := Lib.hid (HR7.out.later ho)); (try replace HR8 := Lib.hid (HR8.out.later ho)); (try replace HR9 := Lib.hid (HR9.out.later ho)); have HR1b := Lib.hid hv; have HUE : Hid (u7 = u8) := Lib.hid (HUEQ.out u7 u8 HU7.out HU8.out); clear hv ho)
          | (go_at_call 21; (with_reducible refine (same_t HR9.out HR1b.out HUE.out).mono ?_); rintro e w25 ⟨rfl, ho⟩; (try replace HB2 := Lib.hid (HB2.out.later ho)); (try replace HB3 := Lib.hid (HB3.out.later ho)); (try replace HP := Lib.hid (HP.out.later ho)); (try replace HQ := Lib.hid (HQ.out.later ho)); (try replace HO := Lib.hid (on_new HO.out ho)); (try replace HR1 := Lib.hid (HR1.out.later ho)); (try replace HR2 := Lib.hid (HR2.out.later ho)); (try replace HR3 := Lib.hid (HR3.out.later ho)); (try replace HR4 := Lib.hid (HR4.out.later ho)); (try replace HR7 := Lib.hid (HR7.out.later ho)); (try replace HR8 := Lib.hid (HR8.out.later ho)); (try replace HR9 := Lib.hid (HR9.out.later ho)); clear ho)
          | (go_at_call 24; (with_reducible refine (right_t HR2.out HRTB.out).mono ?_); rintro e w26 ⟨rfl, ho⟩; (try replace HB2 := Lib.hid (HB2.out.later ho)); (try replace HB3 := Lib.hid (HB3.out.later ho)); (try replace HP := Lib.hid (HP.out.later ho)); (try replace HQ := Lib.hid (HQ.out.later ho)); (try replace HO := Lib.hid (on_new HO.out ho)); (try replace HR1 := Lib.hid (HR1.out.later ho)); (try replace HR2 := Lib.hid (HR2.out.later ho)); (try replace HR3 := Lib.hid (HR3.out.later ho)); (try replace HR4 := Lib.hid (HR4.out.later ho)); (try replace HR7 := Lib.hid (HR7.out.later ho)); (try replace HR8 := Lib.hid (HR8.out.later ho)); (try replace HR9 := Lib.hid (HR9.out.later ho)); clear ho))
        go_roundg (n - (k + 1))
        case rel => exact ⟨k + 1, N', S, rfl, by omega, by omega, by go_num, HP, HOK, HLIM, HB2, HO⟩
        case measure => omega
    · obtain rfl : k = n := by omega
      have hkm : ¬ (k : Int) < (k : Int) := by omega
      go_wp2_with (go_at_call 7; (with_reducible refine (alive_c _).mono ?_); rintro e w9 ⟨rfl, ho⟩; replace HO := Lib.hid (on_new HO.out ho); clear ho)
      go_ret
      exact ⟨rfl, HO.out⟩
end Go.Proofs.Ytmadlckladohbaa
