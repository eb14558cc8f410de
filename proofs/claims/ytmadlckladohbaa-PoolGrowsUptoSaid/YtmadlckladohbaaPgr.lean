/-
  PoolGrows: the walk.
-/
import Derived.Test.YtmadlckladohbaaPlw
set_option linter.unusedVariables false
namespace Go.Proofs.Ytmadlckladohbaa
open Go.RowKit Go.Shelf

set_option maxRecDepth 100000 in
set_option maxHeartbeats 6400000 in
theorem grows_early (w : World) (A B C : Option Addr) (nn cc mm dd n c : Nat) (a b : List R) (t p lim : Int) (zs : List Int) (ha : Row w (.slice A nn cc) a) (hb : Row w (.slice B mm dd) b) (hai : ∀ x ∈ a, I64 x) (hbi : ∀ x ∈ b, I64 x) (hla : a.length ≤ 2000000) (hlb : b.length ≤ 2000000) (hz : Ns w C zs) (hn : zs.length = n) (hnm : n ≤ 9223372036854775807) (ht : t ≤ 9223372036854775807) (h : ¬ FewOk a b p [] ∨ 60 < n ∨ ¬ NewOk a b t p lim) :
    Calls Try.prog 5 #[.agg #[.slice A nn cc, .slice B mm dd], .agg #[.int .i64 t, .int .i64 p, .int .i64 lim], .slice C n c] w (Told w (.bool true)) := by
  obtain ⟨w2, hw2⟩ : ∃ w2, w2 = (w.alloc (.cells #[.slice A nn cc, .slice B mm dd] 40)).alloc (.cells #[.int .i64 t, .int .i64 p, .int .i64 lim] 41) := ⟨_, rfl⟩
  obtain ⟨b1, hb1⟩ : ∃ b1, b1 = w.heap.size := ⟨_, rfl⟩
  obtain ⟨b2, hb2⟩ : ∃ b2, b2 = w.heap.size + 1 := ⟨_, rfl⟩
  have HB1 : Hid (Blk w2 b1 40 [.slice A nn cc, .slice B mm dd]) := Lib.hid (by rw [hw2, hb1]; exact (Blk.new w _ [.slice A nn cc, .slice B mm dd]).alloc _)
  have HB2 : Hid (Blk w2 b2 41 [.int .i64 t, .int .i64 p, .int .i64 lim]) := Lib.hid (by
    rw [hw2, hb2]
    have := Blk.new (w.alloc (.cells #[.slice A nn cc, .slice B mm dd] 40)) 41 [.int .i64 t, .int .i64 p, .int .i64 lim]
    rwa [show (w.alloc (.cells #[.slice A nn cc, .slice B mm dd] 40)).heap.size = w.heap.size + 1 by simp] at this)
  have HO : Hid (Only (w.heap.size ≤ ·) w w2) := Lib.hid (by rw [hw2]; exact ((Only.refl _ w).alloc (fun _ h => h) _).alloc (fun _ h => h) _)
  have HEQ : Hid (w2 = (w.alloc (.cells #[.slice A nn cc, .slice B mm dd] 40)).alloc (.cells #[.int .i64 t, .int .i64 p, .int .i64 lim] 41) ∧ b1 = w.heap.size ∧ b2 = w.heap.size + 1) := Lib.hid ⟨hw2, hb1, hb2⟩
  have HLEN : Hid (a.length ≤ 2000000 ∧ b.length ≤ 2000000) := Lib.hid ⟨hla, hlb⟩
  have HOF : Hid (∀ W, Only (w.heap.size ≤ ·) w W → Calls Try.prog 15 #[.agg #[.slice A nn cc, .slice B mm dd]] W (OfSt W a b)) := Lib.hid fun W hW => pOf_c W A B nn cc mm dd a b (ha.later hW) (hb.later hW) hla hlb
  have HFWS : Hid (∀ W, Only (w.heap.size ≤ ·) w W → Calls Try.prog 14 #[.agg #[.slice A nn cc, .slice B mm dd], .int .i64 p, .slice none 0 0] W (FewSays W a b p [])) := Lib.hid fun W hW => pfew_c W A B none nn cc mm dd 0 0 a b p [] (ha.later hW) (hb.later hW) (Os.nil_ _ _) rfl hla hlb (by decide)
  have HAI := Lib.hid hai
  have HBI := Lib.hid hbi
  clear ha hb hai hbi hla hlb hw2 hb1 hb2 hz
  by_cases hf : FewOk a b p []
  · have HF := Lib.hid hf
    have HFW : Hid (∀ W, Only (w.heap.size ≤ ·) w W → Calls Try.prog 14 #[.agg #[.slice A nn cc, .slice B mm dd], .int .i64 p, .slice none 0 0] W (Told W (.bool true))) := Lib.hid fun W hW => (HFWS.out W hW).mono fun e w' ⟨⟨r, r1, r2⟩, r3⟩ => ⟨by rw [r1, r2.2 HF.out], r3⟩
    by_cases h60 : 60 < n
    · have h60' : (60 : Int) < (n : Int) := by omega
      clear h hf hn
      go_enter Try.func5, Try.ntmps5
      go_upto_region 1 with (fail)
      rw [← HEQ.out.1, ← HEQ.out.2.2, ← HEQ.out.2.1]
      obtain ⟨q0, q1⟩ := box_two HB1.out
      obtain ⟨r0, r1, r2⟩ := box_three HB2.out
      go_wp2_with (first
        | (go_at_call 14; (with_reducible refine (HFW.out _ HO.out).mono ?_); rintro e w1 ⟨rfl, ho⟩; replace HB1 := Lib.hid (HB1.out.later ho); replace HB2 := Lib.hid (HB2.out.later ho); replace HO := Lib.hid (on_new HO.out ho); clear ho)
        | (go_at_call 7; (with_reducible refine (alive_c _).mono ?_); rintro e w9 ⟨rfl, ho⟩; replace HO := Lib.hid (on_new HO.out ho); clear ho))
      go_ret
      exact ⟨rfl, HO.out⟩
    · have h60' : ¬ (60 : Int) < (n : Int) := by omega
      have HNO : Hid (¬ NewOk a b t p lim) := Lib.hid (h.resolve_left (fun h => h hf) |>.resolve_left h60)
      clear h hf hn
      go_enter Try.func5, Try.ntmps5
      go_upto_region 1 with (fail)
      rw [← HEQ.out.1, ← HEQ.out.2.2, ← HEQ.out.2.1]
      obtain ⟨q0, q1⟩ := box_two HB1.out
      obtain ⟨r0, r1, r2⟩ := box_three HB2.out
      go_upto_region 3 with (go_at_call 14; (with_reducible refine (HFW.out _ HO.out).mono ?_); rintro e w1 ⟨rfl, ho⟩; replace HB1 := Lib.hid (HB1.out.later ho); replace HB2 := Lib.hid (HB2.out.later ho); replace HO := Lib.hid (on_new HO.out ho); clear ho)
      replace HB1 := Lib.hid HB1.out.drew
      replace HB2 := Lib.hid HB2.out.drew
      replace HO := Lib.hid HO.out.drew
      refine wp_region_list (B := [false, false, false, false, false, false, false, false, false, false, false, false, false, false]) (S := (fun W => (W.cell? ⟨b1, 0, none⟩ = some (.slice A nn cc) ∧ W.cell? ⟨b1, 1, none⟩ = some (.slice B mm dd)) ∧ W.cell? ⟨b2, 0, none⟩ = some (.int .i64 t) ∧ W.cell? ⟨b2, 1, none⟩ = some (.int .i64 p) ∧ W.cell? ⟨b2, 2, none⟩ = some (.int .i64 lim))) (by kernel_rfl) (by kernel_rfl) (by kernel_rfl) ⟨box_two HB1.out, box_three HB2.out⟩ (fun hsel hHeld => ?_)
      generalize hwz : World.drew _ = wz at HB1 HB2 HO hHeld ⊢
      clear hwz
      refine oneA 0 30 hsel (h := ?_)
      simp only [Act.put, List.setIfInBounds_toArray, List.set_cons_zero, List.set_cons_succ]
      refine oneA 2 32 hsel (h := ?_)
      simp only [Act.put, List.setIfInBounds_toArray, List.set_cons_zero, List.set_cons_succ]
      refine oneA 3 33 hsel (h := ?_)
      simp only [Act.put, List.setIfInBounds_toArray, List.set_cons_zero, List.set_cons_succ]
      refine oneA 4 34 hsel (h := ?_)
      simp only [Act.put, List.setIfInBounds_toArray, List.set_cons_zero, List.set_cons_succ]
      refine oneA 5 35 hsel (h := ?_)
      simp only [Act.put, List.setIfInBounds_toArray, List.set_cons_zero, List.set_cons_succ]
      refine oneA 6 36 hsel (h := ?_)
      simp only [Act.put, List.setIfInBounds_toArray, List.set_cons_zero, List.set_cons_succ]
      refine oneA 7 37 hsel (h := ?_)
      simp only [Act.put, List.setIfInBounds_toArray, List.set_cons_zero, List.set_cons_succ]
      refine wpAnyL_ready (rs := [1]) (by kernel_rfl) (by kernel_rfl) (by simp) ?_
      refine AllReadyL.cons (o := ?_) ?_ (fun K hK => ?_) AllReadyL.nil
      case refine_2 => (simp only [List.getElem?_cons_succ, List.getElem?_cons_zero]; rfl)
      go_simp
      (go_at_call 15; (with_reducible refine (HOF.out _ HO.out).mono ?_); rintro ee w5 ⟨A5, n5, c5, B5, m5, d5, rfl, hra, hrb, ho⟩; have HRA := Lib.hid hra; have HRB := Lib.hid hrb; replace HB1 := Lib.hid (HB1.out.later ho); replace HB2 := Lib.hid (HB2.out.later ho); replace HO := Lib.hid (on_new HO.out ho); clear hra hrb ho)
      go_wp2_with (fail)
      clear hHeld
      refine hK.out _ _ ⟨box_two HB1.out, box_three HB2.out⟩ (fun hHeld => ?_)
      clear hK K
      try simp only [Act.put, List.setIfInBounds_toArray, List.set_cons_zero, List.set_cons_succ]
      refine wpAnyL_ready (rs := [8]) (by kernel_rfl) (by kernel_rfl) (by simp) ?_
      refine AllReadyL.cons (o := ?_) ?_ (fun K hK => ?_) AllReadyL.nil
      case refine_2 => (simp only [List.getElem?_cons_succ, List.getElem?_cons_zero]; rfl)
      go_simp
      (go_at_call 8; (with_reducible refine (New_not HRA.out HRB.out HAI.out HBI.out HNO.out).mono ?_); rintro ee w6 ⟨rfl, ho⟩; replace HB1 := Lib.hid (HB1.out.later ho); replace HB2 := Lib.hid (HB2.out.later ho);  replace HO := Lib.hid (on_new HO.out ho); clear ho)
      go_wp2_with (fail)
      clear hHeld
      refine hK.out _ _ ⟨box_two HB1.out, box_three HB2.out⟩ (fun hHeld => ?_)
      clear hK K
      try simp only [Act.put, List.setIfInBounds_toArray, List.set_cons_zero, List.set_cons_succ]
      refine oneA 9 29 hsel (h := ?_)
      simp only [Act.put, List.setIfInBounds_toArray, List.set_cons_zero, List.set_cons_succ]
      refine oneA 10 39 hsel (h := ?_)
      simp only [Act.put, List.setIfInBounds_toArray, List.set_cons_zero, List.set_cons_succ]
      refine oneA 11 40 hsel (h := ?_)
      simp only [Act.put, List.setIfInBounds_toArray, List.set_cons_zero, List.set_cons_succ]
      refine oneA 12 7 hsel (h := ?_)
      simp only [Act.put, List.setIfInBounds_toArray, List.set_cons_zero, List.set_cons_succ]
      refine oneA 13 8 hsel (h := ?_)
      simp only [Act.put, List.setIfInBounds_toArray, List.set_cons_zero, List.set_cons_succ]
      refine wpAnyL_done (by kernel_rfl) (by kernel_rfl) ?_ _
      clear hsel hHeld
      go_wp2_with (go_at_call 7; (with_reducible refine (alive_c _).mono ?_); rintro e w9 ⟨rfl, ho⟩; replace HO := Lib.hid (on_new HO.out ho); clear ho)
      go_ret
      exact ⟨rfl, HO.out⟩
  · have HF := Lib.hid hf
    have HFW : Hid (∀ W, Only (w.heap.size ≤ ·) w W → Calls Try.prog 14 #[.agg #[.slice A nn cc, .slice B mm dd], .int .i64 p, .slice none 0 0] W (Told W (.bool false))) := Lib.hid fun W hW => (HFWS.out W hW).mono fun e w' ⟨⟨r, r1, r2⟩, r3⟩ => ⟨by rw [r1, Bool.eq_false_iff.2 fun e => HF.out (r2.1 e)], r3⟩
    clear h hf hn
    go_enter Try.func5, Try.ntmps5
    go_upto_region 1 with (fail)
    rw [← HEQ.out.1, ← HEQ.out.2.2, ← HEQ.out.2.1]
    obtain ⟨q0, q1⟩ := box_two HB1.out
    obtain ⟨r0, r1, r2⟩ := box_three HB2.out
    go_wp2_with (first
      | (go_at_call 14; (with_reducible refine (HFW.out _ HO.out).mono ?_); rintro e w1 ⟨rfl, ho⟩; replace HB1 := Lib.hid (HB1.out.later ho); replace HB2 := Lib.hid (HB2.out.later ho); replace HO := Lib.hid (on_new HO.out ho); clear ho)
      | (go_at_call 7; (with_reducible refine (alive_c _).mono ?_); rintro e w9 ⟨rfl, ho⟩; replace HO := Lib.hid (on_new HO.out ho); clear ho))
    go_ret
    exact ⟨rfl, HO.out⟩

set_option maxRecDepth 100000 in
set_option maxHeartbeats 12800000 in
theorem grows_main (w : World) (A B C : Option Addr) (nn cc mm dd n c : Nat) (a b : List R) (t p lim : Int) (zs : List Int) (ha : Row w (.slice A nn cc) a) (hb : Row w (.slice B mm dd) b) (hai : ∀ x ∈ a, I64 x) (hbi : ∀ x ∈ b, I64 x) (hla : a.length ≤ 2000000) (hlb : b.length ≤ 2000000) (hz : Ns w C zs) (hn : zs.length = n) (hnm : n ≤ 9223372036854775807) (ht : t ≤ 9223372036854775807) (hf : FewOk a b p []) (h60 : ¬ 60 < n) (hno : NewOk a b t p lim) :
    Calls Try.prog 5 #[.agg #[.slice A nn cc, .slice B mm dd], .agg #[.int .i64 t, .int .i64 p, .int .i64 lim], .slice C n c] w (Told w (.bool true)) := by
  obtain ⟨w2, hw2⟩ : ∃ w2, w2 = (w.alloc (.cells #[.slice A nn cc, .slice B mm dd] 40)).alloc (.cells #[.int .i64 t, .int .i64 p, .int .i64 lim] 41) := ⟨_, rfl⟩
  obtain ⟨b1, hb1⟩ : ∃ b1, b1 = w.heap.size := ⟨_, rfl⟩
  obtain ⟨b2, hb2⟩ : ∃ b2, b2 = w.heap.size + 1 := ⟨_, rfl⟩
  have HB1 : Hid (Blk w2 b1 40 [.slice A nn cc, .slice B mm dd]) := Lib.hid (by rw [hw2, hb1]; exact (Blk.new w _ [.slice A nn cc, .slice B mm dd]).alloc _)
  have HB2 : Hid (Blk w2 b2 41 [.int .i64 t, .int .i64 p, .int .i64 lim]) := Lib.hid (by
    rw [hw2, hb2]
    have := Blk.new (w.alloc (.cells #[.slice A nn cc, .slice B mm dd] 40)) 41 [.int .i64 t, .int .i64 p, .int .i64 lim]
    rwa [show (w.alloc (.cells #[.slice A nn cc, .slice B mm dd] 40)).heap.size = w.heap.size + 1 by simp] at this)
  have HO : Hid (Only (w.heap.size ≤ ·) w w2) := Lib.hid (by rw [hw2]; exact ((Only.refl _ w).alloc (fun _ h => h) _).alloc (fun _ h => h) _)
  have HEQ : Hid (w2 = (w.alloc (.cells #[.slice A nn cc, .slice B mm dd] 40)).alloc (.cells #[.int .i64 t, .int .i64 p, .int .i64 lim] 41) ∧ b1 = w.heap.size ∧ b2 = w.heap.size + 1) := Lib.hid ⟨hw2, hb1, hb2⟩
  have HLEN : Hid (a.length ≤ 2000000 ∧ b.length ≤ 2000000) := Lib.hid ⟨hla, hlb⟩
  have HOF : Hid (∀ W, Only (w.heap.size ≤ ·) w W → Calls Try.prog 15 #[.agg #[.slice A nn cc, .slice B mm dd]] W (OfSt W a b)) := Lib.hid fun W hW => pOf_c W A B nn cc mm dd a b (ha.later hW) (hb.later hW) hla hlb
  have HFWS : Hid (∀ W, Only (w.heap.size ≤ ·) w W → Calls Try.prog 14 #[.agg #[.slice A nn cc, .slice B mm dd], .int .i64 p, .slice none 0 0] W (FewSays W a b p [])) := Lib.hid fun W hW => pfew_c W A B none nn cc mm dd 0 0 a b p [] (ha.later hW) (hb.later hW) (Os.nil_ _ _) rfl hla hlb (by decide)
  have HAI := Lib.hid hai
  have HBI := Lib.hid hbi
  have HF := Lib.hid hf
  have HFW : Hid (∀ W, Only (w.heap.size ≤ ·) w W → Calls Try.prog 14 #[.agg #[.slice A nn cc, .slice B mm dd], .int .i64 p, .slice none 0 0] W (Told W (.bool true))) := Lib.hid fun W hW => (HFWS.out W hW).mono fun e w' ⟨⟨r, r1, r2⟩, r3⟩ => ⟨by rw [r1, r2.2 HF.out], r3⟩
  have h60' : ¬ (60 : Int) < (n : Int) := by omega
  have HNO := Lib.hid hno
  have HNS := Lib.hid hz
  have HNL := Lib.hid hn
  have HTB := Lib.hid ht
  clear ha hb hai hbi hla hlb hw2 hb1 hb2 hf hno hn hz ht
  go_enter Try.func5, Try.ntmps5
  go_upto_region 1 with (fail)
  rw [← HEQ.out.1, ← HEQ.out.2.2, ← HEQ.out.2.1]
  obtain ⟨q0, q1⟩ := box_two HB1.out
  obtain ⟨r0, r1, r2⟩ := box_three HB2.out
  go_upto_region 3 with (go_at_call 14; (with_reducible refine (HFW.out _ HO.out).mono ?_); rintro e w1 ⟨rfl, ho⟩; replace HB1 := Lib.hid (HB1.out.later ho); replace HB2 := Lib.hid (HB2.out.later ho); replace HO := Lib.hid (on_new HO.out ho); clear ho)
  replace HB1 := Lib.hid HB1.out.drew
  replace HB2 := Lib.hid HB2.out.drew
  replace HO := Lib.hid HO.out.drew
  refine wp_region_list (B := [false, false, false, false, false, false, false, false, false, false, false, false, false, false]) (S := (fun W => (W.cell? ⟨b1, 0, none⟩ = some (.slice A nn cc) ∧ W.cell? ⟨b1, 1, none⟩ = some (.slice B mm dd)) ∧ W.cell? ⟨b2, 0, none⟩ = some (.int .i64 t) ∧ W.cell? ⟨b2, 1, none⟩ = some (.int .i64 p) ∧ W.cell? ⟨b2, 2, none⟩ = some (.int .i64 lim))) (by kernel_rfl) (by kernel_rfl) (by kernel_rfl) ⟨box_two HB1.out, box_three HB2.out⟩ (fun hsel hHeld => ?_)
  generalize hwz : World.drew _ = wz at HB1 HB2 HO hHeld ⊢
  clear hwz
  refine oneA 0 30 hsel (h := ?_)
  simp only [Act.put, List.setIfInBounds_toArray, List.set_cons_zero, List.set_cons_succ]
  refine oneA 2 32 hsel (h := ?_)
  simp only [Act.put, List.setIfInBounds_toArray, List.set_cons_zero, List.set_cons_succ]
  refine oneA 3 33 hsel (h := ?_)
  simp only [Act.put, List.setIfInBounds_toArray, List.set_cons_zero, List.set_cons_succ]
  refine oneA 4 34 hsel (h := ?_)
  simp only [Act.put, List.setIfInBounds_toArray, List.set_cons_zero, List.set_cons_succ]
  refine oneA 5 35 hsel (h := ?_)
  simp only [Act.put, List.setIfInBounds_toArray, List.set_cons_zero, List.set_cons_succ]
  refine oneA 6 36 hsel (h := ?_)
  simp only [Act.put, List.setIfInBounds_toArray, List.set_cons_zero, List.set_cons_succ]
  refine oneA 7 37 hsel (h := ?_)
  simp only [Act.put, List.setIfInBounds_toArray, List.set_cons_zero, List.set_cons_succ]
  refine wpAnyL_ready (rs := [1]) (by kernel_rfl) (by kernel_rfl) (by simp) ?_
  refine AllReadyL.cons (o := ?_) ?_ (fun K hK => ?_) AllReadyL.nil
  case refine_2 => (simp only [List.getElem?_cons_succ, List.getElem?_cons_zero]; rfl)
  go_simp
  (go_at_call 15; (with_reducible refine (HOF.out _ HO.out).mono ?_); rintro ee w5 ⟨A5, n5, c5, B5, m5, d5, rfl, hra, hrb, ho⟩; have HRA := Lib.hid hra; have HRB := Lib.hid hrb; replace HB1 := Lib.hid (HB1.out.later ho); replace HB2 := Lib.hid (HB2.out.later ho); replace HO := Lib.hid (on_new HO.out ho); clear hra hrb ho)
  go_wp2_with (fail)
  clear hHeld
  refine hK.out _ _ ⟨box_two HB1.out, box_three HB2.out⟩ (fun hHeld => ?_)
  clear hK K
  try simp only [Act.put, List.setIfInBounds_toArray, List.set_cons_zero, List.set_cons_succ]
  refine wpAnyL_ready (rs := [8]) (by kernel_rfl) (by kernel_rfl) (by simp) ?_
  refine AllReadyL.cons (o := ?_) ?_ (fun K hK => ?_) AllReadyL.nil
  case refine_2 => (simp only [List.getElem?_cons_succ, List.getElem?_cons_zero]; rfl)
  go_simp
  (go_at_call 8; (with_reducible refine (New_ok _ A5 B5 n5 c5 m5 d5 a b t p lim HRA.out HRB.out HTB.out HNO.out).mono ?_); rintro ee w6 ⟨pb, mb, rfl, hp, hm, hat, ho⟩; replace HB1 := Lib.hid (HB1.out.later ho); replace HB2 := Lib.hid (HB2.out.later ho); have HP := Lib.hid hat; have HG : Hid (w.heap.size ≤ pb ∧ w.heap.size ≤ mb) := Lib.hid ⟨Nat.le_trans HO.out.size hp, Nat.le_trans HO.out.size hm⟩; clear hp hm hat; replace HO := Lib.hid (on_new HO.out ho); clear ho)
  go_wp2_with (fail)
  clear hHeld
  refine hK.out _ _ ⟨box_two HB1.out, box_three HB2.out⟩ (fun hHeld => ?_)
  clear hK K
  try simp only [Act.put, List.setIfInBounds_toArray, List.set_cons_zero, List.set_cons_succ]
  refine oneA 9 29 hsel (h := ?_)
  simp only [Act.put, List.setIfInBounds_toArray, List.set_cons_zero, List.set_cons_succ]
  refine oneA 10 39 hsel (h := ?_)
  simp only [Act.put, List.setIfInBounds_toArray, List.set_cons_zero, List.set_cons_succ]
  refine oneA 11 40 hsel (h := ?_)
  simp only [Act.put, List.setIfInBounds_toArray, List.set_cons_zero, List.set_cons_succ]
  refine oneA 12 7 hsel (h := ?_)
  simp only [Act.put, List.setIfInBounds_toArray, List.set_cons_zero, List.set_cons_succ]
  refine oneA 13 8 hsel (h := ?_)
  simp only [Act.put, List.setIfInBounds_toArray, List.set_cons_zero, List.set_cons_succ]
  refine wpAnyL_done (by kernel_rfl) (by kernel_rfl) ?_ _
  clear hsel hHeld
  go_wp2_with (fail)
  have HOK0 := Lib.hid (NewS_ok HNO.out)
  go_loopw [50] (fun i wr => ∃ (k : Nat) (S : PS), k ≤ n ∧ i = .int .i64 k ∧ Hid (At wr pb mb 1 S) ∧ Hid S.Ok ∧ Hid (Only (w.heap.size ≤ ·) w wr)) (fun i _ => n - (intOf i).toNat)
  case atStart => exact ⟨0, _, Nat.zero_le _, rfl, HP, HOK0, HO⟩
  case round =>
    obtain ⟨k, S, hk, rfl, HP, HOK, HO⟩ := hrel
    by_cases hlt : k < n
    · obtain ⟨g, off, m, rfl, hx, hc⟩ := (HNS.out.later HO.out).at_ (k := k) (by rw [HNL.out]; exact hlt)
      clear hx
      by_cases d1 : m < 1
      · go_wp2
        go_roundw
        case rel => exact ⟨k + 1, S, by omega, by go_num, HP, HOK, HO⟩
        case measure => simp [intOf]; omega
      · by_cases d2 : 60 < m
        · go_wp2
          go_roundw
          case rel => exact ⟨k + 1, S, by omega, by go_num, HP, HOK, HO⟩
          case measure => simp [intOf]; omega
        · obtain ⟨fl, hfl⟩ := HP.out.row
          have HFL := Lib.hid hfl
          obtain ⟨pg, hpg⟩ : ∃ pg, pg = S.pages := ⟨_, rfl⟩
          have HPG := Lib.hid hpg
          have hpr : 2 ≤ pg ∧ pg ≤ 16384 := by rw [hpg]; exact ⟨HOK.out.lo, Int.le_trans HOK.out.hi HOK.out.top⟩
          clear hfl hpg
          rcases first_or fl m with hnr | ⟨kf, r, hfr⟩
          · obtain ⟨a0, hta⟩ := tail_is HOK.out HFL.out
            have ha2 := tail_two HOK.out hta
            have ha3 : a0 ≤ pg := by rw [HPG.out]; exact hta.2.2.1
            have HTA := Lib.hid hta
            have HNR := Lib.hid hnr
            have hgt : pg < a0 + m := by rw [HPG.out]; exact noroom_tail HFL.out hnr (by omega) hta
            clear hta hnr
            by_cases hbig : m ≤ S.limit - a0
            · have HBIG := Lib.hid hbig
              clear hbig
              have e1 : decide (pg + m < a0 + m) = false := decide_eq_false (by omega)
              have e2 : decide (a0 < 2) = false := decide_eq_false (by omega)
              have hok' := grew_ok HOK.out (a := a0) (m := m) (by rw [← HPG.out]; omega) HBIG.out
              have HOK' := Lib.hid hok'
              clear hok'
              have HM1 : Hid (1 ≤ m) := Lib.hid (by omega)
              have HFI : Hid (∀ y ∈ fl, I64 y) := Lib.hid (i64_of HFL.out.1)
              go_wp2_with (first
                | (go_at_call 19; (with_reducible refine (pages_b HP.out HPG.out).mono ?_); rintro e w11 ⟨rfl, ho⟩; replace HP := Lib.hid (HP.out.later ho); replace HO := Lib.hid (on_new HO.out ho); clear ho)
                | (go_at_call 12; (with_reducible refine (Free_b HP.out).mono ?_); rintro e w12 ⟨⟨A1, n1, c1, u1, rfl, hv, hu⟩, ho⟩; obtain rfl := hu.eq HFL.out; have HR1 := Lib.hid hv.row; have HF1 := Lib.hid (own_off hv HP.out.lt.1); replace HP := Lib.hid (HP.out.later ho); replace HO := Lib.hid (on_new HO.out ho); clear hv hu ho)
                | (go_at_call 25; (with_reducible refine (Take_no _ _ _ m HR1.out HFI.out HNR.out).mono ?_); rintro e w13 ⟨⟨A2, n2, c2, rfl⟩, ho⟩; replace HR1 := Lib.hid (HR1.out.later ho); replace HP := Lib.hid (HP.out.later ho); replace HO := Lib.hid (on_new HO.out ho); clear ho)
                | (go_at_call 16; (with_reducible refine (tk_grow HP.out HOK.out HFL.out HM1.out HNR.out HTA.out HBIG.out).mono ?_); rintro e w14 ⟨rfl, ha4, ht4⟩; replace HP : Hid (At w14 pb mb 1 (GrewS S a0 m)) := Lib.hid ha4; replace HO := Lib.hid (down_new HO.out ht4 HG.out.1 HG.out.2); clear ha4 ht4)
                | (go_at_call 19; (with_reducible refine (pages_b HP.out (show a0 + m = (GrewS S a0 m).pages from rfl)).mono ?_); rintro e w15 ⟨rfl, ho⟩; replace HP := Lib.hid (HP.out.later ho); replace HO := Lib.hid (on_new HO.out ho); clear ho))
              go_roundw
              case rel => exact ⟨k + 1, _, by omega, by go_num, HP, HOK', HO⟩
              case measure => simp [intOf]; omega
            · have HBIG : Hid (S.limit - a0 < m) := Lib.hid (by omega)
              clear hbig
              have e1 : decide (pg + m < pg) = false := decide_eq_false (by omega)
              have HM1 : Hid (1 ≤ m) := Lib.hid (by omega)
              have HFI : Hid (∀ y ∈ fl, I64 y) := Lib.hid (i64_of HFL.out.1)
              have HLL : Hid (fl.length ≤ 1000000) := Lib.hid (row_len HFL.out)
              have HMB : Hid (m ≤ 9223372036854775807) := Lib.hid (by omega)
              go_wp2_with (first
                | (go_at_call 19; (with_reducible refine (pages_b HP.out HPG.out).mono ?_); rintro e w15 ⟨rfl, ho⟩; (try replace HR1 := Lib.hid (HR1.out.later ho)); replace HP := Lib.hid (HP.out.later ho); replace HO := Lib.hid (on_new HO.out ho); clear ho)
                | (go_at_call 12; (with_reducible refine (Free_b HP.out).mono ?_); rintro e w16 ⟨⟨A3, n3, c3, u3, rfl, hv, hu⟩, ho⟩; obtain rfl := hu.eq HFL.out; have HR3 := Lib.hid hv.row; replace HR1 := Lib.hid (HR1.out.later ho); replace HP := Lib.hid (HP.out.later ho); replace HO := Lib.hid (on_new HO.out ho); clear hv hu ho)
                | (go_at_call 12; (with_reducible refine (Free_b HP.out).mono ?_); rintro e w12 ⟨⟨A1, n1, c1, u1, rfl, hv, hu⟩, ho⟩; obtain rfl := hu.eq HFL.out; have HR1 := Lib.hid hv.row; have HF1 := Lib.hid (own_off hv HP.out.lt.1); replace HP := Lib.hid (HP.out.later ho); replace HO := Lib.hid (on_new HO.out ho); clear hv hu ho)
                | (go_at_call 25; (with_reducible refine (Take_no _ _ _ m HR1.out HFI.out HNR.out).mono ?_); rintro e w13 ⟨⟨A2, n2, c2, rfl⟩, ho⟩; replace HR1 := Lib.hid (HR1.out.later ho); replace HP := Lib.hid (HP.out.later ho); replace HO := Lib.hid (on_new HO.out ho); clear ho)
                | (go_at_call 16; (with_reducible refine (tk_full HP.out HOK.out HFL.out ⟨HM1.out, HMB.out⟩ HNR.out HTA.out HBIG.out).mono ?_); rintro e w14 ⟨rfl, ho⟩; replace HR1 := Lib.hid (HR1.out.later ho); replace HP := Lib.hid (HP.out.later ho); replace HO := Lib.hid (on_new HO.out ho); clear ho)
                | (go_at_call 22; (with_reducible refine (old_b HR3.out HLL.out).mono ?_); rintro e w17 ⟨⟨A4, n4, c4, rfl, hv⟩, ho⟩; have HR4 := Lib.hid hv; replace HR1 := Lib.hid (HR1.out.later ho); replace HP := Lib.hid (HP.out.later ho); replace HO := Lib.hid (on_new HO.out ho); clear hv ho)
                | (go_at_call 22; (with_reducible refine (old_b HR1.out HLL.out).mono ?_); rintro e w18 ⟨⟨A6, n6, c6, rfl, hv⟩, ho⟩; have HR6 := Lib.hid hv; replace HR4 := Lib.hid (HR4.out.later ho); replace HP := Lib.hid (HP.out.later ho); replace HO := Lib.hid (on_new HO.out ho); clear hv ho)
                | (go_at_call 21; (with_reducible refine (same_t HR4.out HR6.out rfl).mono ?_); rintro e w19 ⟨rfl, ho⟩; replace HP := Lib.hid (HP.out.later ho); replace HO := Lib.hid (on_new HO.out ho); clear ho))
              go_roundw
              case rel => exact ⟨k + 1, _, by omega, by go_num, HP, HOK, HO⟩
              case measure => simp [intOf]; omega
          · obtain ⟨f1, f2, f3, f4⟩ := first_at HOK.out HFL.out hfr
            rw [← HPG.out] at f2
            have HFR := Lib.hid hfr
            obtain ⟨r1', r2'⟩ := r
            simp only at f1 f2 f3
            clear hfr f4
            have e1 : decide (pg + m < pg) = false := decide_eq_false (by omega)
            have e2 : decide (r1' < 2) = false := decide_eq_false (by omega)
            have e3 : decide (pg < r1' + m) = false := decide_eq_false (by omega)
            have HOK' := Lib.hid (took_ok HOK.out r1' m)
            have HM1 : Hid (1 ≤ m) := Lib.hid (by omega)
            have HFI : Hid (∀ y ∈ fl, I64 y) := Lib.hid (i64_of HFL.out.1)
            go_wp2_with (first
              | (go_at_call 19; (with_reducible refine (pages_b HP.out HPG.out).mono ?_); rintro e w11 ⟨rfl, ho⟩; replace HP := Lib.hid (HP.out.later ho); replace HO := Lib.hid (on_new HO.out ho); clear ho)
              | (go_at_call 12; (with_reducible refine (Free_b HP.out).mono ?_); rintro e w12 ⟨⟨A1, n1, c1, u1, rfl, hv, hu⟩, ho⟩; obtain rfl := hu.eq HFL.out; have HR1 := Lib.hid hv.row; have HF1 := Lib.hid (own_off hv HP.out.lt.1); replace HP := Lib.hid (HP.out.later ho); replace HO := Lib.hid (on_new HO.out ho); clear hv hu ho)
              | (go_at_call 25; (with_reducible refine (Take_yes _ _ _ m kf (r1', r2') HR1.out HFI.out HFR.out).mono ?_); rintro e w13 ⟨⟨A2, n2, c2, u2, rfl, hv2, hu2⟩, ho⟩; replace HR1 := Lib.hid (HR1.out.later ho); replace HP := Lib.hid (HP.out.later ho); replace HO := Lib.hid (on_new HO.out ho); clear ho hv2 hu2)
              | (go_at_call 16; (with_reducible refine (tk_yes HP.out HFL.out HFR.out).mono ?_); rintro e w14 ⟨rfl, ha4, ht4⟩; replace HP : Hid (At w14 pb mb 1 (TookS S r1' m)) := Lib.hid ha4; replace HO := Lib.hid (down_new HO.out ht4 HG.out.1 HG.out.2); clear ha4 ht4)
              | (go_at_call 19; (with_reducible refine (pages_b HP.out (show pg = (TookS S r1' m).pages from HPG.out)).mono ?_); rintro e w15 ⟨rfl, ho⟩; replace HP := Lib.hid (HP.out.later ho); replace HO := Lib.hid (on_new HO.out ho); clear ho))
            go_roundw
            case rel => exact ⟨k + 1, _, by omega, by go_num, HP, HOK', HO⟩
            case measure => simp [intOf]; omega
    · obtain rfl : k = n := by omega
      have hkm : ¬ (k : Int) < (k : Int) := by omega
      go_wp2_with (go_at_call 7; (with_reducible refine (alive_c _).mono ?_); rintro e w9 ⟨rfl, ho⟩; replace HO := Lib.hid (on_new HO.out ho); clear ho)
      go_ret
      exact ⟨rfl, HO.out⟩
end Go.Proofs.Ytmadlckladohbaa
