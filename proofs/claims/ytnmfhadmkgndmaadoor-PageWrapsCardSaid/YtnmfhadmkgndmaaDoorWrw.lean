/-
  bytes.HasPrefix; PageWraps: the walk.
-/
import Derived.Test.YtnmfhadmkgndmaaDoorRwr
import Derived.Test.YtnmfhadmkgndmaaDoorPhw
set_option linter.unusedVariables false
namespace Go.Proofs.YtnmfhadmkgndmaaDoor
open Go.RowKit

set_option maxRecDepth 100000 in
theorem HasPrefix_c (w : World) (A B : Option Addr) (n m c k : Nat) (xs ys : Bytes) (h1 : Src w (.slice A n c) xs) (h2 : Src w (.slice B m k) ys) (hm : m ≤ n) (he : xs.take m = ys) :
    Calls Tryd.prog 19 #[.slice A n c, .slice B m k] w fun e w' => e = .returned (.bool true) ∧ w = w' := by
  have hn : n = xs.length := by
    obtain ⟨A', c', hv, _⟩ := h1
    injection hv
  have hm' : m = ys.length := by
    obtain ⟨A', c', hv, _⟩ := h2
    injection hv
  have HT1 : Hid (Src w (.slice A m c) ys) := by
    obtain ⟨A', c', hv, ht, h3, h4, h5⟩ := h1
    injection hv with e1 e2 e3
    subst e1 e3
    refine Lib.hid ⟨A, c, by rw [hm'], ?_, h3, by omega, h5⟩
    rcases Nat.eq_zero_or_pos ys.length with h0 | h0
    · obtain rfl : ys = [] := List.eq_nil_of_length_eq_zero h0
      exact Txt.nil_ _ _
    · obtain ⟨ad, rfl, _⟩ := ht.2 (by omega)
      have := ht.take m (by omega)
      rw [he, hm'] at this
      exact this
  have HT2 := Lib.hid h2
  have hnc : n ≤ c := by
    obtain ⟨A', c', hv, _, _, h4, _⟩ := h1
    injection hv with e1 e2 e3
    subst e3
    omega
  have i1 : (m : Int) ≤ (n : Int) := by omega
  have i2 : (m : Int) ≤ (c : Int) := by omega
  have i3 : (0 : Int) ≤ (m : Int) := by omega
  clear h1 h2 he hn hm'
  go_enter Tryd.func19, Tryd.ntmps19
  go_wp2_with (go_at_call 15; (with_reducible refine (Equal_b _ _ _ ys ys true HT1.out HT2.out (by simp)).mono ?_); rintro e w' ⟨rfl, rfl⟩)
  go_ret
  exact ⟨rfl, rfl⟩
/-- Bytes came back, as many as told, and a number. -/
def GaveL (w : World) (L : Nat) (xs : Bytes) (z : Int) (e : Ending) (w' : World) : Prop := ∃ R c, e = .returned (.tuple #[.slice R L c, .int .i64 z]) ∧ Src w' (.slice R L c) xs ∧ Only (w.heap.size ≤ ·) w w'
theorem GaveBE.len {w w' : World} {xs : Bytes} {z : Int} {e : Ending} {L : Nat} (h : GaveBE w xs z e w') (hL : L = xs.length) : GaveL w L xs z e w' := by
  obtain ⟨v, h1, h2, h3⟩ := h
  subst hL
  have h20 := h2
  obtain ⟨A, c, rfl, _⟩ := h2
  exact ⟨A, c, h1, h20, h3⟩
section
variable (hal : ∀ W, Gens W → Calls Tryd.prog 11 #[] W (Told W (.bool true))) (w : World) (k g n x : Int) (A : Option Addr) (m c : Nat) (hG : Gens w)
include hal hG
set_option maxRecDepth 100000 in
set_option maxHeartbeats 3200000 in
theorem wraps_few (hm : ¬ m ≤ 2000) : Calls Tryd.prog 4 #[.agg #[.int .i64 k, .int .i64 g, .int .i64 n, .int .i64 x], .slice A m c] w (Told w (.bool true)) := by
  have HAL : Hid (∀ W, Only (w.heap.size ≤ ·) w W → Calls Tryd.prog 11 #[] W (Told W (.bool true))) := Lib.hid fun W hW => hal W (hG.later hW)
  have HO : Hid (Only (w.heap.size ≤ ·) w (w.alloc (.cells #[.int .i64 k, .int .i64 g, .int .i64 n, .int .i64 x] 30))) := Lib.hid ((Only.refl _ w).alloc (fun _ h => h) _)
  have HFW : Hid (∀ W, Calls Tryd.prog 10 #[.slice A m c] W fun e w' => e = .returned (.bool false) ∧ W = w') := Lib.hid fun W => few_c W A m c false (decide_eq_false hm)
  clear hm hG hal
  go_enter Tryd.func4, Tryd.ntmps4
  go_wp2_with (first
    | (go_at_call 10; (with_reducible refine (HFW.out _).mono ?_); rintro ee w1 ⟨rfl, rfl⟩)
    | (go_at_call 11; (with_reducible refine (HAL.out _ HO.out).mono ?_); rintro ee w2 ⟨rfl, ho⟩; (replace HO := Lib.hid (on_new HO.out ho)); clear ho))
  go_ret
  exact ⟨rfl, HO.out⟩
set_option maxRecDepth 100000 in
set_option maxHeartbeats 6400000 in
theorem wraps_err (Bv : Bytes) (L : Nat) (z : Int) (hz : z ≠ 0) (hL : L = 0) (hm : m ≤ 2000)
    (hP : ∀ W, Only (w.heap.size ≤ ·) w W → Calls Tryd.prog 17 #[.agg #[.int .i64 k, .int .i64 g, .int .i64 n, .int .i64 x], .slice A m c] W (GaveL W L Bv z)) (hR : ∀ W, Only (w.heap.size ≤ ·) w W → Calls Tryd.prog 18 #[.agg #[.int .i64 k, .int .i64 g, .int .i64 n, .int .i64 x], .slice A m c] W (GaveL W L Bv z)) :
    Calls Tryd.prog 4 #[.agg #[.int .i64 k, .int .i64 g, .int .i64 n, .int .i64 x], .slice A m c] w (Told w (.bool true)) := by
  subst hL
  have HAL : Hid (∀ W, Only (w.heap.size ≤ ·) w W → Calls Tryd.prog 11 #[] W (Told W (.bool true))) := Lib.hid fun W hW => hal W (hG.later hW)
  obtain ⟨w1, hw1⟩ : ∃ w1, w1 = w.alloc (.cells #[.int .i64 k, .int .i64 g, .int .i64 n, .int .i64 x] 30) := ⟨_, rfl⟩
  have HO : Hid (Only (w.heap.size ≤ ·) w w1) := Lib.hid (by rw [hw1]; exact (Only.refl _ w).alloc (fun _ h => h) _)
  have HB : Hid (Blk w1 w.heap.size 30 [.int .i64 k, .int .i64 g, .int .i64 n, .int .i64 x]) := Lib.hid (by rw [hw1]; exact Blk.new w 30 _)
  have HFW : Hid (∀ W, Calls Tryd.prog 10 #[.slice A m c] W fun e w' => e = .returned (.bool true) ∧ W = w') := Lib.hid fun W => few_c W A m c true (decide_eq_true hm)
  have HP := Lib.hid hP
  have HR := Lib.hid hR
  have hzb : (z == 0) = false := by rw [beq_eq_false_iff_ne]; exact hz
  have hzn : (z != 0) = true := by rw [bne_iff_ne]; exact hz
  clear hz
  clear hm hG hal hP hR
  obtain ⟨i0, i1, i2, i3⟩ := HB.out.four
  go_enter Tryd.func4, Tryd.ntmps4
  go_upto_region 1 with (fail)
  rw [← hw1]
  clear hw1
  go_wp2_with (first
    | (go_at_call 10; (with_reducible refine (HFW.out _).mono ?_); rintro ee w' ⟨rfl, rfl⟩)
    | (go_at_call 17; (with_reducible refine (HP.out _ HO.out).mono ?_); rintro ee w2 ⟨R1, c1, rfl, hs1, ho⟩; have HS1 := Lib.hid hs1; (replace HB := Lib.hid (HB.out.later ho)); (replace HO := Lib.hid (on_new HO.out ho)); clear ho hs1; clear i0 i1 i2 i3; (obtain ⟨i0, i1, i2, i3⟩ := HB.out.four))
    | (go_at_call 18; (with_reducible refine (HR.out _ HO.out).mono ?_); rintro ee w3 ⟨R2, c2, rfl, hs2, ho⟩; have HS2 := Lib.hid hs2; (replace HS1 := Lib.hid (HS1.out.later ho)); (replace HB := Lib.hid (HB.out.later ho)); (replace HO := Lib.hid (on_new HO.out ho)); clear ho hs2; clear i0 i1 i2 i3; (obtain ⟨i0, i1, i2, i3⟩ := HB.out.four))
    | (go_at_call 15; (with_reducible refine (Equal_b _ _ _ Bv Bv true HS1.out HS2.out (by simp)).mono ?_); rintro ee w' ⟨rfl, rfl⟩)
    | (go_at_call 11; (with_reducible refine (HAL.out _ HO.out).mono ?_); rintro ee w4 ⟨rfl, ho⟩; (replace HO := Lib.hid (on_new HO.out ho)); clear ho))
  go_ret
  exact ⟨rfl, HO.out⟩
set_option maxRecDepth 100000 in
set_option maxHeartbeats 6400000 in
theorem wraps_ok (Bv : Bytes) (L : Nat) (body BB : Bytes) (LB : Nat) (hm : m ≤ 2000)
    (hP : ∀ W, Only (w.heap.size ≤ ·) w W → Calls Tryd.prog 17 #[.agg #[.int .i64 k, .int .i64 g, .int .i64 n, .int .i64 x], .slice A m c] W (GaveL W L Bv 0)) (hR : ∀ W, Only (w.heap.size ≤ ·) w W → Calls Tryd.prog 18 #[.agg #[.int .i64 k, .int .i64 g, .int .i64 n, .int .i64 x], .slice A m c] W (GaveL W L Bv 0))
    (hs : Src w (.slice A m c) body) (hLB : m ≤ LB) (hBB : BB.take m = body)
    (hH : ∀ W R c, Only (w.heap.size ≤ ·) w W → Src W (.slice R L c) Bv → Calls Tryd.prog 12 #[.slice R L c] W (Told W (.tuple #[.agg #[.int .i64 k, .int .i64 g, .int .i64 n, .int .i64 x], .int .i64 0])))
    (hB : ∀ W R c, Only (w.heap.size ≤ ·) w W → Src W (.slice R L c) Bv → Calls Tryd.prog 16 #[.slice R L c] W (fun e w' => ∃ R c, e = .returned (.slice R LB c) ∧ Src w' (.slice R LB c) BB ∧ Only (W.heap.size ≤ ·) W w')) :
    Calls Tryd.prog 4 #[.agg #[.int .i64 k, .int .i64 g, .int .i64 n, .int .i64 x], .slice A m c] w (Told w (.bool true)) := by
  have HSB := Lib.hid hs
  have HLB := Lib.hid (And.intro hLB hBB)
  have HHV := Lib.hid hH
  have HBD := Lib.hid hB
  clear hs hLB hBB hH hB
  have HAL : Hid (∀ W, Only (w.heap.size ≤ ·) w W → Calls Tryd.prog 11 #[] W (Told W (.bool true))) := Lib.hid fun W hW => hal W (hG.later hW)
  obtain ⟨w1, hw1⟩ : ∃ w1, w1 = w.alloc (.cells #[.int .i64 k, .int .i64 g, .int .i64 n, .int .i64 x] 30) := ⟨_, rfl⟩
  have HO : Hid (Only (w.heap.size ≤ ·) w w1) := Lib.hid (by rw [hw1]; exact (Only.refl _ w).alloc (fun _ h => h) _)
  have HB : Hid (Blk w1 w.heap.size 30 [.int .i64 k, .int .i64 g, .int .i64 n, .int .i64 x]) := Lib.hid (by rw [hw1]; exact Blk.new w 30 _)
  have HFW : Hid (∀ W, Calls Tryd.prog 10 #[.slice A m c] W fun e w' => e = .returned (.bool true) ∧ W = w') := Lib.hid fun W => few_c W A m c true (decide_eq_true hm)
  have HP := Lib.hid hP
  have HR := Lib.hid hR
  clear hm hG hal hP hR
  obtain ⟨i0, i1, i2, i3⟩ := HB.out.four
  go_enter Tryd.func4, Tryd.ntmps4
  go_upto_region 1 with (fail)
  rw [← hw1]
  clear hw1
  go_wp2_with (first
    | (go_at_call 10; (with_reducible refine (HFW.out _).mono ?_); rintro ee w' ⟨rfl, rfl⟩)
    | (go_at_call 17; (with_reducible refine (HP.out _ HO.out).mono ?_); rintro ee w2 ⟨R1, c1, rfl, hs1, ho⟩; have HS1 := Lib.hid hs1; (replace HB := Lib.hid (HB.out.later ho)); (replace HO := Lib.hid (on_new HO.out ho)); clear ho hs1; clear i0 i1 i2 i3; (obtain ⟨i0, i1, i2, i3⟩ := HB.out.four))
    | (go_at_call 18; (with_reducible refine (HR.out _ HO.out).mono ?_); rintro ee w3 ⟨R2, c2, rfl, hs2, ho⟩; have HS2 := Lib.hid hs2; (replace HS1 := Lib.hid (HS1.out.later ho)); (replace HB := Lib.hid (HB.out.later ho)); (replace HO := Lib.hid (on_new HO.out ho)); clear ho hs2; clear i0 i1 i2 i3; (obtain ⟨i0, i1, i2, i3⟩ := HB.out.four))
    | (go_at_call 15; (with_reducible refine (Equal_b _ _ _ Bv Bv true HS1.out HS2.out (by simp)).mono ?_); rintro ee w' ⟨rfl, rfl⟩)
    | (go_at_call 12; (with_reducible refine (HHV.out _ _ _ HO.out HS1.out).mono ?_); rintro ee w4 ⟨rfl, ho⟩; have HBK := Lib.hid (Blk.new w4 26 [.int .i64 k, .int .i64 g, .int .i64 n, .int .i64 x]); have ho2 := ho.alloc (fun _ h => h) (.cells #[.int .i64 k, .int .i64 g, .int .i64 n, .int .i64 x] 26); (replace HS1 := Lib.hid (HS1.out.later ho2)); (replace HB := Lib.hid (HB.out.later ho2)); (replace HO := Lib.hid (on_new HO.out ho2)); clear ho ho2 i0 i1 i2 i3)
    | (go_at_call 11; (with_reducible refine (HAL.out _ HO.out).mono ?_); rintro ee w5 ⟨rfl, ho⟩; (replace HS1 := Lib.hid (HS1.out.later ho)); (replace HB := Lib.hid (HB.out.later ho)); (replace HBK := Lib.hid (HBK.out.later ho)); (replace HO := Lib.hid (on_new HO.out ho)); clear ho; (obtain ⟨i0, i1, i2, i3⟩ := HB.out.four); (obtain ⟨j0, j1, j2, j3⟩ := HBK.out.four))
    | (go_at_call 16; (with_reducible refine (HBD.out _ _ _ HO.out HS1.out).mono ?_); rintro ee w6 ⟨R3, c3, rfl, hs3, ho⟩; have HS3 := Lib.hid hs3; (replace HO := Lib.hid (on_new HO.out ho)); clear ho hs3)
    | (go_at_call 19; (with_reducible refine (HasPrefix_c _ _ _ _ _ _ _ BB body HS3.out (HSB.out.later HO.out) HLB.out.1 HLB.out.2).mono ?_); rintro ee w' ⟨rfl, rfl⟩))
  go_ret
  exact ⟨by first | rfl | simp, HO.out⟩
end
theorem wraps_c (hal : ∀ W, Gens W → Calls Tryd.prog 11 #[] W (Told W (.bool true))) (w : World) (k g n x : Int) (A : Option Addr) (m c : Nat) (body : Bytes) (hG : Gens w) (hs : Src w (.slice A m c) body) (hne : m = body.length) (i0 : I64 k) (i1 : I64 g) (i2 : I64 n) (i3 : I64 x) :
    Calls Tryd.prog 4 #[.agg #[.int .i64 k, .int .i64 g, .int .i64 n, .int .i64 x], .slice A m c] w (Told w (.bool true)) := by
  by_cases hm : m ≤ 2000
  rotate_left
  · exact wraps_few hal w k g n x A m c hG hm
  have hP : ∀ W, Only (w.heap.size ≤ ·) w W → Calls Tryd.prog 17 #[.agg #[.int .i64 k, .int .i64 g, .int .i64 n, .int .i64 x], .slice A m c] W (GaveL W (wrapB k g n x body).length (wrapB k g n x body) (wrapE k g n x body)) := fun W hW => (Wrap_c W k g n x _ body (hG.later hW) (hs.later hW) i0 i1 i2 i3).mono fun e w' h => h.len rfl
  have hR : ∀ W, Only (w.heap.size ≤ ·) w W → Calls Tryd.prog 18 #[.agg #[.int .i64 k, .int .i64 g, .int .i64 n, .int .i64 x], .slice A m c] W (GaveL W (wrapB k g n x body).length (wrapB k g n x body) (wrapE k g n x body)) := fun W hW => (rWrap_c W k g n x _ body (hs.later hW) i3).mono fun e w' h => h.len rfl
  by_cases hk : (kindOk k && gen g) = true
  rotate_left
  · have e1 : wrapE k g n x body = 70 := by unfold wrapE; rw [if_neg hk]
    have e2 : wrapB k g n x body = [] := by unfold wrapB; rw [if_neg hk]
    rw [e1] at hP hR
    exact wraps_err hal w k g n x A m c hG _ _ 70 (by decide) (by rw [e2]; rfl) hm hP hR
  by_cases hb : rwBad g n x body.length
  · have hsp := wrap_bad hk hb
    have e1 : wrapE k g n x body = 73 := by unfold wrapE finE; rw [if_pos hk, if_pos hsp]
    have e2 : wrapB k g n x body = [] := by unfold wrapB finB; rw [if_pos hk, if_pos hsp]
    rw [e1] at hP hR
    exact wraps_err hal w k g n x A m c hG _ _ 73 (by decide) (by rw [e2]; rfl) hm hP hR
  have hk2 := hk
  rw [Bool.and_eq_true] at hk2
  obtain ⟨hk1, hg⟩ := hk2
  have hb0 := hb
  obtain ⟨b1, b2, b3, b4, b5⟩ : (body.length : Int) ≤ tr g 248 240 240 ∧ 0 ≤ n ∧ n ≤ 65535 ∧ 0 ≤ x ∧ (g = 1 → x ≤ 4294967295) := by
    unfold rwBad at hb
    exact ⟨by omega, by omega, by omega, by omega, fun h => by omega⟩
  clear hb
  obtain ⟨g', rfl⟩ : ∃ q : Nat, g = (q : Int) := ⟨g.toNat, by have := (gen_iff g).1 hg; omega⟩
  obtain ⟨n', rfl⟩ : ∃ q : Nat, n = (q : Int) := ⟨n.toNat, by omega⟩
  obtain ⟨x', rfl⟩ : ∃ q : Nat, x = (q : Int) := ⟨x.toNat, by omega⟩
  obtain ⟨k', rfl⟩ : ∃ q : Nat, k = (q : Int) := ⟨k.toNat, by unfold kindOk at hk1; rw [decide_eq_true_eq] at hk1; omega⟩
  have hx : x' < 9223372036854775808 := by have := i3.2; omega
  obtain ⟨e1, e2⟩ := wrap_good hk hb0 hx
  rw [e1, e2] at hP hR
  have hx1 : x' < 256 ^ (tr (g' : Int) 4 8 8).toNat := by
    rcases gen_three hg with rfl | rfl | rfl
    · have := b5 rfl
      show x' < 256 ^ 4
      omega
    · show x' < 256 ^ 8
      omega
    · show x' < 256 ^ 8
      omega
  have hcap : 0 ≤ tr (g' : Int) 248 240 240 := by rcases gen_three hg with rfl | rfl | rfl <;> decide
  obtain ⟨hsh, _⟩ := wrapP_shape (k := k') (g := g') (n := n') (x := x') (body := body) hk1 hg (by omega) hx hx1 (by omega)
  obtain ⟨f1, f2, f3, f4, f5, f6, f7⟩ := hsh.facts
  have hH : ∀ W R c, Only (w.heap.size ≤ ·) w W → Src W (.slice R (wrapP k' g' n' x' body).length c) (wrapP k' g' n' x' body) → Calls Tryd.prog 12 #[.slice R (wrapP k' g' n' x' body).length c] W (Told W (.tuple #[.agg #[.int .i64 (k' : Nat), .int .i64 (g' : Nat), .int .i64 (n' : Nat), .int .i64 (x' : Nat)], .int .i64 0])) := fun W R c hW hS => by
    have h := HeadOf_c W _ _ (hG.later hW) hS (by rw [f1]; decide)
    rw [(hdV_ok f4).1] at h
    unfold hdOk at h
    rwa [f2, f3, f5, f6] at h
  have hpl : (padB (tr (g' : Int) 248 240 240).toNat body).length = (tr (g' : Int) 248 240 240).toNat := padB_length (by omega)
  exact wraps_ok hal w k' g' n' x' A m c hG _ _ body (padB (tr (g' : Int) 248 240 240).toNat body) (padB (tr (g' : Int) 248 240 240).toNat body).length hm hP hR hs (by rw [hpl]; omega) (by unfold padB; rw [hne]; exact List.take_left' rfl) hH
    (fun W R c hW hS => (Body_c W _ _ (hG.later hW) hS (by rw [f1]; decide)).mono fun e w' ⟨v, h1, h2, h3⟩ => by
      rw [f7] at h2
      have h20 := h2
      obtain ⟨A, c, rfl, _⟩ := h2
      exact ⟨A, c, h1, h20, h3⟩)
end Go.Proofs.YtnmfhadmkgndmaaDoor
