/-
  start: a writer that has written the head.
-/
import Derived.Test.YtbgnfocfnjlabaaDoorPgs
import Derived.Test.YtbgnfocfnjlabaaDoorGc
import Derived.Test.YtbgnfocfnjlabaaDoorGa
import Derived.RegionTactic
import Derived.BigRegion
import Derived.Deep.CutRange
import Derived.Test.YtbgnfocfnjlabaaDoorGb
set_option linter.unusedVariables false
namespace Go.Proofs.YtbgnfocfnjlabaaDoor
open Go.RowKit

def I64 (z : Int) : Prop := -9223372036854775808 ≤ z ∧ z ≤ 9223372036854775807
theorem I64.lo {z : Int} (h : I64 z) : -9223372036854775808 ≤ z := h.1
theorem I64.hi {z : Int} (h : I64 z) : z ≤ 9223372036854775807 := h.2
/-- The cursor behind the head. -/
def stC (k g n x : Int) : Cur := (((((Cur.make 256).put k 1).put g 1).put n 2).take (gap g)).put x (tr g 4 8 8)
set_option maxRecDepth 100000 in
set_option maxHeartbeats 6400000 in
theorem start_c (w : World) (k g n x : Int) (hG : Gens w) (h1 : I64 k) (h2 : I64 g) (h3 : I64 n) (h4 : I64 x) :
    Calls Tryd.prog 95 #[.agg #[.int .i64 k, .int .i64 g, .int .i64 n, .int .i64 x]] w (Made w 137 (stC k g n x)) := by
  obtain ⟨W0, hW0⟩ : ∃ W0, W0 = w.alloc (.cells #[.int .i64 k, .int .i64 g, .int .i64 n, .int .i64 x] 57) := ⟨_, rfl⟩
  have HO : Hid (Only (w.heap.size ≤ ·) w W0) := Lib.hid (by rw [hW0]; exact (Only.refl _ w).alloc (fun _ h => h) _)
  have HI : Hid (Blk W0 w.heap.size 57 [.int .i64 k, .int .i64 g, .int .i64 n, .int .i64 x]) := Lib.hid (by rw [hW0]; exact Blk.new w 57 _)
  have HZ : Hid (w.heap.size ≤ W0.heap.size) := Lib.hid HO.out.size
  have HL : Hid (Only (W0.heap.size ≤ ·) W0 W0) := Lib.hid (Only.refl _ _)
  have HG := Lib.hid (hG.later HO.out)
  have HR := Lib.hid (And.intro h1 (And.intro h2 (And.intro h3 h4)))
  have HIW : Hid (∀ W, Only (W0.heap.size ≤ ·) W0 W → Calls Tryd.prog 51 #[.int .i64 g] W (Told W (.int .i64 (tr g 4 8 8)))) := Lib.hid fun W hW => IdWidth_c W g (HG.out.later hW)
  clear hG h1 h2 h3 h4
  obtain ⟨v, hv⟩ : ∃ v, v = tr g 4 8 8 := ⟨_, rfl⟩
  obtain ⟨u, hu⟩ : ∃ u, u = gap g := ⟨_, rfl⟩
  have HBN : Hid (∀ W, Calls Tryd.prog 50 #[.int .i64 g] W fun e w' => e = .returned (.int .i64 u) ∧ W = w') := Lib.hid fun W => by rw [hu]; exact beforeNext_c W g
  rw [← hv] at HIW
  have HC : Hid (stC k g n x = (((((Cur.make 256).put k 1).put g 1).put n 2).take u).put x v) := Lib.hid (by rw [hu, hv]; rfl)
  rw [HC.out]
  clear hv hu HC
  obtain ⟨i0, i1, i2, i3⟩ := HI.out.four
  go_enter Tryd.func95, Tryd.ntmps95
  go_upto_region 1 with (fail)
  rw [← hW0]
  clear hW0
  go_upto_region 2 with (go_at_call 99; (with_reducible refine (NewWriter_c _ 256).mono ?_); rintro ee w1 ⟨p, q, rfl, hp, hq, hh, ho, hql⟩; have HH := Lib.hid hh; have HP := Lib.hid hp; have HQ := Lib.hid hq; (replace HL := Lib.hid (on_new HL.out ho)); clear hh hp hq ho hql i0 i1 i2 i3; (obtain ⟨i0, i1, i2, i3⟩ := (HI.out.later HL.out).four))
  go_wp2_with (first
    | (go_at_call 100; (with_reducible refine (Put_c _ p q _ HH.out k 1 HR.out.1.lo HR.out.1.hi).mono ?_); rintro ee w2 ⟨rfl, hh, ho⟩; (replace HH := Lib.hid hh); (replace HL := Lib.hid (HL.out.trans (ho.mono fun j hj => hj.elim (fun e => e ▸ HP.out) (fun e => e ▸ HQ.out)))); clear hh ho; clear i0 i1 i2 i3; (obtain ⟨i0, i1, i2, i3⟩ := (HI.out.later HL.out).four))
    | (go_at_call 100; (with_reducible refine (Put_c _ p q _ HH.out g 1 HR.out.2.1.lo HR.out.2.1.hi).mono ?_); rintro ee w2 ⟨rfl, hh, ho⟩; (replace HH := Lib.hid hh); (replace HL := Lib.hid (HL.out.trans (ho.mono fun j hj => hj.elim (fun e => e ▸ HP.out) (fun e => e ▸ HQ.out)))); clear hh ho; clear i0 i1 i2 i3; (obtain ⟨i0, i1, i2, i3⟩ := (HI.out.later HL.out).four))
    | (go_at_call 100; (with_reducible refine (Put_c _ p q _ HH.out n 2 HR.out.2.2.1.lo HR.out.2.2.1.hi).mono ?_); rintro ee w2 ⟨rfl, hh, ho⟩; (replace HH := Lib.hid hh); (replace HL := Lib.hid (HL.out.trans (ho.mono fun j hj => hj.elim (fun e => e ▸ HP.out) (fun e => e ▸ HQ.out)))); clear hh ho; clear i0 i1 i2 i3; (obtain ⟨i0, i1, i2, i3⟩ := (HI.out.later HL.out).four)))
  have KP : Hid (∀ W, Only (W0.heap.size ≤ ·) W0 W → W.cell? ⟨w.heap.size, 0, none⟩ = some (.int .i64 k) ∧ W.cell? ⟨w.heap.size, 1, none⟩ = some (.int .i64 g) ∧ W.cell? ⟨w.heap.size, 2, none⟩ = some (.int .i64 n) ∧ W.cell? ⟨w.heap.size, 3, none⟩ = some (.int .i64 x)) := Lib.hid fun W hW => (HI.out.later hW).four
  clear i0 i1 i2 i3
  replace HL := Lib.hid HL.out.drew
  replace HH : Hid (Holds w2.drew p q 137 _) := Lib.hid (HH.out.drewN 1)
  refine wp_region_list (B := [false, false, false, false, false, false, false]) (S := (fun W => W.cell? ⟨w.heap.size, 0, none⟩ = some (.int .i64 k) ∧ W.cell? ⟨w.heap.size, 1, none⟩ = some (.int .i64 g) ∧ W.cell? ⟨w.heap.size, 2, none⟩ = some (.int .i64 n) ∧ W.cell? ⟨w.heap.size, 3, none⟩ = some (.int .i64 x))) (by kernel_rfl) (by kernel_rfl) (by kernel_rfl) (KP.out _ HL.out) (fun hsel hHeld => ?_)
  obtain ⟨wx, hwx⟩ : ∃ wx, wx = w2.drew := ⟨_, rfl⟩
  rw [← hwx] at HL HH hHeld
  rw [← hwx]
  clear hwx
  refine oneA 0 17 hsel (h := ?_)
  simp only [Act.put, List.setIfInBounds_toArray, List.set_cons_zero, List.set_cons_succ]
  refine oneA 1 18 hsel (h := ?_)
  simp only [Act.put, List.setIfInBounds_toArray, List.set_cons_zero, List.set_cons_succ]
  refine oneA 2 19 hsel (h := ?_)
  simp only [Act.put, List.setIfInBounds_toArray, List.set_cons_zero, List.set_cons_succ]
  refine oneA 3 20 hsel (h := ?_)
  simp only [Act.put, List.setIfInBounds_toArray, List.set_cons_zero, List.set_cons_succ]
  refine oneA 4 21 hsel (h := ?_)
  simp only [Act.put, List.setIfInBounds_toArray, List.set_cons_zero, List.set_cons_succ]
  refine wpAnyL_ready (rs := [5]) (by kernel_rfl) (by kernel_rfl) (by simp) ?_
  refine AllReadyL.cons (o := ?_) ?_ (fun K hK => ?_) AllReadyL.nil
  case refine_2 => (simp only [List.getElem?_cons_succ, List.getElem?_cons_zero]; rfl)
  go_simp
  (go_at_call 50; (with_reducible refine (HBN.out _).mono ?_); rintro ee w3 ⟨rfl, rfl⟩)
  go_wp2_with (fail)
  clear hHeld
  refine hK.out _ _ (KP.out _ HL.out) (fun hHeld => ?_)
  clear hK K
  try simp only [List.set_cons_zero, List.set_cons_succ]
  refine wpAnyL_ready (rs := [6]) (by kernel_rfl) (by kernel_rfl) (by simp) ?_
  refine AllReadyL.cons (o := ?_) ?_ (fun K hK => ?_) AllReadyL.nil
  case refine_2 => (simp only [List.getElem?_cons_succ, List.getElem?_cons_zero]; rfl)
  go_simp
  (go_at_call 48; (with_reducible refine (Skip_c _ p q _ _ HH.out u).mono ?_); rintro ee w2 ⟨rfl, hh, ho⟩; (replace HH := Lib.hid hh); (replace HL := Lib.hid (HL.out.trans (ho.mono fun j hj => hj ▸ HP.out))); clear hh ho)
  go_wp2_with (fail)
  clear hHeld
  refine hK.out _ _ (KP.out _ HL.out) (fun hHeld => ?_)
  clear hK K
  try simp only [List.set_cons_zero, List.set_cons_succ]
  refine wpAnyL_done (by kernel_rfl) (by kernel_rfl) ?_ _
  clear hsel hHeld
  go_wp2_with (fail)
  replace HL := Lib.hid HL.out.drew
  replace HH : Hid (Holds w2.drew p q 137 _) := Lib.hid (HH.out.drewN 1)
  refine wp_region_list (B := [false, false, false, false, false, false, false]) (S := (fun W => W.cell? ⟨w.heap.size, 0, none⟩ = some (.int .i64 k) ∧ W.cell? ⟨w.heap.size, 1, none⟩ = some (.int .i64 g) ∧ W.cell? ⟨w.heap.size, 2, none⟩ = some (.int .i64 n) ∧ W.cell? ⟨w.heap.size, 3, none⟩ = some (.int .i64 x))) (by kernel_rfl) (by kernel_rfl) (by kernel_rfl) (KP.out _ HL.out) (fun hsel hHeld => ?_)
  obtain ⟨wy, hwy⟩ : ∃ wy, wy = w2.drew := ⟨_, rfl⟩
  rw [← hwy] at HL HH hHeld
  rw [← hwy]
  clear hwy
  refine oneA 0 24 hsel (h := ?_)
  simp only [Act.put, List.setIfInBounds_toArray, List.set_cons_zero, List.set_cons_succ]
  refine oneA 1 25 hsel (h := ?_)
  simp only [Act.put, List.setIfInBounds_toArray, List.set_cons_zero, List.set_cons_succ]
  refine oneA 2 26 hsel (h := ?_)
  simp only [Act.put, List.setIfInBounds_toArray, List.set_cons_zero, List.set_cons_succ]
  refine oneA 3 27 hsel (h := ?_)
  simp only [Act.put, List.setIfInBounds_toArray, List.set_cons_zero, List.set_cons_succ]
  refine oneA 4 28 hsel (h := ?_)
  simp only [Act.put, List.setIfInBounds_toArray, List.set_cons_zero, List.set_cons_succ]
  refine wpAnyL_ready (rs := [5]) (by kernel_rfl) (by kernel_rfl) (by simp) ?_
  refine AllReadyL.cons (o := ?_) ?_ (fun K hK => ?_) AllReadyL.nil
  case refine_2 => (simp only [List.getElem?_cons_succ, List.getElem?_cons_zero]; rfl)
  go_simp
  (go_at_call 51; (with_reducible refine (HIW.out _ HL.out).mono ?_); rintro ee w4 ⟨rfl, ho⟩; (replace HH := Lib.hid (HH.out.later ho)); (replace HL := Lib.hid (on_new HL.out ho)); clear ho)
  go_wp2_with (fail)
  clear hHeld
  refine hK.out _ _ (KP.out _ HL.out) (fun hHeld => ?_)
  clear hK K
  try simp only [List.set_cons_zero, List.set_cons_succ]
  refine wpAnyL_ready (rs := [6]) (by kernel_rfl) (by kernel_rfl) (by simp) ?_
  refine AllReadyL.cons (o := ?_) ?_ (fun K hK => ?_) AllReadyL.nil
  case refine_2 => (simp only [List.getElem?_cons_succ, List.getElem?_cons_zero]; rfl)
  go_simp
  (go_at_call 100; (with_reducible refine (Put_c _ p q _ HH.out x v HR.out.2.2.2.lo HR.out.2.2.2.hi).mono ?_); rintro ee w2 ⟨rfl, hh, ho⟩; (replace HH := Lib.hid hh); (replace HL := Lib.hid (HL.out.trans (ho.mono fun j hj => hj.elim (fun e => e ▸ HP.out) (fun e => e ▸ HQ.out)))); clear hh ho)
  go_wp2_with (fail)
  clear hHeld
  refine hK.out _ _ (KP.out _ HL.out) (fun hHeld => ?_)
  clear hK K
  try simp only [List.set_cons_zero, List.set_cons_succ]
  refine wpAnyL_done (by kernel_rfl) (by kernel_rfl) ?_ _
  clear hsel hHeld
  go_wp2
  go_ret
  obtain ⟨_, rest, hqb⟩ := HH.out.pos (by rw [Cur.put_len, Cur.take_b, Cur.put_len, Cur.put_len, Cur.put_len]; show 0 < (List.replicate (size 256) 0).length; simp [size])
  exact ⟨p, q, rfl, Nat.le_trans HZ.out HP.out, Nat.le_trans HZ.out HQ.out, HH.out, HO.out.trans (HL.out.mono fun j hj => Nat.le_trans HZ.out hj), hqb.lt⟩
end Go.Proofs.YtbgnfocfnjlabaaDoor
