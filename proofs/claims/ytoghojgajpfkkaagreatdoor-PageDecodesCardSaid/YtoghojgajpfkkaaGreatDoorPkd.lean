/-
  putKid: a kid behind what the writer has.
-/
import Derived.Test.YtoghojgajpfkkaaGreatDoorPfi
set_option linter.unusedVariables false
namespace Go.Proofs.YtoghojgajpfkkaaGreatDoor
open Go.RowKit

theorem Blk.pair {w : World} {g : Nat} {t : TypeId} {a b : Value} (h : Blk w g t [a, b]) : w.cell? ⟨g, 0, none⟩ = some a ∧ w.cell? ⟨g, 1, none⟩ = some b := ⟨h.cell 0, h.cell 1⟩
set_option maxRecDepth 100000 in
set_option maxHeartbeats 6400000 in
theorem putKid_c (w : World) (p q : Nat) (c : Cur) (g r : Int) (A : Option Addr) (t pc : Nat) (key : Bytes) (h : Holds w p q 115 c) (hq : q < w.heap.size)
    (hG : ∀ W, Only (fun j => Foot p q j ∨ w.heap.size ≤ j) w W → Gens W) (hs : ∀ W, Only (fun j => Foot p q j ∨ w.heap.size ≤ j) w W → Src W (.slice A t pc) key) (hf : ∀ ad, A = some ad → 0 < t → ¬ Foot p q ad.block) (hr : I64 r) :
    Calls Tryz.prog 31 #[.pointer (some ⟨p, 0, none⟩), .int .i64 g, .agg #[.slice A t pc, .int .i64 r]] w
      fun e w' => e = .returned (.tuple #[]) ∧ Holds w' p q 115 (((c.put t 1).write key).put r (tr g 4 8 8)) ∧ Only (fun j => Foot p q j ∨ w.heap.size ≤ j) w w' := by
  obtain ⟨W0, hW0⟩ : ∃ W0, W0 = w.alloc (.cells #[.slice A t pc, .int .i64 r] 67) := ⟨_, rfl⟩
  have HO : Hid (Only (w.heap.size ≤ ·) w W0) := Lib.hid (by rw [hW0]; exact (Only.refl _ w).alloc (fun _ h => h) _)
  have HI : Hid (Blk W0 w.heap.size 67 [.slice A t pc, .int .i64 r]) := Lib.hid (by rw [hW0]; exact Blk.new w 67 _)
  have HZ : Hid (w.heap.size < W0.heap.size) := Lib.hid HI.out.lt
  have hp := h.lt
  have HH := Lib.hid (h.later HO.out)
  have HF : Hid (∀ W, Only (fun j => Foot p q j ∨ W0.heap.size ≤ j) W0 W → Only (fun j => Foot p q j ∨ w.heap.size ≤ j) w W) := Lib.hid fun W hW => (HO.out.mono fun j hj => Or.inr hj).trans (hW.mono fun j hj => hj.elim Or.inl fun e => Or.inr (by have := HZ.out; omega))
  have KC : Hid (∀ W, Only (fun j => Foot p q j ∨ W0.heap.size ≤ j) W0 W → W.cell? ⟨w.heap.size, 0, none⟩ = some (.slice A t pc) ∧ W.cell? ⟨w.heap.size, 1, none⟩ = some (.int .i64 r)) := Lib.hid fun W hW => (HI.out.only hW (by have := HZ.out; rintro ((e | e) | e) <;> omega)).pair
  have HL : Hid (Only (fun j => Foot p q j ∨ W0.heap.size ≤ j) W0 W0) := Lib.hid (Only.refl _ _)
  have HS : Hid (∀ W, Only (fun j => Foot p q j ∨ W0.heap.size ≤ j) W0 W → Src W (.slice A t pc) key) := Lib.hid fun W hW => hs W (HF.out W hW)
  have HFT : Hid (∀ ad m c', (Value.slice A t pc) = .slice (some ad) m c' → 0 < m → ¬ Foot p q ad.block) := Lib.hid fun ad m c' e hm => by
    simp only [Value.slice.injEq] at e
    exact hf ad e.1 (by omega)
  obtain ⟨v, hv⟩ : ∃ v, v = tr g 4 8 8 := ⟨_, rfl⟩
  have HIW : Hid (∀ W, Only (fun j => Foot p q j ∨ W0.heap.size ≤ j) W0 W → Calls Tryz.prog 41 #[.int .i64 g] W (Told W (.int .i64 v))) := Lib.hid fun W hW => by rw [hv]; exact IdWidth_c W g (hG W (HF.out W hW))
  have HR := Lib.hid hr
  have HT : Hid (-9223372036854775808 ≤ (t : Int) ∧ (t : Int) ≤ 9223372036854775807) := Lib.hid (by
    obtain ⟨A', c', e, _, _, h4, h5⟩ := HS.out W0 HL.out
    simp only [Value.slice.injEq] at e
    omega)
  rw [← hv]
  clear h hq hp hG hs hf hr hv
  obtain ⟨i0, i1⟩ := KC.out _ HL.out
  go_enter Tryz.func31, Tryz.ntmps31
  go_upto_region 1 with (fail)
  rw [← hW0]
  clear hW0
  go_wp2_with (first
    | (go_at_call 66; (with_reducible refine (Put_c _ p q _ HH.out t 1 HT.out.1 HT.out.2).mono ?_); rintro ee w2 ⟨rfl, hh, ho⟩; (replace HH := Lib.hid hh); (replace HL := Lib.hid (HL.out.trans (ho.mono fun j hj => Or.inl hj))); clear hh ho; clear i0 i1; (obtain ⟨i0, i1⟩ := (KC.out _ HL.out)))
    | (go_at_call 43; (with_reducible refine (WBytes_c _ p q _ HH.out _ key (HS.out _ HL.out) HFT.out).mono ?_); rintro ee w2 ⟨rfl, hh, ho⟩; (replace HH := Lib.hid hh); (replace HL := Lib.hid (HL.out.trans (ho.mono fun j hj => Or.inl hj))); clear hh ho; clear i0 i1; (obtain ⟨i0, i1⟩ := (KC.out _ HL.out))))
  clear i0 i1
  replace HL := Lib.hid HL.out.drew
  replace HH : Hid (Holds w2.drew p q 115 _) := Lib.hid (HH.out.drewN 1)
  refine wp_region_list (B := [false, false, false, false, false, false]) (S := (fun W => W.cell? ⟨w.heap.size, 0, none⟩ = some (.slice A t pc) ∧ W.cell? ⟨w.heap.size, 1, none⟩ = some (.int .i64 r))) (by kernel_rfl) (by kernel_rfl) (by kernel_rfl) (KC.out _ HL.out) (fun hsel hHeld => ?_)
  obtain ⟨wx, hwx⟩ : ∃ wx, wx = w2.drew := ⟨_, rfl⟩
  rw [← hwx] at HL HH hHeld
  rw [← hwx]
  clear hwx
  refine oneA 0 15 hsel (h := ?_)
  simp only [Act.put, List.setIfInBounds_toArray, List.set_cons_zero, List.set_cons_succ]
  refine oneA 1 16 hsel (h := ?_)
  simp only [Act.put, List.setIfInBounds_toArray, List.set_cons_zero, List.set_cons_succ]
  refine oneA 2 17 hsel (h := ?_)
  simp only [Act.put, List.setIfInBounds_toArray, List.set_cons_zero, List.set_cons_succ]
  refine oneA 3 18 hsel (h := ?_)
  simp only [Act.put, List.setIfInBounds_toArray, List.set_cons_zero, List.set_cons_succ]
  refine wpAnyL_ready (rs := [4]) (by kernel_rfl) (by kernel_rfl) (by simp) ?_
  refine AllReadyL.cons (o := ?_) ?_ (fun K hK => ?_) AllReadyL.nil
  case refine_2 => (simp only [List.getElem?_cons_succ, List.getElem?_cons_zero]; rfl)
  go_simp
  (go_at_call 41; (with_reducible refine (HIW.out _ HL.out).mono ?_); rintro ee w4 ⟨rfl, ho⟩; (replace HH := Lib.hid (HH.out.later ho)); (replace HL := Lib.hid (HL.out.trans (ho.mono fun j hj => Or.inr (Nat.le_trans HL.out.size hj)))); clear ho)
  go_wp2_with (fail)
  clear hHeld
  refine hK.out _ _ (KC.out _ HL.out) (fun hHeld => ?_)
  clear hK K
  try simp only [List.set_cons_zero, List.set_cons_succ]
  refine wpAnyL_ready (rs := [5]) (by kernel_rfl) (by kernel_rfl) (by simp) ?_
  refine AllReadyL.cons (o := ?_) ?_ (fun K hK => ?_) AllReadyL.nil
  case refine_2 => (simp only [List.getElem?_cons_succ, List.getElem?_cons_zero]; rfl)
  go_simp
  (go_at_call 66; (with_reducible refine (Put_c _ p q _ HH.out r v HR.out.lo HR.out.hi).mono ?_); rintro ee w2 ⟨rfl, hh, ho⟩; (replace HH := Lib.hid hh); (replace HL := Lib.hid (HL.out.trans (ho.mono fun j hj => Or.inl hj))); clear hh ho)
  go_wp2_with (fail)
  clear hHeld
  refine hK.out _ _ (KC.out _ HL.out) (fun hHeld => ?_)
  clear hK K
  try simp only [List.set_cons_zero, List.set_cons_succ]
  refine wpAnyL_done (by kernel_rfl) (by kernel_rfl) ?_ _
  clear hsel hHeld
  go_wp2
  go_end0
  exact ⟨rfl, HH.out, HF.out _ HL.out⟩
end Go.Proofs.YtoghojgajpfkkaaGreatDoor
