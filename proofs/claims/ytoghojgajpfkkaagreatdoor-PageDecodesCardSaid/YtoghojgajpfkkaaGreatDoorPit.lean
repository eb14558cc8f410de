/-
  putItem: an item behind what the writer has.
-/
import Derived.Test.YtoghojgajpfkkaaGreatDoorPkd
set_option linter.unusedVariables false
namespace Go.Proofs.YtoghojgajpfkkaaGreatDoor
open Go.RowKit

/-- The cursor behind an item. -/
def itC (C : Cur) (g : Int) (n m : Nat) (s r : Int) (key val : Bytes) : Cur :=
  if far m r = true then ((((C.put n 1).put 1 1).put (long m s r) 2).write key).put r (tr g 4 8 8) else ((((C.put n 1).put 0 1).put (long m s r) 2).write key).write val
set_option maxRecDepth 100000 in
set_option maxHeartbeats 12800000 in
theorem putItem_c (w : World) (p q : Nat) (C : Cur) (g : Int) (A B : Option Addr) (n c m d : Nat) (s r : Int) (key val : Bytes) (h : Holds w p q 115 C) (hq : q < w.heap.size)
    (hG : ∀ W, Only (fun j => Foot p q j ∨ w.heap.size ≤ j) w W → Gens W) (hs : ∀ W, Only (fun j => Foot p q j ∨ w.heap.size ≤ j) w W → Src W (.slice A n c) key) (hu : ∀ W, Only (fun j => Foot p q j ∨ w.heap.size ≤ j) w W → Src W (.slice B m d) val)
    (hf : ∀ ad, A = some ad → 0 < n → ¬ Foot p q ad.block) (hfv : ∀ ad, B = some ad → 0 < m → ¬ Foot p q ad.block) (hsz : I64 s) (hr : I64 r) :
    Calls Tryz.prog 30 #[.pointer (some ⟨p, 0, none⟩), .int .i64 g, .agg #[.slice A n c, .slice B m d, .int .i64 s, .int .i64 r]] w
      fun e w' => e = .returned (.tuple #[]) ∧ Holds w' p q 115 (itC C g n m s r key val) ∧ Only (fun j => Foot p q j ∨ w.heap.size ≤ j) w w' := by
  obtain ⟨W0, hW0⟩ : ∃ W0, W0 = w.alloc (.cells #[.slice A n c, .slice B m d, .int .i64 s, .int .i64 r] 44) := ⟨_, rfl⟩
  have HO : Hid (Only (w.heap.size ≤ ·) w W0) := Lib.hid (by rw [hW0]; exact (Only.refl _ w).alloc (fun _ h => h) _)
  have HI : Hid (Blk W0 w.heap.size 44 [.slice A n c, .slice B m d, .int .i64 s, .int .i64 r]) := Lib.hid (by rw [hW0]; exact Blk.new w 44 _)
  have HZ : Hid (w.heap.size < W0.heap.size) := Lib.hid HI.out.lt
  have hp := h.lt
  have HH := Lib.hid (h.later HO.out)
  have HF : Hid (∀ W, Only (fun j => Foot p q j ∨ W0.heap.size ≤ j) W0 W → Only (fun j => Foot p q j ∨ w.heap.size ≤ j) w W) := Lib.hid fun W hW => (HO.out.mono fun j hj => Or.inr hj).trans (hW.mono fun j hj => hj.elim Or.inl fun e => Or.inr (by have := HZ.out; omega))
  have KC : Hid (∀ W, Only (fun j => Foot p q j ∨ W0.heap.size ≤ j) W0 W → W.cell? ⟨w.heap.size, 0, none⟩ = some (.slice A n c) ∧ W.cell? ⟨w.heap.size, 1, none⟩ = some (.slice B m d) ∧ W.cell? ⟨w.heap.size, 2, none⟩ = some (.int .i64 s) ∧ W.cell? ⟨w.heap.size, 3, none⟩ = some (.int .i64 r)) := Lib.hid fun W hW => (HI.out.only hW (by have := HZ.out; rintro ((e | e) | e) <;> omega)).four
  have HL : Hid (Only (fun j => Foot p q j ∨ W0.heap.size ≤ j) W0 W0) := Lib.hid (Only.refl _ _)
  have HS : Hid (∀ W, Only (fun j => Foot p q j ∨ W0.heap.size ≤ j) W0 W → Src W (.slice A n c) key) := Lib.hid fun W hW => hs W (HF.out W hW)
  have HV : Hid (∀ W, Only (fun j => Foot p q j ∨ W0.heap.size ≤ j) W0 W → Src W (.slice B m d) val) := Lib.hid fun W hW => hu W (HF.out W hW)
  have HFT : Hid (∀ ad x c', (Value.slice A n c) = .slice (some ad) x c' → 0 < x → ¬ Foot p q ad.block) := Lib.hid fun ad x c' e hm => by
    simp only [Value.slice.injEq] at e
    exact hf ad e.1 (by omega)
  have HFV : Hid (∀ ad x c', (Value.slice B m d) = .slice (some ad) x c' → 0 < x → ¬ Foot p q ad.block) := Lib.hid fun ad x c' e hm => by
    simp only [Value.slice.injEq] at e
    exact hfv ad e.1 (by omega)
  obtain ⟨v, hv⟩ : ∃ v, v = tr g 4 8 8 := ⟨_, rfl⟩
  obtain ⟨l, hl⟩ : ∃ l, long m s r = l := ⟨_, rfl⟩
  obtain ⟨b, hb⟩ : ∃ b, far m r = b := ⟨_, rfl⟩
  have HIW : Hid (∀ W, Only (fun j => Foot p q j ∨ W0.heap.size ≤ j) W0 W → Calls Tryz.prog 41 #[.int .i64 g] W (Told W (.int .i64 v))) := Lib.hid fun W hW => by rw [hv]; exact IdWidth_c W g (hG W (HF.out W hW))
  have HFA : Hid (∀ W, Calls Tryz.prog 64 #[.agg #[.slice A n c, .slice B m d, .int .i64 s, .int .i64 r]] W (Told W (.bool b))) := Lib.hid fun W => Far_c W A B n c m d s r b hb
  have HLO : Hid (∀ W, Calls Tryz.prog 67 #[.agg #[.slice A n c, .slice B m d, .int .i64 s, .int .i64 r]] W (Told W (.int .i64 l))) := Lib.hid fun W => Long_c W A B n c m d s r l hl
  have HR := Lib.hid hr
  have HT : Hid (-9223372036854775808 ≤ (n : Int) ∧ (n : Int) ≤ 9223372036854775807) := Lib.hid (by
    obtain ⟨A', c', e, _, _, h4, h5⟩ := HS.out W0 HL.out
    simp only [Value.slice.injEq] at e
    omega)
  have HLL : Hid (-9223372036854775808 ≤ l ∧ l ≤ 9223372036854775807) := Lib.hid (by
    obtain ⟨A', c', e, _, _, h4, h5⟩ := HV.out W0 HL.out
    simp only [Value.slice.injEq] at e
    rw [← hl]
    unfold long
    split
    · omega
    · exact hsz)
  unfold itC
  rw [← hv, hl, hb]
  clear h hq hp hG hs hu hf hfv hsz hr hv hl hb
  obtain ⟨i0, i1, i2, i3⟩ := KC.out _ HL.out
  cases b
  · go_enter Tryz.func30, Tryz.ntmps30
    go_upto_region 1 with (fail)
    rw [← hW0]
    clear hW0
    go_wp2_with (first
      | (go_at_call 66; (with_reducible refine (Put_c _ p q _ HH.out n 1 HT.out.1 HT.out.2).mono ?_); rintro ee w2 ⟨rfl, hh, ho⟩; (replace HH := Lib.hid hh); (replace HL := Lib.hid (HL.out.trans (ho.mono fun j hj => Or.inl hj))); clear hh ho; clear i0 i1 i2 i3; (obtain ⟨i0, i1, i2, i3⟩ := (KC.out _ HL.out)))
      | (go_at_call 64; (with_reducible refine (HFA.out _).mono ?_); rintro ee w2 ⟨rfl, ho⟩; (replace HH := Lib.hid (HH.out.later ho)); (replace HL := Lib.hid (HL.out.trans (ho.mono fun j hj => Or.inr (Nat.le_trans HL.out.size hj)))); clear ho; clear i0 i1 i2 i3; (obtain ⟨i0, i1, i2, i3⟩ := (KC.out _ HL.out)))
      | (go_at_call 66; (with_reducible refine (Put_c _ p q _ HH.out 0 1 (by omega) (by omega)).mono ?_); rintro ee w2 ⟨rfl, hh, ho⟩; (replace HH := Lib.hid hh); (replace HL := Lib.hid (HL.out.trans (ho.mono fun j hj => Or.inl hj))); clear hh ho; clear i0 i1 i2 i3; (obtain ⟨i0, i1, i2, i3⟩ := (KC.out _ HL.out)))
      | (go_at_call 67; (with_reducible refine (HLO.out _).mono ?_); rintro ee w4 ⟨rfl, ho⟩; (replace HH := Lib.hid (HH.out.later ho)); (replace HL := Lib.hid (HL.out.trans (ho.mono fun j hj => Or.inr (Nat.le_trans HL.out.size hj)))); clear ho; clear i0 i1 i2 i3; (obtain ⟨i0, i1, i2, i3⟩ := (KC.out _ HL.out)))
      | (go_at_call 66; (with_reducible refine (Put_c _ p q _ HH.out l 2 HLL.out.1 HLL.out.2).mono ?_); rintro ee w2 ⟨rfl, hh, ho⟩; (replace HH := Lib.hid hh); (replace HL := Lib.hid (HL.out.trans (ho.mono fun j hj => Or.inl hj))); clear hh ho; clear i0 i1 i2 i3; (obtain ⟨i0, i1, i2, i3⟩ := (KC.out _ HL.out)))
      | (go_at_call 43; (with_reducible refine (WBytes_c _ p q _ HH.out _ key (HS.out _ HL.out) HFT.out).mono ?_); rintro ee w2 ⟨rfl, hh, ho⟩; (replace HH := Lib.hid hh); (replace HL := Lib.hid (HL.out.trans (ho.mono fun j hj => Or.inl hj))); clear hh ho; clear i0 i1 i2 i3; (obtain ⟨i0, i1, i2, i3⟩ := (KC.out _ HL.out)))
      | (go_at_call 43; (with_reducible refine (WBytes_c _ p q _ HH.out _ val (HV.out _ HL.out) HFV.out).mono ?_); rintro ee w2 ⟨rfl, hh, ho⟩; (replace HH := Lib.hid hh); (replace HL := Lib.hid (HL.out.trans (ho.mono fun j hj => Or.inl hj))); clear hh ho; clear i0 i1 i2 i3; (obtain ⟨i0, i1, i2, i3⟩ := (KC.out _ HL.out))))
    go_end0
    exact ⟨rfl, HH.out, HF.out _ HL.out⟩
  · go_enter Tryz.func30, Tryz.ntmps30
    go_upto_region 1 with (fail)
    rw [← hW0]
    clear hW0
    go_wp2_with (first
      | (go_at_call 66; (with_reducible refine (Put_c _ p q _ HH.out n 1 HT.out.1 HT.out.2).mono ?_); rintro ee w2 ⟨rfl, hh, ho⟩; (replace HH := Lib.hid hh); (replace HL := Lib.hid (HL.out.trans (ho.mono fun j hj => Or.inl hj))); clear hh ho; clear i0 i1 i2 i3; (obtain ⟨i0, i1, i2, i3⟩ := (KC.out _ HL.out)))
      | (go_at_call 64; (with_reducible refine (HFA.out _).mono ?_); rintro ee w2 ⟨rfl, ho⟩; (replace HH := Lib.hid (HH.out.later ho)); (replace HL := Lib.hid (HL.out.trans (ho.mono fun j hj => Or.inr (Nat.le_trans HL.out.size hj)))); clear ho; clear i0 i1 i2 i3; (obtain ⟨i0, i1, i2, i3⟩ := (KC.out _ HL.out)))
      | (go_at_call 66; (with_reducible refine (Put_c _ p q _ HH.out 1 1 (by omega) (by omega)).mono ?_); rintro ee w2 ⟨rfl, hh, ho⟩; (replace HH := Lib.hid hh); (replace HL := Lib.hid (HL.out.trans (ho.mono fun j hj => Or.inl hj))); clear hh ho; clear i0 i1 i2 i3; (obtain ⟨i0, i1, i2, i3⟩ := (KC.out _ HL.out)))
      | (go_at_call 67; (with_reducible refine (HLO.out _).mono ?_); rintro ee w4 ⟨rfl, ho⟩; (replace HH := Lib.hid (HH.out.later ho)); (replace HL := Lib.hid (HL.out.trans (ho.mono fun j hj => Or.inr (Nat.le_trans HL.out.size hj)))); clear ho; clear i0 i1 i2 i3; (obtain ⟨i0, i1, i2, i3⟩ := (KC.out _ HL.out)))
      | (go_at_call 66; (with_reducible refine (Put_c _ p q _ HH.out l 2 HLL.out.1 HLL.out.2).mono ?_); rintro ee w2 ⟨rfl, hh, ho⟩; (replace HH := Lib.hid hh); (replace HL := Lib.hid (HL.out.trans (ho.mono fun j hj => Or.inl hj))); clear hh ho; clear i0 i1 i2 i3; (obtain ⟨i0, i1, i2, i3⟩ := (KC.out _ HL.out)))
      | (go_at_call 43; (with_reducible refine (WBytes_c _ p q _ HH.out _ key (HS.out _ HL.out) HFT.out).mono ?_); rintro ee w2 ⟨rfl, hh, ho⟩; (replace HH := Lib.hid hh); (replace HL := Lib.hid (HL.out.trans (ho.mono fun j hj => Or.inl hj))); clear hh ho; clear i0 i1 i2 i3; (obtain ⟨i0, i1, i2, i3⟩ := (KC.out _ HL.out)))
      | (go_at_call 43; (with_reducible refine (WBytes_c _ p q _ HH.out _ val (HV.out _ HL.out) HFV.out).mono ?_); rintro ee w2 ⟨rfl, hh, ho⟩; (replace HH := Lib.hid hh); (replace HL := Lib.hid (HL.out.trans (ho.mono fun j hj => Or.inl hj))); clear hh ho; clear i0 i1 i2 i3; (obtain ⟨i0, i1, i2, i3⟩ := (KC.out _ HL.out))))
    clear i0 i1 i2 i3
    replace HL := Lib.hid HL.out.drew
    replace HH : Hid (Holds w2.drew p q 115 _) := Lib.hid (HH.out.drewN 1)
    refine wp_region_list (B := [false, false, false, false, false, false]) (S := (fun W => W.cell? ⟨w.heap.size, 0, none⟩ = some (.slice A n c) ∧ W.cell? ⟨w.heap.size, 1, none⟩ = some (.slice B m d) ∧ W.cell? ⟨w.heap.size, 2, none⟩ = some (.int .i64 s) ∧ W.cell? ⟨w.heap.size, 3, none⟩ = some (.int .i64 r))) (by kernel_rfl) (by kernel_rfl) (by kernel_rfl) (KC.out _ HL.out) (fun hsel hHeld => ?_)
    obtain ⟨wy, hwy⟩ : ∃ wy, wy = w2.drew := ⟨_, rfl⟩
    rw [← hwy] at HL HH hHeld
    rw [← hwy]
    clear hwy
    refine oneA 0 27 hsel (h := ?_)
    simp only [Act.put, List.setIfInBounds_toArray, List.set_cons_zero, List.set_cons_succ]
    refine oneA 1 28 hsel (h := ?_)
    simp only [Act.put, List.setIfInBounds_toArray, List.set_cons_zero, List.set_cons_succ]
    refine oneA 2 29 hsel (h := ?_)
    simp only [Act.put, List.setIfInBounds_toArray, List.set_cons_zero, List.set_cons_succ]
    refine oneA 3 30 hsel (h := ?_)
    simp only [Act.put, List.setIfInBounds_toArray, List.set_cons_zero, List.set_cons_succ]
    refine wpAnyL_ready (rs := [4]) (by kernel_rfl) (by kernel_rfl) (by simp) ?_
    refine AllReadyL.cons (o := ?_) ?_ (fun K hK => ?_) AllReadyL.nil
    case refine_2 => (simp only [List.getElem?_cons_succ, List.getElem?_cons_zero]; rfl)
    go_simp
    (go_at_call 41; (with_reducible refine (HIW.out _ HL.out).mono ?_); rintro ee w4 ⟨rfl, ho⟩; (replace HH := Lib.hid (HH.out.later ho)); (replace HL := Lib.hid (HL.out.trans (ho.mono fun j hj => Or.inr (Nat.le_trans HL.out.size hj)))); clear ho)
    go_wp2_with (fail)
    clear hHeld
    refine hK.out _ _ (KC.out _ HL.out) (fun hHeld => ?_)
    clear hK K
    try simp only [List.set_cons_zero, List.set_cons_succ]
    refine wpAnyL_ready (rs := [5]) (by kernel_rfl) (by kernel_rfl) (by simp) ?_
    refine AllReadyL.cons (o := ?_) ?_ (fun K hK => ?_) AllReadyL.nil
    case refine_2 => (simp only [List.getElem?_cons_succ, List.getElem?_cons_zero]; rfl)
    go_simp
    (go_at_call 66; (with_reducible refine (Put_c _ p q _ HH.out r v HR.out.lo HR.out.hi).mono ?_); rintro ee w2 ⟨rfl, hh, ho⟩; (replace HH := Lib.hid hh); (replace HL := Lib.hid (HL.out.trans (ho.mono fun j hj => Or.inl hj))); clear hh ho)
    go_wp2_with (fail)
    clear hHeld
    refine hK.out _ _ (KC.out _ HL.out) (fun hHeld => ?_)
    clear hK K
    try simp only [List.set_cons_zero, List.set_cons_succ]
    refine wpAnyL_done (by kernel_rfl) (by kernel_rfl) ?_ _
    clear hsel hHeld
    go_wp2
    go_end0
    exact ⟨rfl, HH.out, HF.out _ HL.out⟩
end Go.Proofs.YtoghojgajpfkkaaGreatDoor
