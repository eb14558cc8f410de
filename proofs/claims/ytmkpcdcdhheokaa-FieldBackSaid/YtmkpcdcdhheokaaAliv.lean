/-
  alive.
-/
import Derived.Test.YtmkpcdcdhheokaaWrtr
import Derived.Test.YtmkpcdcdhheokaaRdr
set_option linter.unusedVariables false
namespace Go.Proofs.Ytmkpcdcdhheokaa
open Go.RowKit

def four : Bytes := [1, 2, 7, 0]
theorem cur_eq {c : Cur} {b : Bytes} {a : Nat} {s : Bool} (h1 : c.b = b) (h2 : c.at_ = a) (h3 : c.sp = s) : c = ⟨b, a, s⟩ := by
  cases c
  cases h1
  cases h2
  cases h3
  rfl
theorem alive_put : ((Cur.make 4).put 513 2).put 7 1 = ⟨four, 3, false⟩ := cur_eq (by decide +kernel) (by decide +kernel) (by decide +kernel)
theorem alive_get2 : (Cur.new four).get 2 = ⟨four, 2, false⟩ ∧ (Cur.new four).val 2 = 513 := ⟨cur_eq (by decide +kernel) (by decide +kernel) (by decide +kernel), by decide +kernel⟩
theorem alive_get1 : (⟨four, 2, false⟩ : Cur).get 1 = ⟨four, 3, false⟩ ∧ (⟨four, 2, false⟩ : Cur).val 1 = 7 := ⟨cur_eq (by decide +kernel) (by decide +kernel) (by decide +kernel), by decide +kernel⟩
theorem alive_skip : (⟨four, 3, false⟩ : Cur).take 9 = ⟨four, 3, true⟩ := cur_eq (by decide +kernel) (by decide +kernel) (by decide +kernel)
theorem alive_fits : fits 255 1 = true ∧ fits 256 1 = false := ⟨by decide +kernel, by decide +kernel⟩

theorem NewWriter4_c (w : World) : Calls Try.prog 9 #[.int .i64 4] w (Made w 41 (Cur.make 4)) := NewWriter_c w 4
theorem foot_ge {w0 w w' : World} {p g : Nat} (hp : w0.heap.size ≤ p) (hg : w0.heap.size ≤ g) (h : Only (Foot p g) w w') : Only (w0.heap.size ≤ ·) w w' := h.mono fun k hk => by
  rcases hk with rfl | rfl <;> assumption
theorem self_ge {w0 w w' : World} {p : Nat} (hp : w0.heap.size ≤ p) (h : Only (· = p) w w') : Only (w0.heap.size ≤ ·) w w' := h.mono fun k hk => by subst hk; exact hp
theorem on_new {w0 w w' : World} (h : Only (w0.heap.size ≤ ·) w0 w) (ho : Only (w.heap.size ≤ ·) w w') : Only (w0.heap.size ≤ ·) w0 w' := h.trans (ho.mono fun k hk => Nat.le_trans h.size hk)
theorem src_lit (w : World) : Src (w.alloc (.cells #[.int .u8 1, .int .u8 2, .int .u8 7, .int .u8 0] 5)) (.slice (some ⟨w.heap.size, 0, none⟩) 4 4) four := by
  refine ⟨_, _, rfl, ?_, (fun e => by cases e), Nat.le_refl _, by decide⟩
  exact Txt.blk (xs := four) (rest := []) (Blk.new w 5 [.int .u8 1, .int .u8 2, .int .u8 7, .int .u8 0]) 0 4 (by decide) (fun _ => rfl)

/-- What stands behind the first calls of alive. -/
structure Alive (w : World) (p g q s : Nat) (w' : World) : Prop where
  wr : Holds w' p g 41 ⟨four, 3, false⟩
  rd : Holds w' q s 55 ⟨four, 3, true⟩
  only : Only (w.heap.size ≤ ·) w w'
theorem Alive.later {w w1 w2 : World} {p g q s : Nat} (h : Alive w p g q s w1) (ho : Only (w1.heap.size ≤ ·) w1 w2) : Alive w p g q s w2 := ⟨h.wr.later ho, h.rd.later ho, on_new h.only ho⟩
theorem Alive.drawn {w w1 w2 : World} {p g q s : Nat} (h : Alive w p g q s w1) (ho : Drawn w1 w2) : Alive w p g q s w2 := h.later ho.any

theorem put1_c (W : World) (p g : Nat) (h : Holds W p g 41 (Cur.make 4)) : Calls Try.prog 11 #[.pointer (some ⟨p, 0, none⟩), .int .i64 513, .int .i64 2] W fun e w' => e = .returned (.tuple #[]) ∧ Holds w' p g 41 ((Cur.make 4).put 513 2) ∧ Only (Foot p g) W w' := Put_c W p g _ h 513 2 (by omega) (by omega)
theorem put2_c (W : World) (p g : Nat) (h : Holds W p g 41 ((Cur.make 4).put 513 2)) : Calls Try.prog 11 #[.pointer (some ⟨p, 0, none⟩), .int .i64 7, .int .i64 1] W fun e w' => e = .returned (.tuple #[]) ∧ Holds w' p g 41 ⟨four, 3, false⟩ ∧ Only (Foot p g) W w' := by
  have := Put_c W p g _ h 7 1 (by omega) (by omega)
  rwa [alive_put] at this
theorem done4_c (W : World) (p g : Nat) (h : Holds W p g 41 ⟨four, 3, false⟩) : Calls Try.prog 17 #[.pointer (some ⟨p, 0, none⟩)] W fun e w' => ∃ v, e = .returned (.tuple #[v, .int .i64 0]) ∧ Src w' v four ∧ Only (W.heap.size ≤ ·) W w' := Done_c W p g _ h
theorem reader4_c (W : World) (v : Value) (h : Src W v four) : Calls Try.prog 21 #[v] W fun e w' => ∃ p g, e = .returned (.pointer (some ⟨p, 0, none⟩)) ∧ W.heap.size ≤ p ∧ W.heap.size ≤ g ∧ Holds w' p g 55 (Cur.new four) ∧ Only (W.heap.size ≤ ·) W w' ∧ g < w'.heap.size := NewReader_c W v four h (by decide)
theorem get1_c (W : World) (q s : Nat) (h : Holds W q s 55 (Cur.new four)) : Calls Try.prog 22 #[.pointer (some ⟨q, 0, none⟩), .int .i64 2] W fun e w' => e = .returned (.int .i64 513) ∧ Holds w' q s 55 ⟨four, 2, false⟩ ∧ Only (· = q) W w' := by
  have := Get_c W q s _ h 2
  unfold Gets at this
  rwa [alive_get2.1, alive_get2.2] at this
theorem get2_c (W : World) (q s : Nat) (h : Holds W q s 55 ⟨four, 2, false⟩) : Calls Try.prog 22 #[.pointer (some ⟨q, 0, none⟩), .int .i64 1] W fun e w' => e = .returned (.int .i64 7) ∧ Holds w' q s 55 ⟨four, 3, false⟩ ∧ Only (· = q) W w' := by
  have := Get_c W q s _ h 1
  unfold Gets at this
  rwa [alive_get1.1, alive_get1.2] at this
theorem skip9_c (W : World) (q s : Nat) (h : Holds W q s 55 ⟨four, 3, false⟩) : Calls Try.prog 15 #[.pointer (some ⟨q, 0, none⟩), .int .i64 9] W fun e w' => e = .returned (.tuple #[]) ∧ Holds w' q s 55 ⟨four, 3, true⟩ ∧ Only (· = q) W w' := by
  have := Skip_c W q s 55 _ h 9
  rwa [alive_skip] at this

/-- The calls of alive's last row, whatever was drawn. -/
structure Last (w : World) (p q : Nat) (v : Value) (w' : World) : Prop where
  err : Calls Try.prog 24 #[.pointer (some ⟨q, 0, none⟩)] w' fun e w2 => e = .returned (.int .i64 30) ∧ w' = w2
  at_ : Calls Try.prog 18 #[.pointer (some ⟨q, 0, none⟩)] w' fun e w2 => e = .returned (.int .i64 3) ∧ w' = w2
  wat : Calls Try.prog 18 #[.pointer (some ⟨p, 0, none⟩)] w' fun e w2 => e = .returned (.int .i64 3) ∧ w' = w2
  left : Calls Try.prog 26 #[.pointer (some ⟨q, 0, none⟩)] w' fun e w2 => e = .returned (.int .i64 1) ∧ Drawn w' w2
theorem Alive.last {w w1 : World} {p g q s : Nat} {v : Value} (h : Alive w p g q s w1) : Last w p q v w1 :=
  ⟨Err_c w1 q s _ h.rd, At_c w1 q s _ _ h.rd, At_c w1 p g _ _ h.wr, Left_c w1 q s _ h.rd⟩

set_option maxRecDepth 100000 in
set_option maxHeartbeats 1600000 in
theorem alive_c (w : World) :
    Calls Try.prog 8 #[] w fun e w' => e = .returned (.bool true) ∧ Only (w.heap.size ≤ ·) w w' := by
  have F1 : ∀ W : World, Calls Try.prog 25 #[.int .i64 255, .int .i64 1] W fun e w' => e = .returned (.bool true) ∧ W = w' := fun W => (Fits_c W 255 1 (by omega) (by omega)).mono fun e w' ⟨h, h'⟩ => ⟨by rw [h, alive_fits.1], h'⟩
  have F2 : ∀ W : World, Calls Try.prog 25 #[.int .i64 256, .int .i64 1] W fun e w' => e = .returned (.bool false) ∧ W = w' := fun W => (Fits_c W 256 1 (by omega) (by omega)).mono fun e w' ⟨h, h'⟩ => ⟨by rw [h, alive_fits.2], h'⟩
  have HF1 := Lib.hid F1
  have HF2 := Lib.hid F2
  clear F1 F2
  go_enter Try.func8, Try.ntmps8
  go_wp2_with (first | (go_at_call 9; refine (NewWriter4_c _).mono ?_; rintro e w1 ⟨p, g, rfl, hp, hg, hh, ho, hlt⟩; clear hlt; have HP := Lib.hid hp; have HG := Lib.hid hg; have H1 := Lib.hid hh; have O1 := Lib.hid ho; clear hp hg hh ho) | (go_at_call 11; (with_reducible refine (put1_c _ p g H1.out).mono ?_); rintro e w2 ⟨rfl, hh, ho⟩; have H2 := Lib.hid hh; have O2 := Lib.hid (O1.out.trans (foot_ge HP.out HG.out ho)); clear hh ho) | (go_at_call 11; (with_reducible refine (put2_c _ p g H2.out).mono ?_); rintro e w3 ⟨rfl, hh, ho⟩; have H3 := Lib.hid hh; have O3 := Lib.hid (O2.out.trans (foot_ge HP.out HG.out ho)); clear hh ho) | (go_at_call 17; refine (done4_c _ p g H3.out).mono ?_; rintro e w4 ⟨v, rfl, hs, ho⟩; have HS := Lib.hid hs; have H4 := Lib.hid (H3.out.later ho); have O4 := Lib.hid (on_new O3.out ho); clear hs ho) | (go_at_call 21; refine (reader4_c _ v HS.out).mono ?_; rintro e w5 ⟨q, s, rfl, hq, hs, hh, ho, hlt⟩; clear hlt; have HQ := Lib.hid hq; have H5 := Lib.hid hh; have R5 := Lib.hid ho; clear hq hs hh ho) | (go_at_call 22; (with_reducible refine (get1_c _ q s H5.out).mono ?_); rintro e w6 ⟨rfl, hh, ho⟩; have H6 := Lib.hid hh; have R6 := Lib.hid (R5.out.trans (self_ge HQ.out ho)); clear hh ho) | (go_at_call 22; (with_reducible refine (get2_c _ q s H6.out).mono ?_); rintro e w7 ⟨rfl, hh, ho⟩; have H7 := Lib.hid hh; have R7 := Lib.hid (R6.out.trans (self_ge HQ.out ho)); clear hh ho) | (go_at_call 15; refine (skip9_c _ q s H7.out).mono ?_; rintro e w8 ⟨rfl, hh, ho⟩; have R8 := Lib.hid (R7.out.trans (self_ge HQ.out ho)); have HA := Lib.hid (Alive.mk (w := w) (H4.out.later R8.out) hh (on_new O4.out R8.out)); have HB := Lib.hid (HA.out.later ((Only.refl _ w8).alloc (fun _ h => h) (.cells #[.int .u8 1, .int .u8 2, .int .u8 7, .int .u8 0] 5))); have HS8 := Lib.hid ((HS.out.later R8.out).later ((Only.refl _ w8).alloc (fun _ h => h) (.cells #[.int .u8 1, .int .u8 2, .int .u8 7, .int .u8 0] 5))); have HL8 := Lib.hid (src_lit w8); clear hh ho) | (go_at_call 19; refine (Equal_c _ _ _ four four HS8.out HL8.out).mono ?_; rintro e w9 ⟨rfl, rfl⟩) | (go_at_call 24; refine (HB.out.last (v := v)).err.mono ?_; rintro e w9 ⟨rfl, rfl⟩) | (go_at_call 26; refine (HB.out.last (v := v)).left.mono ?_; rintro e w10 ⟨rfl, hd⟩; have HB2 := Lib.hid (HB.out.drawn hd); clear hd) | (go_at_call 18; (with_reducible refine (HB.out.last (v := v)).at_.mono ?_); rintro e w9 ⟨rfl, rfl⟩) | (go_at_call 18; (with_reducible refine (HB2.out.last (v := v)).wat.mono ?_); rintro e w9 ⟨rfl, rfl⟩) | (go_at_call 25; (with_reducible refine (HF1.out _).mono ?_); rintro e w9 ⟨rfl, rfl⟩) | (go_at_call 25; (with_reducible refine (HF2.out _).mono ?_); rintro e w9 ⟨rfl, rfl⟩))
  go_ret
  exact ⟨rfl, HB2.out.only⟩
end Go.Proofs.Ytmkpcdcdhheokaa
