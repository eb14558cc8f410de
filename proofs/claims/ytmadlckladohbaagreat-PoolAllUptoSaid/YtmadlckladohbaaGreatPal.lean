/-
  The law's alive.
-/
import Derived.Test.YtmadlckladohbaaGreatPok
set_option linter.unusedVariables false
namespace Go.Proofs.YtmadlckladohbaaGreat
open Go.RowKit Go.Shelf

def aS0 : PS := NewS [(5, 2)] [] 1 8 20
def aS1 : PS := TookS aS0 5 2
def aS2 : PS := GrewS aS1 8 1
def aS3 : PS := GaveS aS2 3 (5, 2)
def aS4 : PS := SettledS aS3 3
theorem in52 (p : Int) : inn [(5, 2)] p = true ↔ 5 ≤ p ∧ p < 7 := by simp [inn]
theorem a_new : NewOk [(5, 2)] [] 1 8 20 := by
  refine ⟨by decide, by decide, by decide, by decide, ⟨⟨rfl, fun p hp => ?_⟩, ⟨rfl, fun p hp => by simp [inn] at hp⟩, fun p _ hp => by simp [inn] at hp⟩, by decide, by decide⟩
  rw [in52] at hp
  omega
theorem aF1 (p : Int) : ¬ aS1.F p := fun h => h.2 (by
  have : inn [(5, 2)] p = true := h.1
  rw [in52] at this
  exact ⟨by show (5 : Int) ≤ p; omega, by show p < 5 + 2; omega⟩)
theorem a0 : aS0.Ok := NewS_ok a_new
theorem a1 : aS1.Ok := took_ok a0 5 2
theorem a2 : aS2.Ok := grew_ok a1 (by decide) (by decide)
theorem aH2 (t p : Int) : ¬ aS2.H t p := fun h => by
  have : inn [] p = true := h.2
  simp [inn] at this
theorem aF2 (p : Int) : ¬ aS2.F p := fun h => aF1 p h.1
theorem aG3 : ¬ GiveArg aS2 3 (5, 2) := by
  show ¬ ((3 : Int) < 0 ∨ (5 : Int) < 2 ∨ (2 : Int) < 1 ∨ (8 + 1 : Int) - 5 < 2)
  decide
theorem aU3 : Unused aS2 (5, 2) := fun p _ => ⟨aF2 p, fun t => aH2 t p⟩
theorem a3 : aS3.Ok := gave_ok a2 aG3 aU3
theorem aG4 : ¬ GiveArg aS3 4 (6, 1) := by
  show ¬ ((4 : Int) < 0 ∨ (6 : Int) < 2 ∨ (1 : Int) < 1 ∨ (8 + 1 : Int) - 6 < 1)
  decide
theorem aU4 : ¬ Unused aS3 (6, 1) := fun h => (h 6 ⟨by decide, by decide⟩).2 3 (.inr ⟨rfl, by unfold within; decide⟩)
theorem a4 : aS4.Ok := settled_ok a3 3
theorem aH3 (t p : Int) : aS3.H t p ↔ t = 3 ∧ 5 ≤ p ∧ p < 7 := by
  constructor
  · rintro (h | ⟨h1, h2, h3⟩)
    · exact absurd h (aH2 t p)
    · exact ⟨h1, h2, by simpa using h3⟩
  · rintro ⟨h1, h2, h3⟩
    exact .inr ⟨h1, h2, by show p < 5 + 2; omega⟩
theorem aR4 : IsRow [(5, 2)] aS4.F := ⟨rfl, fun p => by
  rw [in52]
  constructor
  · intro h
    exact .inr ⟨3, by decide, (aH3 3 p).2 ⟨rfl, h⟩⟩
  · rintro (h | ⟨t, _, h⟩)
    · exact absurd h (aF2 p)
    · exact ((aH3 t p).1 h).2⟩
theorem aR4h : IsRow [] (fun p => ∃ t, aS4.H t p) := ⟨rfl, fun p => by
  constructor
  · intro h; simp [inn] at h
  · rintro ⟨t, h1, h2⟩
    have := ((aH3 t p).1 h2).1
    omega⟩
theorem aR3h : IsRow [(5, 2)] (fun p => ∃ t, aS3.H t p) := ⟨rfl, fun p => by
  rw [in52]
  exact ⟨fun h => ⟨3, (aH3 3 p).2 ⟨rfl, h⟩⟩, fun ⟨t, h⟩ => ((aH3 t p).1 h).2⟩⟩
theorem aR33 : IsRow [(5, 2)] (aS3.H 3) := ⟨rfl, fun p => by
  rw [in52, aH3]
  exact ⟨fun h => ⟨rfl, h⟩, fun h => h.2⟩⟩
theorem a_first : First [(5, 2)] 2 0 (5, 2) := ⟨by decide, rfl, by decide, fun j y hj => absurd hj (Nat.not_lt_zero _)⟩
theorem a_row0 : IsRow [(5, 2)] aS0.F := ⟨rfl, fun p => Iff.rfl⟩
theorem a_row1 : IsRow [] aS1.F := ⟨rfl, fun p => ⟨fun h => by simp [inn] at h, fun h => absurd h (aF1 p)⟩⟩
theorem a_noroom : NoRoom [] 1 := .inr fun r hr => by simp [known, right, rightFrom] at hr
theorem a_tail : IsTail aS1 8 := tail_end a1 (aF1 _)

theorem a_pages {w : World} {pb mb : Nat} (h : At w pb mb 2 aS4) : Calls Tryz.prog 20 #[.pointer (some ⟨pb, 0, none⟩)] w (Told w (.int .i64 9)) := pPages_c w pb mb 2 aS4 h
theorem field_held (A B : Option Addr) (n c m d : Nat) (W : World) : (Instr.field 35 (.agg #[.slice A n c, .slice B m d]) 1).run Tryz.prog W = .ok (.slice B m d) W := by kernel_rfl
set_option maxRecDepth 100000 in
set_option maxHeartbeats 6400000 in
theorem alive_c (w : World) : Calls Tryz.prog 5 #[] w (Told w (.bool true)) := by
  have HO0 : Hid (Only (w.heap.size ≤ ·) w (w.alloc (.cells #[.int .i64 5, .int .i64 2] 54))) := Lib.hid ((Only.refl _ w).alloc (fun _ h => h) _)
  have HNEW : Hid (Calls Tryz.prog 6 #[.agg #[.slice (some ⟨w.heap.size, 0, none⟩) 1 1, .slice none 0 0], .int .i64 1, .int .i64 8, .int .i64 20] (w.alloc (.cells #[.int .i64 5, .int .i64 2] 54)) (NewSays (w.alloc (.cells #[.int .i64 5, .int .i64 2] 54)) aS0)) :=
    Lib.hid (New_ok _ _ _ _ _ _ _ [(5, 2)] [] 1 8 20 one_row (Row.nil_ _) (by decide) a_new)
  have hfd := field_held
  go_enter Tryz.func5, Tryz.ntmps5
  go_wp2_with (first
    | (go_at_call 6; (with_reducible refine HNEW.out.mono ?_); rintro e w1 ⟨pb, mb, rfl, hp, hm, ha, ho⟩; have HP := Lib.hid ha; have HG : Hid (w.heap.size ≤ pb ∧ w.heap.size ≤ mb) := Lib.hid ⟨Nat.le_trans HO0.out.size hp, Nat.le_trans HO0.out.size hm⟩; have HO := Lib.hid (on_new HO0.out ho); clear hp hm ha ho)
    | (go_at_call 11; (with_reducible refine (tk_yes HP.out a_row0 a_first).mono ?_); rintro e w2 ⟨rfl, ha, ht⟩; replace HP : Hid (At w2 pb mb 1 aS1) := Lib.hid ha; replace HO := Lib.hid (down_new HO.out ht HG.out.1 HG.out.2); clear ha ht)
    | (go_at_call 11; (with_reducible refine (tk_grow HP.out a1 a_row1 (by decide) a_noroom a_tail (by decide)).mono ?_); rintro e w3 ⟨rfl, ha, ht⟩; replace HP : Hid (At w3 pb mb 1 aS2) := Lib.hid ha; replace HO := Lib.hid (down_new HO.out ht HG.out.1 HG.out.2); clear ha ht)
    | (go_at_call 13; (with_reducible refine (Give_ok _ pb mb 1 aS2 3 (5, 2) HP.out a2 aG3 aU3 (by decide) (by decide)).mono ?_); rintro e w4 ⟨rfl, ha, ht⟩; replace HP : Hid (At w4 pb mb 2 aS3) := Lib.hid ha; replace HO := Lib.hid (down_new HO.out ht HG.out.1 HG.out.2); clear ha ht)
    | (go_at_call 13; (with_reducible refine (Give_twice _ pb mb 2 aS3 4 (6, 1) HP.out a3 aG4 aU4).mono ?_); rintro e w5 ⟨rfl, ho⟩; replace HP := Lib.hid (HP.out.later ho); replace HO := Lib.hid (on_new HO.out ho); clear ho)
    | (go_at_call 18; (with_reducible refine (Copy_c _ pb mb 2 aS3 HP.out).mono ?_); rintro e w6 ⟨qb, qm, rfl, hq1, hq2, hq, ho⟩; have HQ := Lib.hid hq; replace HP := Lib.hid (HP.out.later ho); replace HO := Lib.hid (on_new HO.out ho); clear ho hq hq1 hq2)
    | (go_at_call 14; (with_reducible refine (Settle_c _ pb mb 2 aS3 5 9 HP.out a3 (by decide) (by decide)).mono ?_); rintro e w7 ⟨rfl, ha, ht⟩; replace HP : Hid (At w7 pb mb 2 aS4) := Lib.hid ha; replace HQ := Lib.hid (HQ.out w7 ht); replace HO := Lib.hid (down_new HO.out ht HG.out.1 HG.out.2); clear ha ht)
    | (go_at_call 20; (with_reducible refine (a_pages HP.out).mono ?_); rintro e w8 ⟨rfl, ho⟩; replace HP := Lib.hid (HP.out.later ho); replace HQ := Lib.hid (HQ.out.later ho); replace HO := Lib.hid (on_new HO.out ho); clear ho)
    | (go_at_call 22; (with_reducible refine (Free_b HP.out).mono ?_); rintro e w9 ⟨⟨A1, n1, c1, u1, rfl, hv, hu⟩, ho⟩; have HR1 := Lib.hid hv.row; have HU1 := Lib.hid hu; replace HP := Lib.hid (HP.out.later ho); replace HQ := Lib.hid (HQ.out.later ho); replace HO := Lib.hid (on_new HO.out ho); clear hv hu ho)
    | (go_at_call 21; (with_reducible refine (Count_b HR1.out HU1.out aR4 2 (by decide)).mono ?_); rintro e w10 ⟨rfl, ho⟩; replace HP := Lib.hid (HP.out.later ho); replace HQ := Lib.hid (HQ.out.later ho); replace HO := Lib.hid (on_new HO.out ho); clear ho)
    | (go_at_call 23; (with_reducible refine (Held_b HP.out a4).mono ?_); rintro e w11 ⟨⟨A2, n2, c2, u2, rfl, hv, hu⟩, ho⟩; have HR2 := Lib.hid hv.row; have HU2 := Lib.hid hu; replace HP := Lib.hid (HP.out.later ho); replace HQ := Lib.hid (HQ.out.later ho); replace HO := Lib.hid (on_new HO.out ho); clear hv hu ho)
    | (go_at_call 21; (with_reducible refine (Count_b HR2.out HU2.out aR4h 0 (by decide)).mono ?_); rintro e w12 ⟨rfl, ho⟩; replace HP := Lib.hid (HP.out.later ho); replace HQ := Lib.hid (HQ.out.later ho); replace HO := Lib.hid (on_new HO.out ho); clear ho)
    | (go_at_call 23; (with_reducible refine (Held_b HQ.out a3).mono ?_); rintro e w13 ⟨⟨A3, n3, c3, u3, rfl, hv, hu⟩, ho⟩; have HR3 := Lib.hid hv.row; have HU3 := Lib.hid hu; replace HP := Lib.hid (HP.out.later ho); replace HQ := Lib.hid (HQ.out.later ho); replace HO := Lib.hid (on_new HO.out ho); clear hv hu ho)
    | (go_at_call 21; (with_reducible refine (Count_b HR3.out HU3.out aR3h 2 (by decide)).mono ?_); rintro e w14 ⟨rfl, ho⟩; replace HP := Lib.hid (HP.out.later ho); replace HQ := Lib.hid (HQ.out.later ho); replace HO := Lib.hid (on_new HO.out ho); clear ho)
    | (go_at_call 24; (with_reducible refine (State_c _ qb qm 2 aS3 3 HQ.out a3 (by decide)).mono ?_); rintro e w15 ⟨A4, n4, c4, B4, m4, d4, la, lb, rfl, ha, hb, hra, hrb, ho⟩; have HR4 := Lib.hid hb; have HU4 := Lib.hid hrb; replace HP := Lib.hid (HP.out.later ho); replace HQ := Lib.hid (HQ.out.later ho); replace HO := Lib.hid (on_new HO.out ho); clear ha hb hra hrb ho)
    | (go_at_call 21; (with_reducible refine (Count_b HR4.out HU4.out aR33 2 (by decide)).mono ?_); rintro e w16 ⟨rfl, ho⟩; replace HP := Lib.hid (HP.out.later ho); replace HQ := Lib.hid (HQ.out.later ho); replace HO := Lib.hid (on_new HO.out ho); clear ho))
  go_ret
  exact ⟨rfl, HO.out⟩
end Go.Proofs.YtmadlckladohbaaGreat
