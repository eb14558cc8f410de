/-
  of.
-/
import Derived.Test.YtbpldkhgiddmlaaGreatDoorPgx
import Derived.Test.YtbpldkhgiddmlaaGreatDoorPcn
import Derived.Laws.AppendOwnNone
set_option linter.unusedVariables false
namespace Go.Proofs.YtbpldkhgiddmlaaGreatDoor
open Go.RowKit Go.Proofs

/-- Writes of the call's own came back. -/
def GaveW0 (w0 w : World) (l : List Wt) (e : Ending) (w' : World) : Prop := ∃ (R : Option Addr) (t : Nat) (C : List Value), e = .returned (.slice R l.length t) ∧ (∀ W, Only (w0.heap.size ≤ ·) w0 W → Den (wrE.At W) l C) ∧ w'.ownsRow w.heap.size 71 2 (.slice R l.length t) l.length C ∧ Only (w.heap.size ≤ ·) w w'
set_option maxRecDepth 100000 in
set_option maxHeartbeats 6400000 in
theorem Pgof_0 (w0 w : World) (A : Option Addr) (n c : Nat) (l : List Wt) (h : Wts w0 (.slice A n c) l) (h0 : Only (w0.heap.size ≤ ·) w0 w) (hn : n ≤ 1000) : Calls Tryz.prog 13 #[.slice A n c] w (GaveW0 w0 w l) := by
  obtain ⟨i1, hi0, hz0, hz1, hz2⟩ := info_parts info_W
  have HI1 := Lib.hid (And.intro hi0 (And.intro hz0 (And.intro hz1 hz2)))
  clear hi0 hz0 hz1 hz2
  have hc1 := h.cap
  have HNL := Lib.hid h.len
  obtain ⟨C, hC⟩ := h.srw
  have H0 := Lib.hid h0
  clear h0
  have HS1 : Hid (∀ W, Only (w0.heap.size ≤ ·) w0 W → Den (wrE.At W) l C ∧ RawV 2 W (.slice A n c) n C) := Lib.hid (fun W hW => by
    have h := hC W (hW.mono fun _ h => .inr h)
    exact ⟨h.1, by have h2 := h.2; rw [← HNL.out] at h2; exact h2⟩)
  have HW0 := Lib.hid h
  have HCL : Hid (C.length = n * 2) := Lib.hid (by rw [HNL.out]; exact Den.length (fun _ _ => wrE.len) (HS1.out w0 (Only.refl _ _)).1)
  clear hC h
  go_enter Tryz.func13, Tryz.ntmps13
  go_wp2
  go_loopg [3, 8] n (fun gk s i wr => ∃ (k : Nat) (R : Option Addr) (t : Nat), gk = n - k ∧ k ≤ n ∧ s = .slice R k t ∧ i = .int .i64 (k : Int) ∧ Hid (wr.ownsRow w.heap.size 71 2 (.slice R k t) k (C.take (k * 2))) ∧ Hid (Only (w.heap.size ≤ ·) w wr))
  case atStart => exact ⟨0, none, 0, rfl, Nat.zero_le _, rfl, rfl, Lib.hid (by rw [Nat.zero_mul, List.take_zero]; exact World.ownsRow_nil _ _ _ _), Lib.hid (Only.refl _ _)⟩
  case round =>
    obtain ⟨k, R, t, rfl, hk, rfl, rfl, HR, HO⟩ := hrel
    by_cases hlt : k < n
    · have hlt' : (k : Int) < (n : Int) := by omega
      obtain ⟨b, off, x, P, cp, rfl, hx, c0, c1, _⟩ := wts_get (Rw.later HW0.out (on_new H0.out HO.out)) hlt
      have HCK : Hid (C.take ((k + 1) * 2) = C.take (k * 2) ++ [.int .i64 x.1, .slice P x.2.length cp]) := Lib.hid (by
        obtain ⟨hd, A1, cc, e1, _, hr, _⟩ := HS1.out wr (on_new H0.out HO.out)
        simp only [Value.slice.injEq] at e1
        obtain ⟨e2, _, _⟩ := e1
        subst e2
        obtain ⟨b', off', e', _, hcc⟩ := hr (by rw [HCL.out]; omega)
        cases e'
        have q0 := hcc (k * 2) _ (List.getElem?_eq_getElem (by rw [HCL.out]; omega))
        have q1 := hcc (k * 2 + 1) _ (List.getElem?_eq_getElem (by rw [HCL.out]; omega))
        rw [c0] at q0
        rw [← Nat.add_assoc, c1] at q1
        simp only [Option.some.injEq] at q0 q1
        rw [show (k + 1) * 2 = k * 2 + 1 + 1 by omega, List.take_add_one, List.take_add_one, List.getElem?_eq_getElem (by rw [HCL.out]; omega), List.getElem?_eq_getElem (by rw [HCL.out]; omega), ← q0, ← q1]
        simp)
      have HB : Hid (Blk ((wr.alloc (.cells #[.int .i64 x.1, .slice P x.2.length cp] 68)).alloc (.cells #[.int .i64 x.1, .slice P x.2.length cp] 71)) (wr.heap.size + 1) 71 [.int .i64 x.1, .slice P x.2.length cp]) := Lib.hid (by
        have := Blk.new (wr.alloc (.cells #[.int .i64 x.1, .slice P x.2.length cp] 68)) 71 [.int .i64 x.1, .slice P x.2.length cp]
        simpa using this)
      go_wp2_with (at_builtin; refine wpList_append_own _ rfl (.tmp 12) (.tmp 14) 47 rfl w.heap.size 71 i1 zW 2 32 Tryz.underlying47 HI1.out.1 HI1.out.2.1 HI1.out.2.2.1 HI1.out.2.2.2 (by rfl) (by omega) (.slice R k t) k (C.take (k * 2)) rfl ((World.ownsRow.alloc HR.out _).alloc _) ⟨wr.heap.size + 1, 0, none⟩ 1 1 [.int .i64 x.1, .slice P x.2.length cp] rfl rfl (fun j u hu => by rw [Addr.add_lit, HB.out.cell, Nat.zero_add]; exact hu) (by simp [Value.oneCell']) (by simp only [maxLen]; omega) (by omega) (by have := HO.out.size; simp; omega) ?_; intro v' w' ho' hg' hbk; (obtain ⟨R2, t2, rfl, _⟩ := raw_of_own ho'); have HRN := Lib.hid ho'; have HG := Lib.hid hg'; clear ho' hg' hbk)
      go_roundg (n - (k + 1))
      case measure => omega
      case rel =>
        refine ⟨k + 1, R2, t2, rfl, by omega, rfl, by go_num, Lib.hid (by rw [HCK.out]; exact HRN.out), Lib.hid ?_⟩
        refine ((HO.out.alloc (fun _ h => h) _).alloc (fun j hj => hj) _).grown HG.out (fun _ h => h) (fun g hg => ?_)
        obtain ⟨A2, c2, e2, _, _, _, _, hb2⟩ := raw_of_own HR.out
        simp only [Value.slice.injEq] at e2
        obtain ⟨e3, _, _⟩ := e2
        subst e3
        cases R with
        | none => cases hg
        | some ad =>
          obtain ⟨g', e4, e5, e6, _⟩ := hb2 ad rfl
          rw [e5] at hg
          cases hg
          exact e6
    · obtain rfl : k = n := by omega
      have hkm : ¬ (k : Int) < (k : Int) := by omega
      have HRL : Hid (wr.ownsRow w.heap.size 71 2 (.slice R l.length t) l.length C) := Lib.hid (by
        have h1 := HR.out
        rw [List.take_of_length_le (by rw [HCL.out]; exact Nat.le_refl _), HNL.out] at h1
        exact h1)
      go_wp2
      go_ret
      exact ⟨R, t, C, (by rw [← HNL.out]; rfl), fun W hW => (HS1.out W hW).1, HRL.out, HO.out⟩
/-- A row of the call's own, of writes that stood ahead of it, stays. -/
theorem srw_of {w0 w w' : World} {D : Nat → Prop} {R : Option Addr} {n t : Nat} {C : List Value} {l : List Wt} (hden : ∀ W, Only (w0.heap.size ≤ ·) w0 W → Den (wrE.At W) l C) (how : w'.ownsRow w.heap.size 71 2 (.slice R n t) n C) (hl : n = l.length) (hD : ∀ k, D k → w0.heap.size ≤ k ∧ k < w.heap.size) (h0 : Only (w0.heap.size ≤ ·) w0 w') : SRw wrE D w' (.slice R n t) l := by
  subst hl
  refine ⟨C, fun W hW => ⟨hden W (h0.trans (hW.mono fun k hk => hk.elim (fun h => (hD k h).1) (fun h => Nat.le_trans h0.size h))), ?_⟩⟩
  exact raw_stab how (Den.one (fun _ _ => wrE.one) (hden w' h0)) (fun k hk => (hD k hk).2) W hW
end Go.Proofs.YtbpldkhgiddmlaaGreatDoor
