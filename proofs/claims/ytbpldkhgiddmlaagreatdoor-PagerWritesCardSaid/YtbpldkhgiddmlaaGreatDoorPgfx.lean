/-
  few, however long the writes are.
-/
import Derived.Test.YtbpldkhgiddmlaaGreatDoorPgq
set_option linter.unusedVariables false
namespace Go.Proofs.YtbpldkhgiddmlaaGreatDoor
open Go.RowKit

set_option maxRecDepth 100000 in
set_option maxHeartbeats 6400000 in
theorem Pgfew_far (w : World) (g ph t x r p l : Int) (A : Option Addr) (n c : Nat) (RA : Option Addr) (rn rc : Nat) (ws : List Wt) (h : Wts w (.slice RA rn rc) ws) (hs : 12 < rn) :
    Calls Tryz.prog 5 #[.slice RA rn rc, .agg #[.int .i64 g, .int .i64 ph, .int .i64 t, .int .i64 x, .int .i64 r, .int .i64 p, .int .i64 l, .slice A n c]] w (Told w (.bool false)) := by
  obtain ⟨w1, hw1⟩ : ∃ W0, W0 = w.alloc (.cells #[.int .i64 g, .int .i64 ph, .int .i64 t, .int .i64 x, .int .i64 r, .int .i64 p, .int .i64 l, .slice A n c] 25) := ⟨_, rfl⟩
  have HO1 : Hid (Only (w.heap.size ≤ ·) w w1) := Lib.hid (by rw [hw1]; exact (Only.refl _ w).alloc (fun _ h => h) _)
  have HA : Hid (Blk w1 w.heap.size 25 [.int .i64 g, .int .i64 ph, .int .i64 t, .int .i64 x, .int .i64 r, .int .i64 p, .int .i64 l, .slice A n c]) := Lib.hid (by rw [hw1]; exact Blk.new w 25 _)
  have HCP := Lib.hid h.cap
  have HRN := Lib.hid h.len
  have HW := Lib.hid h
  have HS := Lib.hid hs
  clear h hs
  go_enter Tryz.func5, Tryz.ntmps5
  go_upto_region 1 with (fail)
  rw [← hw1]
  clear hw1
  go_wp2
  go_loopg [5, 10] rn (fun gk s i wr => ∃ (k : Nat) (z : Int), gk = rn - k ∧ k ≤ rn ∧ s = .int .i64 z ∧ i = .int .i64 (k : Int) ∧ Hid (Only (w1.heap.size ≤ ·) w1 wr))
  case atStart => exact ⟨0, 0, rfl, Nat.zero_le _, rfl, rfl, Lib.hid (Only.refl _ _)⟩
  case round =>
    obtain ⟨k, z, rfl, hk, rfl, rfl, HO⟩ := hrel
    by_cases hlt : k < rn
    · obtain ⟨b, off, y, P, cp, rfl, hx, q0, q1, _⟩ := wts_get (Rw.later HW.out (on_new HO1.out HO.out)) hlt
      have hlt' : (k : Int) < (rn : Int) := by omega
      have hrn63 : (rn : Int) ≤ 9223372036854775807 := by have := HCP.out; omega
      clear hx
      go_wp2
      go_roundg (rn - (k + 1))
      case measure => omega
      case rel => exact ⟨k + 1, _, rfl, by omega, rfl, by go_num, Lib.hid (HO.out.alloc (fun _ h => h) _)⟩
    · obtain rfl : k = rn := by omega
      have hkm : ¬ (k : Int) < (k : Int) := by omega
      have HB := Lib.hid (HA.out.only HO.out (Nat.not_le.2 HA.out.lt))
      obtain ⟨i0, i1, i2, i3, i4, i5, i6, i7⟩ := HB.out.eight
      have HOO := Lib.hid (on_new HO1.out HO.out)
      have h1 : ¬ (k : Int) ≤ 12 := by have h2 := HS.out; omega
      go_wp2
      go_ret
      exact ⟨rfl, HOO.out⟩
theorem sumW_bulk : ∀ (l : List Wt), (∀ y ∈ l, y.2.length ≤ 140737488355328) → sumW l ≤ l.length * 140737488355328
  | [], _ => Nat.zero_le _
  | x :: r, h => by
    have h1 := sumW_bulk r (fun y hy => h y (List.mem_cons_of_mem _ hy))
    have h2 := h x List.mem_cons_self
    have h3 : sumW (x :: r) = x.2.length + sumW r := by simp [sumW]
    rw [h3, List.length_cons, Nat.succ_mul]
    omega
theorem Pgfew_w (w : World) (g ph t x r p l : Int) (A : Option Addr) (n c : Nat) (RA : Option Addr) (rn rc : Nat) (ws : List Wt) (h : Wts w (.slice RA rn rc) ws) (hb : ∀ y ∈ ws, y.2.length ≤ 140737488355328) :
    Calls Tryz.prog 5 #[.slice RA rn rc, .agg #[.int .i64 g, .int .i64 ph, .int .i64 t, .int .i64 x, .int .i64 r, .int .i64 p, .int .i64 l, .slice A n c]] w (Told w (.bool (fewP ws p n))) := by
  have hl := h.len
  by_cases h1 : 12 < rn
  · have e : fewP ws p n = false := by
      unfold fewP
      rw [decide_eq_false (p := (ws.length : Int) ≤ 12) (by omega)]
      rfl
    rw [e]
    exact Pgfew_far w g ph t x r p l A n c RA rn rc ws h h1
  · refine Pgfew_c w g ph t x r p l A n c RA rn rc ws h ?_
    have h2 := sumW_bulk ws hb
    have h3 : ws.length * 140737488355328 ≤ 12 * 140737488355328 := Nat.mul_le_mul_right _ (by omega)
    omega
end Go.Proofs.YtbpldkhgiddmlaaGreatDoor
