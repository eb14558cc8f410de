/-
  few.
-/
import Derived.Test.YtbpldkhgiddmlaaGreatDoorPgx
set_option linter.unusedVariables false
namespace Go.Proofs.YtbpldkhgiddmlaaGreatDoor
open Go.RowKit

def sumW (l : List Wt) : Nat := (l.map fun x => x.2.length).sum
theorem sumW_take {l : List Wt} {k : Nat} {x : Wt} (h : l[k]? = some x) : sumW (l.take (k + 1)) = sumW (l.take k) + x.2.length := by
  unfold sumW
  rw [List.take_add_one, h]
  simp
theorem sumW_le (l : List Wt) (k : Nat) : sumW (l.take k) ≤ sumW l := by
  have h : sumW (l.take k) + sumW (l.drop k) = sumW l := by
    unfold sumW
    rw [← List.sum_append, ← List.map_append, List.take_append_drop]
  omega
def fewP (l : List Wt) (p : Int) (n : Nat) : Bool := decide ((l.length : Int) ≤ 12) && (decide ((sumW l : Int) ≤ 5120) && (decide (p ≤ 40) && decide ((n : Int) ≤ 100)))
set_option maxRecDepth 100000 in
set_option maxHeartbeats 6400000 in
theorem Pgfew_c (w : World) (g ph t x r p l : Int) (A : Option Addr) (n c : Nat) (RA : Option Addr) (rn rc : Nat) (ws : List Wt) (h : Wts w (.slice RA rn rc) ws) (hs : sumW ws ≤ 4611686018427387904) :
    Calls Tryz.prog 5 #[.slice RA rn rc, .agg #[.int .i64 g, .int .i64 ph, .int .i64 t, .int .i64 x, .int .i64 r, .int .i64 p, .int .i64 l, .slice A n c]] w (Told w (.bool (fewP ws p n))) := by
  obtain ⟨w1, hw1⟩ : ∃ W0, W0 = w.alloc (.cells #[.int .i64 g, .int .i64 ph, .int .i64 t, .int .i64 x, .int .i64 r, .int .i64 p, .int .i64 l, .slice A n c] 25) := ⟨_, rfl⟩
  have HO1 : Hid (Only (w.heap.size ≤ ·) w w1) := Lib.hid (by rw [hw1]; exact (Only.refl _ w).alloc (fun _ h => h) _)
  have HA : Hid (Blk w1 w.heap.size 25 [.int .i64 g, .int .i64 ph, .int .i64 t, .int .i64 x, .int .i64 r, .int .i64 p, .int .i64 l, .slice A n c]) := Lib.hid (by rw [hw1]; exact Blk.new w 25 _)
  have HCP := Lib.hid h.cap
  have HRN := Lib.hid h.len
  have HW := Lib.hid h
  have HS := Lib.hid hs
  clear h hs
  go_enter Tryz.func5, Tryz.ntmps5
  go_upto_region 1 with (fail)
  rw [← hw1]
  clear hw1
  go_wp2
  go_loopg [5, 10] rn (fun gk s i wr => ∃ k : Nat, gk = rn - k ∧ k ≤ rn ∧ s = .int .i64 ((sumW (ws.take k) : Nat) : Int) ∧ i = .int .i64 (k : Int) ∧ Hid (Only (w1.heap.size ≤ ·) w1 wr))
  case atStart => exact ⟨0, rfl, Nat.zero_le _, rfl, rfl, Lib.hid (Only.refl _ _)⟩
  case round =>
    obtain ⟨k, rfl, hk, rfl, rfl, HO⟩ := hrel
    by_cases hlt : k < rn
    · obtain ⟨b, off, y, P, cp, rfl, hx, q0, q1, _⟩ := wts_get (Rw.later HW.out (on_new HO1.out HO.out)) hlt
      have hlt' : (k : Int) < (rn : Int) := by omega
      have hrn63 : (rn : Int) ≤ 9223372036854775807 := by have := HCP.out; omega
      have hsz := sumW_take hx
      have hle := sumW_le ws (k + 1)
      have HSZ := Lib.hid hsz
      have hb1 : sumW (ws.take k) + y.2.length ≤ 4611686018427387904 := by
        have := HS.out
        omega
      obtain ⟨z, hz⟩ : ∃ z, z = sumW (ws.take k) := ⟨_, rfl⟩
      rw [← hz] at hb1 HSZ ⊢
      clear hsz hle hz hx
      go_wp2
      go_roundg (rn - (k + 1))
      case measure => omega
      case rel => exact ⟨k + 1, rfl, by omega, by rw [HSZ.out]; congr 1, by go_num, Lib.hid (HO.out.alloc (fun _ h => h) _)⟩
    · obtain rfl : k = rn := by omega
      have hkm : ¬ (k : Int) < (k : Int) := by omega
      have ht : ws.take k = ws := by rw [HRN.out, List.take_length]
      rw [ht]
      have HB := Lib.hid (HA.out.only HO.out (Nat.not_le.2 HA.out.lt))
      obtain ⟨i0, i1, i2, i3, i4, i5, i6, i7⟩ := HB.out.eight
      have HOO := Lib.hid (on_new HO1.out HO.out)
      obtain ⟨z, hz⟩ : ∃ z, z = sumW ws := ⟨_, rfl⟩
      have HF : Hid (fewP ws p n = (decide ((k : Int) ≤ 12) && (decide ((z : Int) ≤ 5120) && (decide (p ≤ 40) && decide ((n : Int) ≤ 100))))) := Lib.hid (by unfold fewP; rw [← HRN.out, hz])
      rw [← hz]
      clear ht hz i0 i1 i2 i3 i4 i6
      by_cases h1 : (k : Int) ≤ 12
      · by_cases h2 : (z : Int) ≤ 5120
        · by_cases h3 : p ≤ 40
          · go_wp2
            go_ret
            exact ⟨by rw [HF.out, decide_eq_true (p := (k : Int) ≤ 12) (by omega), decide_eq_true (p := (z : Int) ≤ 5120) (by omega), decide_eq_true (p := p ≤ 40) (by omega)]; simp, HOO.out⟩
          · go_wp2
            go_ret
            exact ⟨by rw [HF.out, decide_eq_true (p := (k : Int) ≤ 12) (by omega), decide_eq_true (p := (z : Int) ≤ 5120) (by omega), decide_eq_false (p := p ≤ 40) (by omega)]; rfl, HOO.out⟩
        · go_wp2
          go_ret
          exact ⟨by rw [HF.out, decide_eq_true (p := (k : Int) ≤ 12) (by omega), decide_eq_false (p := (z : Int) ≤ 5120) (by omega)]; rfl, HOO.out⟩
      · go_wp2
        go_ret
        exact ⟨by rw [HF.out, decide_eq_false (p := (k : Int) ≤ 12) (by omega)]; rfl, HOO.out⟩
end Go.Proofs.YtbpldkhgiddmlaaGreatDoor
