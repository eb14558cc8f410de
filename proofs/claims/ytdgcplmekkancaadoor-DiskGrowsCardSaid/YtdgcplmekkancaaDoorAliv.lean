/-
  The statements' own check that the program is alive: it answers true, and leaves all older blocks alone.
-/
import Derived.Test.YtdgcplmekkancaaDoorRept
import Derived.Test.YtdgcplmekkancaaDoorWrit
import Derived.Test.YtdgcplmekkancaaDoorCra2
import Derived.Test.YtdgcplmekkancaaDoorGro2
set_option linter.unusedVariables false
namespace Go.Proofs.YtdgcplmekkancaaDoor
open Go.RowKit

def a0 : Dsk := Dsk.load [] 4
def a1 : Dsk := (a0.grow 2).1
def ones : Bytes := List.replicate 128 1
def a2 : Dsk := (a1.write 0 ones).1
def a3 : Dsk := a2.crash [true, false]
def a4 : Dsk := a3.arm 0
def a5 : Dsk := a4.sync.1
theorem a_grow : (a0.grow 2).2 = 0 := by kernel_rfl
theorem a_write : (a1.write 0 ones).2 = 0 := by kernel_rfl
theorem a_row : a2.row.length = 2 := by kernel_rfl
theorem a_ops1 : a1.ops = 0 := by kernel_rfl
theorem a_row1 : a1.row.length = 0 := by kernel_rfl
theorem a3_down : a3.down = false := by kernel_rfl
theorem a3_n : a3.n = 2 := by kernel_rfl
theorem a4_ops : a4.ops = 1 := by kernel_rfl
theorem a4_row : a4.row.length = 0 := by kernel_rfl
theorem a4_sync : a4.sync.2 = 10 := by kernel_rfl
theorem a5_down : a5.down = true := by kernel_rfl
theorem a5_n : a5.n = 2 := by kernel_rfl
theorem a5_limit : a5.limit = 4 := by kernel_rfl
theorem a5_ops : a5.ops = 2 := by kernel_rfl
theorem a3_see : ((a3.see.drop (0 * 64)).take (2 * 64))[0]? = some 1 ∧ ((a3.see.drop (0 * 64)).take (2 * 64))[64]? = some 0 := ⟨by kernel_rfl, by kernel_rfl⟩

theorem Holds.below {w : World} {F : Nat → Prop} {p : Nat} {d : Dsk} (h : Holds w F p d) : Holds w (fun k => F k ∧ k < w.heap.size) p d := h.mono fun k hk hf => ⟨hf, hk⟩

/-- A contract whose answer is said otherwise. -/
theorem says {P : Program} {f : FuncId} {args : Array Value} {w : World} {a b : Value} {R : World → Prop} (h : Calls P f args w fun e w' => e = .returned a ∧ R w') (e : a = b) : Calls P f args w fun e w' => e = .returned b ∧ R w' := by
  subst e; exact h

set_option maxRecDepth 100000 in
set_option maxHeartbeats 1600000 in
theorem alive_c (w : World) : Calls Tryd.prog 4 #[] w fun e w' => e = .returned (.bool true) ∧ Only (w.heap.size ≤ ·) w w' := by
  go_enter Tryd.func4, Tryd.ntmps4
  go_wp2_with fail
  refine (New_c w (w.heap.size ≤ ·) (fun _ h => h) 4).mono ?_
  rintro e w1 ⟨p, rfl, H1⟩
  go_wp2_with fail
  refine (says (Grow_c w1 (w.heap.size ≤ ·) (fun k hk => Nat.le_trans H1.out.2.size hk) p a0 H1.out.1 2 (by omega) (by omega)) (by rw [a_grow])).mono ?_
  rintro e w2 ⟨rfl, hh2, ho2⟩
  have H2 := Lib.hid (And.intro hh2 ho2)
  clear hh2 ho2
  have HO2 : Hid (Only (w.heap.size ≤ ·) w w2) := H1.out.2.trans H2.out.2
  go_wp2_with fail
  have HB1 : Hid (Blk (w2.alloc (.cells #[Value.int .u8 1] 5)) w2.heap.size 5 [one8]) := Blk.new w2 5 [one8]
  refine (Repeat_c _ w2.heap.size HB1.out).mono ?_
  rintro e w3 ⟨g, L, rfl, H3⟩
  obtain ⟨rest, hb3, hL3, hbel3⟩ := H3.out.2
  have hsz2 := HO2.out.size
  have hg3 : w2.heap.size + 1 ≤ g := by have := H3.out.1; simpa using this
  have hs3 : w2.heap.size + 1 ≤ w3.heap.size := by have := hbel3.size; simpa using this
  have hglt := hb3.lt
  have hO23 : Only (w2.heap.size ≤ ·) w2 w3 := ((Only.refl _ _).alloc (fun _ h => h) _).trans ((Only.below hbel3).mono fun k (hk : (w2.alloc _).heap.size ≤ k) => by simp at hk; show w2.heap.size ≤ k; omega)
  have HH3 : Hid (Holds w3 (fun k => w.heap.size ≤ k ∧ k ≠ g) p a1) := (H2.out.1.below.keep hO23 (fun k hk _ => by simp; omega)).mono fun k _ hk => ⟨hk.1, by omega⟩
  have HS3 : Hid (Src w3 (fun k => w.heap.size ≤ k ∧ k ≠ g) (some ⟨g, 0, none⟩) 128 (cb ones)) := by
    refine ⟨by rw [cb_length]; rfl, fun _ => ⟨_, rfl, by simp, fun j u hu => ?_⟩⟩
    rw [Addr.add_mid, hb3.cell, Nat.zero_add]
    have e1 : cb ones = List.replicate 128 one8 := by simp [cb, ones, one8]
    rw [e1] at hu
    rw [List.getElem?_append_left (List.getElem?_eq_some_iff.1 hu).1]
    exact hu
  have HO3 : Hid (Only (w.heap.size ≤ ·) w w3) := HO2.out.trans (hO23.mono fun k (hk : w2.heap.size ≤ k) => Nat.le_trans hsz2 hk)
  have HF3 : Hid (∀ k, w3.heap.size ≤ k → w.heap.size ≤ k ∧ k ≠ g) := fun k hk => ⟨by omega, by omega⟩
  have Hsz3 := Lib.hid (And.intro hsz2 hs3)
  clear hb3 hL3 hbel3 hg3 hs3 hglt hO23 hsz2 HB1
  go_wp2_with fail
  refine (says (Write_c w3 _ HF3.out p a1 HH3.out (by rw [a_ops1]; omega) 0 (by omega) (by omega) (some ⟨g, 0, none⟩) 128 128 ones HS3.out (Nat.le_refl _) (by simp [maxLen]) (by rw [a_row1]; omega)) (by rw [a_write])).mono ?_
  rintro e w4 ⟨rfl, hh4, ho4⟩
  have H4 : Hid (Holds w4 (fun k => w.heap.size ≤ k ∧ k ≠ g) p a2) := hh4
  have HO4 : Hid (Only (w.heap.size ≤ ·) w w4) := HO3.out.trans (ho4.mono fun k hk => hk.1)
  clear hh4 ho4
  go_wp2_with (go_at_call 16; refine (says (Pending_c w4 _ p a2 H4.out) (by rw [a_row])).mono ?_; rintro e w' ⟨rfl, rfl⟩)
  have hsz4 := HO4.out.size
  have H5 : Hid (Holds (w4.alloc (.cells #[Value.bool true, Value.bool false] 4)) (fun k => w.heap.size ≤ k ∧ k ≠ w4.heap.size) p a2) := (H4.out.below.alloc _).mono fun k _ hk => ⟨hk.1.1, by omega⟩
  have HS5 : Hid (SrcB (w4.alloc (.cells #[Value.bool true, Value.bool false] 4)) (fun k => w.heap.size ≤ k ∧ k ≠ w4.heap.size) (some ⟨w4.heap.size, 0, none⟩) [true, false]) := by
    intro _
    refine ⟨_, rfl, by simp, fun j b hb => ?_⟩
    rw [Addr.add_mid, (Blk.new w4 4 [Value.bool true, Value.bool false]).cell, Nat.zero_add]
    match j, hb with
    | 0, hb => cases hb; rfl
    | 1, hb => cases hb; rfl
  have HF5 : Hid (∀ k, (w4.alloc (.cells #[Value.bool true, Value.bool false] 4)).heap.size ≤ k → w.heap.size ≤ k ∧ k ≠ w4.heap.size) := fun k hk => by simp at hk; exact ⟨by omega, by omega⟩
  have HO4a : Hid (Only (w.heap.size ≤ ·) w (w4.alloc (.cells #[Value.bool true, Value.bool false] 4))) := HO4.out.alloc (fun _ h => h) _
  have Hsz4 := Lib.hid hsz4
  clear hsz4
  refine (Crash_c _ _ HF5.out p a2 H5.out (by rw [a_row]; omega) (some ⟨w4.heap.size, 0, none⟩) 2 2 [true, false] rfl HS5.out (by omega)).mono ?_
  rintro e w5 ⟨rfl, hh5, ho5⟩
  have H6 : Hid (Holds w5 (fun k => w.heap.size ≤ k ∧ k ≠ w4.heap.size) p a3) := hh5
  have HO5 : Hid (Only (w.heap.size ≤ ·) w w5) := HO4a.out.trans (ho5.mono fun k hk => hk.1)
  clear hh5 ho5
  go_wp2_with fail
  have hr : Calls Tryd.prog 17 #[.pointer (some ⟨p, 0, none⟩), .int .i64 0, .int .i64 2] w5 fun e w' => e = .returned (.tuple #[.slice (some ⟨w5.heap.size, 0, none⟩) 128 128, .int .i64 0]) ∧
      Hid (Blk w' w5.heap.size 5 (cb ((a3.see.drop (0 * 64)).take (2 * 64))) ∧ Only (w5.heap.size ≤ ·) w5 w') := Read_ok w5 _ p a3 H6.out 0 2 a3_down (by rw [a3_n]; omega)
  refine hr.mono ?_
  rintro e w6 ⟨rfl, H7⟩
  clear hr
  have hsz5 := HO5.out.size
  have H8 : Hid (Holds w6 (fun k => w.heap.size ≤ k ∧ k ≠ w5.heap.size) p a3) := (H6.out.below.keep H7.out.2 (fun k hk _ => by simp; omega)).mono fun k _ hk => ⟨hk.1.1, by omega⟩
  have HO6 : Hid (Only (w.heap.size ≤ ·) w w6) := HO5.out.trans (H7.out.2.mono fun k (hk : w5.heap.size ≤ k) => Nat.le_trans hsz5 hk)
  have hs6 := H7.out.1.lt
  have Hsz6 := Lib.hid (And.intro hsz5 hs6)
  clear hsz5 hs6
  go_wp2_with fail
  refine (Arm_c w6 _ p a3 H8.out 0 (by omega)).mono ?_
  rintro e w7 ⟨rfl, hh7, ho7⟩
  have H9 : Hid (Holds w7 (fun k => w.heap.size ≤ k ∧ k ≠ w5.heap.size) p a4) := hh7
  have HB7 : Hid (Blk w7 w5.heap.size 5 (cb ((a3.see.drop (0 * 64)).take (2 * 64)))) := H7.out.1.only ho7 (by simp)
  have HO7 : Hid (Only (w.heap.size ≤ ·) w w7) := HO6.out.trans (ho7.mono fun k hk => hk.1)
  have hs7 := ho7.size
  have HF7 : Hid (∀ k, w7.heap.size ≤ k → w.heap.size ≤ k ∧ k ≠ w5.heap.size) := fun k hk => by have := Hsz6.out; exact ⟨by omega, by omega⟩
  clear hh7 ho7 hs7
  go_wp2_with fail
  refine (says (Sync_c w7 _ HF7.out p a4 H9.out (by rw [a4_ops]; omega) (by rw [a4_row]; omega)) (by rw [a4_sync])).mono ?_
  rintro e w8 ⟨rfl, hh8, ho8⟩
  have H10 : Hid (Holds w8 (fun k => w.heap.size ≤ k ∧ k ≠ w5.heap.size) p a5) := hh8
  have hB8 : Blk w8 w5.heap.size 5 (cb ((a3.see.drop (0 * 64)).take (2 * 64))) := HB7.out.only ho8 (by simp)
  have HO8 : Hid (Only (w.heap.size ≤ ·) w w8) := HO7.out.trans (ho8.mono fun k hk => hk.1)
  have b0 : w8.cell? ⟨w5.heap.size, 0, none⟩ = some (.int .u8 1) := by rw [hB8.cell]; simp only [cb, List.getElem?_map, a3_see.1]; rfl
  have b64 : w8.cell? ⟨w5.heap.size, 64, none⟩ = some (.int .u8 0) := by rw [hB8.cell]; simp only [cb, List.getElem?_map, a3_see.2]; rfl
  clear hh8 ho8 hB8
  go_wp2_with (first | (go_at_call 20; refine (says (Down_c w8 _ p a5 H10.out) (by rw [a5_down])).mono ?_; rintro e w' ⟨rfl, rfl⟩) | (go_at_call 7; refine (says (Size_c w8 _ p a5 H10.out) (by rw [a5_n])).mono ?_; rintro e w' ⟨rfl, rfl⟩) | (go_at_call 9; refine (says (Limit_c w8 _ p a5 H10.out) (by rw [a5_limit])).mono ?_; rintro e w' ⟨rfl, rfl⟩) | (go_at_call 21; refine (says (Ops_c w8 _ p a5 H10.out) (by rw [a5_ops])).mono ?_; rintro e w' ⟨rfl, rfl⟩))
  go_ret
  exact ⟨rfl, HO8.out⟩
end Go.Proofs.YtdgcplmekkancaaDoor
