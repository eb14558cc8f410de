/-
  The document's disk: count; what it is of ours.
-/
import Derived.Test.YtbpldkhgiddmlaaGreatDoorPua
set_option linter.unusedVariables false
namespace Go.Proofs.YtbpldkhgiddmlaaGreatDoor
open Go.RowKit

def kdv (L : Int) (BA : Option Addr) (bn bc : Nat) (RA : Option Addr) (rn rc : Nat) (ops fu : Int) (dn : Bool) : Value := .agg #[.int .i64 L, .slice BA bn bc, .slice RA rn rc, .int .i64 ops, .int .i64 fu, .bool dn]
set_option maxRecDepth 100000 in
set_option maxHeartbeats 6400000 in
theorem kcount_c (w : World) (L : Int) (BA : Option Addr) (bn bc : Nat) (RA : Option Addr) (rn rc : Nat) (ops fu : Int) (ho : 0 ≤ ops ∧ ops < 4611686018427387904) (hf : -1 ≤ fu ∧ fu ≤ 9223372036854775807) :
    Calls Tryz.prog 42 #[.agg #[.int .i64 L, .slice BA bn bc, .slice RA rn rc, .int .i64 ops, .int .i64 fu, .bool false]] w (Told w (kdv L BA bn bc RA rn rc (ops + 1) (if 0 ≤ fu then fu - 1 else fu) (decide (fu = 0)))) := by
  obtain ⟨w1, hw1⟩ : ∃ W0, W0 = (w.alloc (.cells #[.int .i64 L, .slice BA bn bc, .slice RA rn rc, .int .i64 ops, .int .i64 fu, .bool false] 34)).alloc (.cells #[.int .i64 0, .slice none 0 0, .slice none 0 0, .int .i64 0, .int .i64 0, .bool false] 34) := ⟨_, rfl⟩
  have HX : Hid (Only (w.heap.size ≤ ·) w w1) := Lib.hid (by rw [hw1]; exact ((Only.refl _ w).alloc (fun _ h => h) _).alloc (fun _ h => h) _)
  have HD : Hid (Blk w1 w.heap.size 34 [.int .i64 L, .slice BA bn bc, .slice RA rn rc, .int .i64 ops, .int .i64 fu, .bool false]) := Lib.hid (by rw [hw1]; exact (Blk.new w 34 [.int .i64 L, .slice BA bn bc, .slice RA rn rc, .int .i64 ops, .int .i64 fu, .bool false]).alloc _)
  have HR : Hid (Blk w1 (w.heap.size + 1) 34 [.int .i64 0, .slice none 0 0, .slice none 0 0, .int .i64 0, .int .i64 0, .bool false]) := Lib.hid (by
    have h := Blk.new (w.alloc (.cells #[.int .i64 L, .slice BA bn bc, .slice RA rn rc, .int .i64 ops, .int .i64 fu, .bool false] 34)) 34 [.int .i64 0, .slice none 0 0, .slice none 0 0, .int .i64 0, .int .i64 0, .bool false]
    rw [← hw1] at h
    simpa using h)
  have HE1 := Lib.hid hw1
  have e1 : IntKind.i64.wrap (ops + 1) = ops + 1 := IntWalk.i64_in _ (by omega)
  obtain ⟨fz, hfz⟩ : ∃ z, z = fu - 1 := ⟨_, rfl⟩
  clear hw1 ho
  by_cases c0 : fu = 0
  · have HV : Hid (kdv L BA bn bc RA rn rc (ops + 1) (if 0 ≤ fu then fu - 1 else fu) (decide (fu = 0)) = .agg #[.int .i64 L, .slice BA bn bc, .slice RA rn rc, .int .i64 (ops + 1), .int .i64 fz, .bool true]) := Lib.hid (by unfold kdv; rw [if_pos (by omega), hfz, c0]; rfl)
    have e2 : IntKind.i64.wrap (fu - 1) = fz := by rw [hfz]; exact IntWalk.i64_in _ (by omega)
    obtain rfl : fz = -1 := by omega
    rw [HV.out]
    subst c0
    clear hfz hf e2 HV
    go_enter Tryz.func42, Tryz.ntmps42
    go_upto_region 1 with (fail)
    rw [← HE1.out]
    clear HE1
    generalize hq2 : w.heap.size + 1 = q2 at HR ⊢
    have HQN : Hid (¬ q2 = w.heap.size) := Lib.hid (by omega)
    have HQG : Hid (w.heap.size ≤ w.heap.size) := Lib.hid (Nat.le_refl _)
    have HQ2 : Hid (w.heap.size ≤ q2) := Lib.hid (by omega)
    clear hq2
    obtain ⟨i0, i1, i2, i3, i4, i5⟩ := blk_six HD.out
    have z3 := HD.out.frozen 3
    go_upto_region 2 with (fail)
    obtain ⟨w2, hw2⟩ : ∃ W0, W0 = w1.setCell ⟨w.heap.size, 3, none⟩ (.int .i64 (ops + 1)) := ⟨_, rfl⟩
    have HSw2 : Hid (Only (· = w.heap.size) w1 w2) := Lib.hid (by rw [hw2]; exact (Only.refl (· = w.heap.size) w1).setCell (p := ⟨w.heap.size, 3, none⟩) rfl _)
    replace HD : Hid (Blk w2 w.heap.size 34 [.int .i64 L, .slice BA bn bc, .slice RA rn rc, .int .i64 (ops + 1), .int .i64 0, .bool false]) := Lib.hid (by rw [hw2]; exact HD.out.set_ 3 (.int .i64 (ops + 1)))
    replace HR := Lib.hid (HR.out.only HSw2.out (fun e => HQN.out (e : _ = w.heap.size)))
    replace HX := Lib.hid (HX.out.trans (HSw2.out.mono fun k hk => by have e : k = w.heap.size := hk; have h := HQG.out; omega))
    rw [← hw2]
    clear hw2 i0 i1 i2 i3 i4 i5 z3
    obtain ⟨i0, i1, i2, i3, i4, i5⟩ := blk_six HD.out
    have z5 := HD.out.frozen 5
    go_upto_region 4 with (fail)
    obtain ⟨w3, hw3⟩ : ∃ W0, W0 = w2.setCell ⟨w.heap.size, 5, none⟩ (.bool true) := ⟨_, rfl⟩
    have HSw3 : Hid (Only (· = w.heap.size) w2 w3) := Lib.hid (by rw [hw3]; exact (Only.refl (· = w.heap.size) w2).setCell (p := ⟨w.heap.size, 5, none⟩) rfl _)
    replace HD : Hid (Blk w3 w.heap.size 34 [.int .i64 L, .slice BA bn bc, .slice RA rn rc, .int .i64 (ops + 1), .int .i64 0, .bool true]) := Lib.hid (by rw [hw3]; exact HD.out.set_ 5 (.bool true))
    replace HR := Lib.hid (HR.out.only HSw3.out (fun e => HQN.out (e : _ = w.heap.size)))
    replace HX := Lib.hid (HX.out.trans (HSw3.out.mono fun k hk => by have e : k = w.heap.size := hk; have h := HQG.out; omega))
    rw [← hw3]
    clear hw3 i0 i1 i2 i3 i4 i5 z5
    obtain ⟨i0, i1, i2, i3, i4, i5⟩ := blk_six HD.out
    have z4 := HD.out.frozen 4
    go_upto_region 6 with (fail)
    obtain ⟨w4, hw4⟩ : ∃ W0, W0 = w3.setCell ⟨w.heap.size, 4, none⟩ (.int .i64 (-1)) := ⟨_, rfl⟩
    have HSw4 : Hid (Only (· = w.heap.size) w3 w4) := Lib.hid (by rw [hw4]; exact (Only.refl (· = w.heap.size) w3).setCell (p := ⟨w.heap.size, 4, none⟩) rfl _)
    replace HD : Hid (Blk w4 w.heap.size 34 [.int .i64 L, .slice BA bn bc, .slice RA rn rc, .int .i64 (ops + 1), .int .i64 (-1), .bool true]) := Lib.hid (by rw [hw4]; exact HD.out.set_ 4 (.int .i64 (-1)))
    replace HR := Lib.hid (HR.out.only HSw4.out (fun e => HQN.out (e : _ = w.heap.size)))
    replace HX := Lib.hid (HX.out.trans (HSw4.out.mono fun k hk => by have e : k = w.heap.size := hk; have h := HQG.out; omega))
    rw [← hw4]
    clear hw4 i0 i1 i2 i3 i4 i5 z4
    obtain ⟨i0, i1, i2, i3, i4, i5⟩ := blk_six HD.out
    obtain ⟨r0, r1, r2, r3, r4, r5⟩ := blk_six HR.out
    have f0 := HR.out.frozen 0
    have f1 := HR.out.frozen 1
    have f2 := HR.out.frozen 2
    have f3 := HR.out.frozen 3
    have f4 := HR.out.frozen 4
    have f5 := HR.out.frozen 5
    go_wp2
    have hk := kd_set (a' := .int .i64 L) (b' := .slice BA bn bc) (c' := .slice RA rn rc) (d' := .int .i64 (ops + 1)) (e' := .int .i64 (-1)) (f' := .bool true) HR.out
    refine bodyPost_ret (results_cell rfl rfl (load_kd hk.1)) rfl ?_
    exact ⟨rfl, HX.out.trans (hk.2.mono fun k hk' => by have e : k = q2 := hk'; have h := HQ2.out; omega)⟩

  by_cases c1 : 0 ≤ fu
  · have HV : Hid (kdv L BA bn bc RA rn rc (ops + 1) (if 0 ≤ fu then fu - 1 else fu) (decide (fu = 0)) = .agg #[.int .i64 L, .slice BA bn bc, .slice RA rn rc, .int .i64 (ops + 1), .int .i64 fz, .bool false]) := Lib.hid (by unfold kdv; rw [if_pos c1, hfz, decide_eq_false c0])
    have e2 : IntKind.i64.wrap (fu - 1) = fz := by rw [hfz]; exact IntWalk.i64_in _ (by omega)
    rw [HV.out]
    clear hfz hf HV
    go_enter Tryz.func42, Tryz.ntmps42
    go_upto_region 1 with (fail)
    rw [← HE1.out]
    clear HE1
    generalize hq2 : w.heap.size + 1 = q2 at HR ⊢
    have HQN : Hid (¬ q2 = w.heap.size) := Lib.hid (by omega)
    have HQG : Hid (w.heap.size ≤ w.heap.size) := Lib.hid (Nat.le_refl _)
    have HQ2 : Hid (w.heap.size ≤ q2) := Lib.hid (by omega)
    clear hq2
    obtain ⟨i0, i1, i2, i3, i4, i5⟩ := blk_six HD.out
    have z3 := HD.out.frozen 3
    go_upto_region 2 with (fail)
    obtain ⟨w2, hw2⟩ : ∃ W0, W0 = w1.setCell ⟨w.heap.size, 3, none⟩ (.int .i64 (ops + 1)) := ⟨_, rfl⟩
    have HSw2 : Hid (Only (· = w.heap.size) w1 w2) := Lib.hid (by rw [hw2]; exact (Only.refl (· = w.heap.size) w1).setCell (p := ⟨w.heap.size, 3, none⟩) rfl _)
    replace HD : Hid (Blk w2 w.heap.size 34 [.int .i64 L, .slice BA bn bc, .slice RA rn rc, .int .i64 (ops + 1), .int .i64 fu, .bool false]) := Lib.hid (by rw [hw2]; exact HD.out.set_ 3 (.int .i64 (ops + 1)))
    replace HR := Lib.hid (HR.out.only HSw2.out (fun e => HQN.out (e : _ = w.heap.size)))
    replace HX := Lib.hid (HX.out.trans (HSw2.out.mono fun k hk => by have e : k = w.heap.size := hk; have h := HQG.out; omega))
    rw [← hw2]
    clear hw2 i0 i1 i2 i3 i4 i5 z3
    obtain ⟨i0, i1, i2, i3, i4, i5⟩ := blk_six HD.out
    have z4 := HD.out.frozen 4
    go_upto_region 6 with (fail)
    obtain ⟨w4, hw4⟩ : ∃ W0, W0 = w2.setCell ⟨w.heap.size, 4, none⟩ (.int .i64 fz) := ⟨_, rfl⟩
    have HSw4 : Hid (Only (· = w.heap.size) w2 w4) := Lib.hid (by rw [hw4]; exact (Only.refl (· = w.heap.size) w2).setCell (p := ⟨w.heap.size, 4, none⟩) rfl _)
    replace HD : Hid (Blk w4 w.heap.size 34 [.int .i64 L, .slice BA bn bc, .slice RA rn rc, .int .i64 (ops + 1), .int .i64 fz, .bool false]) := Lib.hid (by rw [hw4]; exact HD.out.set_ 4 (.int .i64 fz))
    replace HR := Lib.hid (HR.out.only HSw4.out (fun e => HQN.out (e : _ = w.heap.size)))
    replace HX := Lib.hid (HX.out.trans (HSw4.out.mono fun k hk => by have e : k = w.heap.size := hk; have h := HQG.out; omega))
    rw [← hw4]
    clear hw4 i0 i1 i2 i3 i4 i5 z4
    obtain ⟨i0, i1, i2, i3, i4, i5⟩ := blk_six HD.out
    obtain ⟨r0, r1, r2, r3, r4, r5⟩ := blk_six HR.out
    have f0 := HR.out.frozen 0
    have f1 := HR.out.frozen 1
    have f2 := HR.out.frozen 2
    have f3 := HR.out.frozen 3
    have f4 := HR.out.frozen 4
    have f5 := HR.out.frozen 5
    go_wp2
    have hk := kd_set (a' := .int .i64 L) (b' := .slice BA bn bc) (c' := .slice RA rn rc) (d' := .int .i64 (ops + 1)) (e' := .int .i64 fz) (f' := .bool false) HR.out
    refine bodyPost_ret (results_cell rfl rfl (load_kd hk.1)) rfl ?_
    exact ⟨rfl, HX.out.trans (hk.2.mono fun k hk' => by have e : k = q2 := hk'; have h := HQ2.out; omega)⟩

  · have HV : Hid (kdv L BA bn bc RA rn rc (ops + 1) (if 0 ≤ fu then fu - 1 else fu) (decide (fu = 0)) = .agg #[.int .i64 L, .slice BA bn bc, .slice RA rn rc, .int .i64 (ops + 1), .int .i64 fu, .bool false]) := Lib.hid (by unfold kdv; rw [if_neg c1, decide_eq_false c0])
    rw [HV.out]
    clear hfz hf HV
    go_enter Tryz.func42, Tryz.ntmps42
    go_upto_region 1 with (fail)
    rw [← HE1.out]
    clear HE1
    generalize hq2 : w.heap.size + 1 = q2 at HR ⊢
    have HQN : Hid (¬ q2 = w.heap.size) := Lib.hid (by omega)
    have HQG : Hid (w.heap.size ≤ w.heap.size) := Lib.hid (Nat.le_refl _)
    have HQ2 : Hid (w.heap.size ≤ q2) := Lib.hid (by omega)
    clear hq2
    obtain ⟨i0, i1, i2, i3, i4, i5⟩ := blk_six HD.out
    have z3 := HD.out.frozen 3
    go_upto_region 2 with (fail)
    obtain ⟨w2, hw2⟩ : ∃ W0, W0 = w1.setCell ⟨w.heap.size, 3, none⟩ (.int .i64 (ops + 1)) := ⟨_, rfl⟩
    have HSw2 : Hid (Only (· = w.heap.size) w1 w2) := Lib.hid (by rw [hw2]; exact (Only.refl (· = w.heap.size) w1).setCell (p := ⟨w.heap.size, 3, none⟩) rfl _)
    replace HD : Hid (Blk w2 w.heap.size 34 [.int .i64 L, .slice BA bn bc, .slice RA rn rc, .int .i64 (ops + 1), .int .i64 fu, .bool false]) := Lib.hid (by rw [hw2]; exact HD.out.set_ 3 (.int .i64 (ops + 1)))
    replace HR := Lib.hid (HR.out.only HSw2.out (fun e => HQN.out (e : _ = w.heap.size)))
    replace HX := Lib.hid (HX.out.trans (HSw2.out.mono fun k hk => by have e : k = w.heap.size := hk; have h := HQG.out; omega))
    rw [← hw2]
    clear hw2 i0 i1 i2 i3 i4 i5 z3
    obtain ⟨i0, i1, i2, i3, i4, i5⟩ := blk_six HD.out
    obtain ⟨r0, r1, r2, r3, r4, r5⟩ := blk_six HR.out
    have f0 := HR.out.frozen 0
    have f1 := HR.out.frozen 1
    have f2 := HR.out.frozen 2
    have f3 := HR.out.frozen 3
    have f4 := HR.out.frozen 4
    have f5 := HR.out.frozen 5
    go_wp2
    have hk := kd_set (a' := .int .i64 L) (b' := .slice BA bn bc) (c' := .slice RA rn rc) (d' := .int .i64 (ops + 1)) (e' := .int .i64 fu) (f' := .bool false) HR.out
    refine bodyPost_ret (results_cell rfl rfl (load_kd hk.1)) rfl ?_
    exact ⟨rfl, HX.out.trans (hk.2.mono fun k hk' => by have e : k = q2 := hk'; have h := HQ2.out; omega)⟩

end Go.Proofs.YtbpldkhgiddmlaaGreatDoor
