/-
  Pui Puj Puk Pul Pum Pun: as one text.
-/
import Derived.Test.YtbpldkhgiddmlaaGreatDoorPuh
/-
  The document's write, where it refuses.
-/
set_option linter.unusedVariables false
namespace Go.Proofs.YtbpldkhgiddmlaaGreatDoor
open Go.RowKit

set_option maxRecDepth 100000 in
set_option maxHeartbeats 12800000 in
theorem kwrite_none (w : World) (L : Int) (BA : Option Addr) (bn bc : Nat) (RA : Option Addr) (rn rc : Nat) (ops fu : Int) (k0 a m0 : Int) (P : Option Addr) (pn pc : Nat) (h0 : pn = 0) : Calls Tryz.prog 41 #[.agg #[.int .i64 L, .slice BA bn bc, .slice RA rn rc, .int .i64 ops, .int .i64 fu, .bool false], .agg #[.int .i64 k0, .int .i64 a, .int .i64 m0, .slice P pn pc, .slice none 0 0]] w (Told w (.tuple #[.agg #[.int .i64 L, .slice BA bn bc, .slice RA rn rc, .int .i64 ops, .int .i64 fu, .bool false], .int .i64 1])) := by
  subst h0
  obtain ⟨w1, hw1⟩ : ∃ W0, W0 = ((w.alloc (.cells #[.int .i64 L, .slice BA bn bc, .slice RA rn rc, .int .i64 ops, .int .i64 fu, .bool false] 34)).alloc (.cells #[.int .i64 k0, .int .i64 a, .int .i64 m0, .slice P 0 pc, .slice none 0 0] 44)).alloc (.cells #[.int .i64 0, .slice none 0 0, .slice none 0 0, .int .i64 0, .int .i64 0, .bool false] 34) := ⟨_, rfl⟩
  have HX : Hid (Only (w.heap.size ≤ ·) w w1) := Lib.hid (by rw [hw1]; exact (((Only.refl _ w).alloc (fun _ h => h) _).alloc (fun _ h => h) _).alloc (fun _ h => h) _)
  have HD : Hid (Blk w1 w.heap.size 34 [.int .i64 L, .slice BA bn bc, .slice RA rn rc, .int .i64 ops, .int .i64 fu, .bool false]) := Lib.hid (by rw [hw1]; exact ((Blk.new w 34 [.int .i64 L, .slice BA bn bc, .slice RA rn rc, .int .i64 ops, .int .i64 fu, .bool false]).alloc _).alloc _)
  have HQ3 : Hid (Blk w1 (w.heap.size + 1) 44 [.int .i64 k0, .int .i64 a, .int .i64 m0, .slice P 0 pc, .slice none 0 0]) := Lib.hid (by
    have h := (Blk.new (w.alloc (.cells #[.int .i64 L, .slice BA bn bc, .slice RA rn rc, .int .i64 ops, .int .i64 fu, .bool false] 34)) 44 [.int .i64 k0, .int .i64 a, .int .i64 m0, .slice P 0 pc, .slice none 0 0]).alloc (.cells #[.int .i64 0, .slice none 0 0, .slice none 0 0, .int .i64 0, .int .i64 0, .bool false] 34)
    rw [← hw1] at h
    simpa using h)
  have HR : Hid (Blk w1 (w.heap.size + 1 + 1) 34 [.int .i64 0, .slice none 0 0, .slice none 0 0, .int .i64 0, .int .i64 0, .bool false]) := Lib.hid (by
    have h := Blk.new ((w.alloc (.cells #[.int .i64 L, .slice BA bn bc, .slice RA rn rc, .int .i64 ops, .int .i64 fu, .bool false] 34)).alloc (.cells #[.int .i64 k0, .int .i64 a, .int .i64 m0, .slice P 0 pc, .slice none 0 0] 44)) 34 [.int .i64 0, .slice none 0 0, .slice none 0 0, .int .i64 0, .int .i64 0, .bool false]
    rw [← hw1] at h
    simpa using h)
  have HE1 := Lib.hid hw1
  clear hw1
  go_enter Tryz.func41, Tryz.ntmps41
  go_upto_region 1 with (fail)
  rw [← HE1.out]
  clear HE1
  generalize hq4 : w.heap.size + 1 + 1 = q4 at HR ⊢
  generalize hq3 : w.heap.size + 1 = q3 at HQ3 hq4 ⊢
  have HQN : Hid (w.heap.size ≤ q4) := Lib.hid (by omega)
  clear hq3 hq4
  obtain ⟨i0, i1, i2, i3, i4, i5⟩ := blk_six HD.out
  obtain ⟨j0, j1, j2, j3, j4⟩ := blk_five HQ3.out
  obtain ⟨r0, r1, r2, r3, r4, r5⟩ := blk_six HR.out
  have fr0 := HR.out.frozen 0
  have fr1 := HR.out.frozen 1
  have fr2 := HR.out.frozen 2
  have fr3 := HR.out.frozen 3
  have fr4 := HR.out.frozen 4
  have fr5 := HR.out.frozen 5
  go_wp2
  have hk := kd_set (a' := .int .i64 L) (b' := .slice BA bn bc) (c' := .slice RA rn rc) (d' := .int .i64 ops) (e' := .int .i64 fu) (f' := .bool false) HR.out
  refine bodyPost_ret (k_results_cell_tmp rfl rfl (load_kd hk.1)) rfl ?_
  exact ⟨rfl, HX.out.trans (hk.2.mono fun k hk' => by have h := HQN.out; have h2 : k = q4 := hk'; omega)⟩
set_option maxRecDepth 100000 in
set_option maxHeartbeats 12800000 in
theorem kwrite_odd (w : World) (L : Int) (BA : Option Addr) (bn bc : Nat) (RA : Option Addr) (rn rc : Nat) (ops fu : Int) (k0 a m0 : Int) (P : Option Addr) (pn pc : Nat) (h0 : ¬ pn = 0) (h1 : ¬ pn % 64 = 0) : Calls Tryz.prog 41 #[.agg #[.int .i64 L, .slice BA bn bc, .slice RA rn rc, .int .i64 ops, .int .i64 fu, .bool false], .agg #[.int .i64 k0, .int .i64 a, .int .i64 m0, .slice P pn pc, .slice none 0 0]] w (Told w (.tuple #[.agg #[.int .i64 L, .slice BA bn bc, .slice RA rn rc, .int .i64 ops, .int .i64 fu, .bool false], .int .i64 1])) := by
  obtain ⟨w1, hw1⟩ : ∃ W0, W0 = ((w.alloc (.cells #[.int .i64 L, .slice BA bn bc, .slice RA rn rc, .int .i64 ops, .int .i64 fu, .bool false] 34)).alloc (.cells #[.int .i64 k0, .int .i64 a, .int .i64 m0, .slice P pn pc, .slice none 0 0] 44)).alloc (.cells #[.int .i64 0, .slice none 0 0, .slice none 0 0, .int .i64 0, .int .i64 0, .bool false] 34) := ⟨_, rfl⟩
  have HX : Hid (Only (w.heap.size ≤ ·) w w1) := Lib.hid (by rw [hw1]; exact (((Only.refl _ w).alloc (fun _ h => h) _).alloc (fun _ h => h) _).alloc (fun _ h => h) _)
  have HD : Hid (Blk w1 w.heap.size 34 [.int .i64 L, .slice BA bn bc, .slice RA rn rc, .int .i64 ops, .int .i64 fu, .bool false]) := Lib.hid (by rw [hw1]; exact ((Blk.new w 34 [.int .i64 L, .slice BA bn bc, .slice RA rn rc, .int .i64 ops, .int .i64 fu, .bool false]).alloc _).alloc _)
  have HQ3 : Hid (Blk w1 (w.heap.size + 1) 44 [.int .i64 k0, .int .i64 a, .int .i64 m0, .slice P pn pc, .slice none 0 0]) := Lib.hid (by
    have h := (Blk.new (w.alloc (.cells #[.int .i64 L, .slice BA bn bc, .slice RA rn rc, .int .i64 ops, .int .i64 fu, .bool false] 34)) 44 [.int .i64 k0, .int .i64 a, .int .i64 m0, .slice P pn pc, .slice none 0 0]).alloc (.cells #[.int .i64 0, .slice none 0 0, .slice none 0 0, .int .i64 0, .int .i64 0, .bool false] 34)
    rw [← hw1] at h
    simpa using h)
  have HR : Hid (Blk w1 (w.heap.size + 1 + 1) 34 [.int .i64 0, .slice none 0 0, .slice none 0 0, .int .i64 0, .int .i64 0, .bool false]) := Lib.hid (by
    have h := Blk.new ((w.alloc (.cells #[.int .i64 L, .slice BA bn bc, .slice RA rn rc, .int .i64 ops, .int .i64 fu, .bool false] 34)).alloc (.cells #[.int .i64 k0, .int .i64 a, .int .i64 m0, .slice P pn pc, .slice none 0 0] 44)) 34 [.int .i64 0, .slice none 0 0, .slice none 0 0, .int .i64 0, .int .i64 0, .bool false]
    rw [← hw1] at h
    simpa using h)
  have HE1 := Lib.hid hw1
  have g0 : ((pn : Int) == 0) = false := by rw [beq_eq_false_iff_ne]; omega
  have g1 : ¬ (pn : Int) = 0 := by omega
  have g2 : ¬ Int.tmod (pn : Int) 64 = 0 := by rw [Int.tmod_eq_emod_of_nonneg (Int.natCast_nonneg pn)]; omega
  have g3 : ¬ (pn : Int) % 64 = 0 := by omega
  clear hw1 h0 h1
  go_enter Tryz.func41, Tryz.ntmps41
  go_upto_region 1 with (fail)
  rw [← HE1.out]
  clear HE1
  generalize hq4 : w.heap.size + 1 + 1 = q4 at HR ⊢
  generalize hq3 : w.heap.size + 1 = q3 at HQ3 hq4 ⊢
  have HQN : Hid (w.heap.size ≤ q4) := Lib.hid (by omega)
  clear hq3 hq4
  obtain ⟨i0, i1, i2, i3, i4, i5⟩ := blk_six HD.out
  obtain ⟨j0, j1, j2, j3, j4⟩ := blk_five HQ3.out
  obtain ⟨r0, r1, r2, r3, r4, r5⟩ := blk_six HR.out
  have fr0 := HR.out.frozen 0
  have fr1 := HR.out.frozen 1
  have fr2 := HR.out.frozen 2
  have fr3 := HR.out.frozen 3
  have fr4 := HR.out.frozen 4
  have fr5 := HR.out.frozen 5
  go_wp2
  have hk := kd_set (a' := .int .i64 L) (b' := .slice BA bn bc) (c' := .slice RA rn rc) (d' := .int .i64 ops) (e' := .int .i64 fu) (f' := .bool false) HR.out
  refine bodyPost_ret (k_results_cell_tmp rfl rfl (load_kd hk.1)) rfl ?_
  exact ⟨rfl, HX.out.trans (hk.2.mono fun k hk' => by have h := HQN.out; have h2 : k = q4 := hk'; omega)⟩
set_option maxRecDepth 100000 in
set_option maxHeartbeats 12800000 in
theorem kwrite_far (w : World) (L : Int) (BA : Option Addr) (bn bc : Nat) (RA : Option Addr) (rn rc : Nat) (ops fu : Int) (k0 a m0 : Int) (P : Option Addr) (pn pc : Nat) (N m : Nat) (hN : bn = N * 64) (hN2 : N ≤ 65536) (ha : I64v a) (hm : 0 < m) (hpn : pn = m * 64) (hpm : pn ≤ maxLen) (hh : hasK N a (m : Int) = false) : Calls Tryz.prog 41 #[.agg #[.int .i64 L, .slice BA bn bc, .slice RA rn rc, .int .i64 ops, .int .i64 fu, .bool false], .agg #[.int .i64 k0, .int .i64 a, .int .i64 m0, .slice P pn pc, .slice none 0 0]] w (Told w (.tuple #[.agg #[.int .i64 L, .slice BA bn bc, .slice RA rn rc, .int .i64 ops, .int .i64 fu, .bool false], .int .i64 11])) := by
  obtain ⟨w1, hw1⟩ : ∃ W0, W0 = ((w.alloc (.cells #[.int .i64 L, .slice BA bn bc, .slice RA rn rc, .int .i64 ops, .int .i64 fu, .bool false] 34)).alloc (.cells #[.int .i64 k0, .int .i64 a, .int .i64 m0, .slice P pn pc, .slice none 0 0] 44)).alloc (.cells #[.int .i64 0, .slice none 0 0, .slice none 0 0, .int .i64 0, .int .i64 0, .bool false] 34) := ⟨_, rfl⟩
  have HX : Hid (Only (w.heap.size ≤ ·) w w1) := Lib.hid (by rw [hw1]; exact (((Only.refl _ w).alloc (fun _ h => h) _).alloc (fun _ h => h) _).alloc (fun _ h => h) _)
  have HD : Hid (Blk w1 w.heap.size 34 [.int .i64 L, .slice BA bn bc, .slice RA rn rc, .int .i64 ops, .int .i64 fu, .bool false]) := Lib.hid (by rw [hw1]; exact ((Blk.new w 34 [.int .i64 L, .slice BA bn bc, .slice RA rn rc, .int .i64 ops, .int .i64 fu, .bool false]).alloc _).alloc _)
  have HQ3 : Hid (Blk w1 (w.heap.size + 1) 44 [.int .i64 k0, .int .i64 a, .int .i64 m0, .slice P pn pc, .slice none 0 0]) := Lib.hid (by
    have h := (Blk.new (w.alloc (.cells #[.int .i64 L, .slice BA bn bc, .slice RA rn rc, .int .i64 ops, .int .i64 fu, .bool false] 34)) 44 [.int .i64 k0, .int .i64 a, .int .i64 m0, .slice P pn pc, .slice none 0 0]).alloc (.cells #[.int .i64 0, .slice none 0 0, .slice none 0 0, .int .i64 0, .int .i64 0, .bool false] 34)
    rw [← hw1] at h
    simpa using h)
  have HR : Hid (Blk w1 (w.heap.size + 1 + 1) 34 [.int .i64 0, .slice none 0 0, .slice none 0 0, .int .i64 0, .int .i64 0, .bool false]) := Lib.hid (by
    have h := Blk.new ((w.alloc (.cells #[.int .i64 L, .slice BA bn bc, .slice RA rn rc, .int .i64 ops, .int .i64 fu, .bool false] 34)).alloc (.cells #[.int .i64 k0, .int .i64 a, .int .i64 m0, .slice P pn pc, .slice none 0 0] 44)) 34 [.int .i64 0, .slice none 0 0, .slice none 0 0, .int .i64 0, .int .i64 0, .bool false]
    rw [← hw1] at h
    simpa using h)
  have HE1 := Lib.hid hw1
  have HIS : Hid (∀ W, Calls Tryz.prog 39 #[.agg #[.int .i64 L, .slice BA bn bc, .slice RA rn rc, .int .i64 ops, .int .i64 fu, .bool false], .int .i64 a, .int .i64 (m : Nat)] W (Told W (.bool false))) := Lib.hid (fun W => by
    have h := kis_c W L BA bn bc RA rn rc ops fu false N hN hN2 a (m : Int) ha
    rwa [hh] at h)
  have g0 : ((pn : Int) == 0) = false := by rw [beq_eq_false_iff_ne]; omega
  have g1 : ¬ (pn : Int) = 0 := by omega
  have g2 : Int.tmod (pn : Int) 64 = 0 := by rw [Int.tmod_eq_emod_of_nonneg (Int.natCast_nonneg pn)]; omega
  have g2' : (pn : Int) % 64 = 0 := by omega
  have g3 : Int.tdiv (pn : Int) 64 = (m : Nat) := by rw [Int.tdiv_eq_ediv_of_nonneg (Int.natCast_nonneg pn)]; omega
  have g4 : (pn : Int) / 64 = (m : Nat) := by omega
  have g5 : wrap64 ((m : Nat) : Int) = (m : Nat) := IntWalk.wrap64_in _ (by simp only [maxLen] at hpm; omega)
  clear hw1 hN hN2 ha hm hpn hpm hh
  go_enter Tryz.func41, Tryz.ntmps41
  go_upto_region 1 with (fail)
  rw [← HE1.out]
  clear HE1
  generalize hq4 : w.heap.size + 1 + 1 = q4 at HR ⊢
  generalize hq3 : w.heap.size + 1 = q3 at HQ3 hq4 ⊢
  have HQN : Hid (w.heap.size ≤ q4) := Lib.hid (by omega)
  clear hq3 hq4
  obtain ⟨i0, i1, i2, i3, i4, i5⟩ := blk_six HD.out
  obtain ⟨j0, j1, j2, j3, j4⟩ := blk_five HQ3.out
  go_upto_region 4 with (go_at_call 39; (with_reducible refine (HIS.out _).mono ?_); rintro e w2 ⟨rfl, ho⟩; (replace HX := Lib.hid (on_new HX.out ho)); (replace HD := Lib.hid (HD.out.only ho (Nat.not_le.2 HD.out.lt))); (replace HR := Lib.hid (HR.out.only ho (Nat.not_le.2 HR.out.lt))); clear ho i0 i1 i2 i3 i4 i5 j0 j1 j2 j3 j4)
  obtain ⟨i0, i1, i2, i3, i4, i5⟩ := blk_six HD.out
  obtain ⟨r0, r1, r2, r3, r4, r5⟩ := blk_six HR.out
  have fr0 := HR.out.frozen 0
  have fr1 := HR.out.frozen 1
  have fr2 := HR.out.frozen 2
  have fr3 := HR.out.frozen 3
  have fr4 := HR.out.frozen 4
  have fr5 := HR.out.frozen 5
  go_wp2
  have hk := kd_set (a' := .int .i64 L) (b' := .slice BA bn bc) (c' := .slice RA rn rc) (d' := .int .i64 ops) (e' := .int .i64 fu) (f' := .bool false) HR.out
  refine bodyPost_ret (k_results_cell_tmp rfl rfl (load_kd hk.1)) rfl ?_
  exact ⟨rfl, HX.out.trans (hk.2.mono fun k hk' => by have h := HQN.out; have h2 : k = q4 := hk'; omega)⟩
end Go.Proofs.YtbpldkhgiddmlaaGreatDoor

/-
  The document's Do: where it arms, and where it writes.
-/
set_option linter.unusedVariables false
namespace Go.Proofs.YtbpldkhgiddmlaaGreatDoor
open Go.RowKit

theorem dk_fin {D : Nat → Prop} {w w1 w2 w3 w' : World} {q4 : Nat} {v : Value} {l : List Dk.Wr} (hs : SRw kwE (fun k => D k ∨ (w.heap.size ≤ k ∧ k < w1.heap.size)) w2 v l) (h3 : Only (w2.heap.size ≤ ·) w2 w3) (hk : Only (· = q4) w3 w') (hq : w.heap.size ≤ q4 ∧ q4 < w1.heap.size) : SRw kwE D w' v l :=
  hs.step ((h3.mono fun k h => .inr h).trans (hk.mono fun k h => .inl (.inr (by have e : k = q4 := h; omega)))) fun k h => .inl (.inl h)
set_option maxRecDepth 100000 in
set_option maxHeartbeats 12800000 in
theorem kDo_arm_on (w : World) (L : Int) (BA : Option Addr) (bn bc : Nat) (RA : Option Addr) (rn rc : Nat) (ops fu : Int) (a : Int) (h0 : ¬ a < 0) : Calls Tryz.prog 11 #[.agg #[.int .i64 L, .slice BA bn bc, .slice RA rn rc, .int .i64 ops, .int .i64 fu, .bool false], .agg #[.int .i64 4, .int .i64 a, .int .i64 0, .slice none 0 0, .slice none 0 0]] w (Told w (.tuple #[.agg #[.int .i64 L, .slice BA bn bc, .slice RA rn rc, .int .i64 ops, .int .i64 a, .bool false], .slice none 0 0, .int .i64 0])) := by
  obtain ⟨w1, hw1⟩ : ∃ W0, W0 = ((w.alloc (.cells #[.int .i64 L, .slice BA bn bc, .slice RA rn rc, .int .i64 ops, .int .i64 fu, .bool false] 34)).alloc (.cells #[.int .i64 4, .int .i64 a, .int .i64 0, .slice none 0 0, .slice none 0 0] 44)).alloc (.cells #[.int .i64 0, .slice none 0 0, .slice none 0 0, .int .i64 0, .int .i64 0, .bool false] 34) := ⟨_, rfl⟩
  have HX : Hid (Only (w.heap.size ≤ ·) w w1) := Lib.hid (by rw [hw1]; exact (((Only.refl _ w).alloc (fun _ h => h) _).alloc (fun _ h => h) _).alloc (fun _ h => h) _)
  have HD : Hid (Blk w1 w.heap.size 34 [.int .i64 L, .slice BA bn bc, .slice RA rn rc, .int .i64 ops, .int .i64 fu, .bool false]) := Lib.hid (by rw [hw1]; exact ((Blk.new w 34 [.int .i64 L, .slice BA bn bc, .slice RA rn rc, .int .i64 ops, .int .i64 fu, .bool false]).alloc _).alloc _)
  have HQ3 : Hid (Blk w1 (w.heap.size + 1) 44 [.int .i64 4, .int .i64 a, .int .i64 0, .slice none 0 0, .slice none 0 0]) := Lib.hid (by
    have h := (Blk.new (w.alloc (.cells #[.int .i64 L, .slice BA bn bc, .slice RA rn rc, .int .i64 ops, .int .i64 fu, .bool false] 34)) 44 [.int .i64 4, .int .i64 a, .int .i64 0, .slice none 0 0, .slice none 0 0]).alloc (.cells #[.int .i64 0, .slice none 0 0, .slice none 0 0, .int .i64 0, .int .i64 0, .bool false] 34)
    rw [← hw1] at h
    simpa using h)
  have HR : Hid (Blk w1 (w.heap.size + 1 + 1) 34 [.int .i64 0, .slice none 0 0, .slice none 0 0, .int .i64 0, .int .i64 0, .bool false]) := Lib.hid (by
    have h := Blk.new ((w.alloc (.cells #[.int .i64 L, .slice BA bn bc, .slice RA rn rc, .int .i64 ops, .int .i64 fu, .bool false] 34)).alloc (.cells #[.int .i64 4, .int .i64 a, .int .i64 0, .slice none 0 0, .slice none 0 0] 44)) 34 [.int .i64 0, .slice none 0 0, .slice none 0 0, .int .i64 0, .int .i64 0, .bool false]
    rw [← hw1] at h
    simpa using h)
  have HE1 := Lib.hid hw1
  clear hw1
  go_enter Tryz.func11, Tryz.ntmps11
  go_upto_region 1 with (fail)
  rw [← HE1.out]
  clear HE1
  generalize hq4 : w.heap.size + 1 + 1 = q4 at HR ⊢
  generalize hq3 : w.heap.size + 1 = q3 at HQ3 hq4 ⊢
  have HQN : Hid (w.heap.size ≤ q4 ∧ ¬ q4 = w.heap.size) := Lib.hid (by omega)
  have HQ31 : Hid (¬ q3 = w.heap.size) := Lib.hid (by omega)
  clear hq3 hq4
  obtain ⟨i0, i1, i2, i3, i4, i5⟩ := blk_six HD.out
  obtain ⟨j0, j1, j2, j3, j4⟩ := blk_five HQ3.out
  have z4 := HD.out.frozen 4
  go_upto_region 3 with (fail)
  obtain ⟨w2, hw2⟩ : ∃ W0, W0 = w1.setCell ⟨w.heap.size, 4, none⟩ (.int .i64 a) := ⟨_, rfl⟩
  have HSw2 : Hid (Only (· = w.heap.size) w1 w2) := Lib.hid (by rw [hw2]; exact (Only.refl (· = w.heap.size) w1).setCell (p := ⟨w.heap.size, 4, none⟩) rfl _)
  replace HD : Hid (Blk w2 w.heap.size 34 [.int .i64 L, .slice BA bn bc, .slice RA rn rc, .int .i64 ops, .int .i64 a, .bool false]) := Lib.hid (by rw [hw2]; exact HD.out.set_ 4 (.int .i64 a))
  replace HR := Lib.hid (HR.out.only HSw2.out (fun e => HQN.out.2 e))
  replace HQ3 := Lib.hid (HQ3.out.only HSw2.out (fun e => HQ31.out e))
  replace HX := Lib.hid (HX.out.trans (HSw2.out.mono fun k hk => Nat.le_of_eq (hk : k = w.heap.size).symm))
  rw [← hw2]
  clear hw2 i0 i1 i2 i3 i4 i5 j0 j1 j2 j3 j4
  obtain ⟨i0, i1, i2, i3, i4, i5⟩ := blk_six HD.out
  obtain ⟨j0, j1, j2, j3, j4⟩ := blk_five HQ3.out
  obtain ⟨r0, r1, r2, r3, r4, r5⟩ := blk_six HR.out
  have fr0 := HR.out.frozen 0
  have fr1 := HR.out.frozen 1
  have fr2 := HR.out.frozen 2
  have fr3 := HR.out.frozen 3
  have fr4 := HR.out.frozen 4
  have fr5 := HR.out.frozen 5
  go_wp2
  have hk := kd_set (a' := .int .i64 L) (b' := .slice BA bn bc) (c' := .slice RA rn rc) (d' := .int .i64 ops) (e' := .int .i64 a) (f' := .bool false) HR.out
  refine bodyPost_ret (results_ctt rfl rfl (load_kd hk.1)) rfl ?_
  exact ⟨rfl, HX.out.trans (hk.2.mono fun k hk' => by have h := HQN.out; have h2 : k = q4 := hk'; omega)⟩
set_option maxRecDepth 100000 in
set_option maxHeartbeats 12800000 in
theorem kDo_arm_off (w : World) (L : Int) (BA : Option Addr) (bn bc : Nat) (RA : Option Addr) (rn rc : Nat) (ops fu : Int) (a : Int) (h0 : a < 0) : Calls Tryz.prog 11 #[.agg #[.int .i64 L, .slice BA bn bc, .slice RA rn rc, .int .i64 ops, .int .i64 fu, .bool false], .agg #[.int .i64 4, .int .i64 a, .int .i64 0, .slice none 0 0, .slice none 0 0]] w (Told w (.tuple #[.agg #[.int .i64 L, .slice BA bn bc, .slice RA rn rc, .int .i64 ops, .int .i64 (-1), .bool false], .slice none 0 0, .int .i64 0])) := by
  obtain ⟨w1, hw1⟩ : ∃ W0, W0 = ((w.alloc (.cells #[.int .i64 L, .slice BA bn bc, .slice RA rn rc, .int .i64 ops, .int .i64 fu, .bool false] 34)).alloc (.cells #[.int .i64 4, .int .i64 a, .int .i64 0, .slice none 0 0, .slice none 0 0] 44)).alloc (.cells #[.int .i64 0, .slice none 0 0, .slice none 0 0, .int .i64 0, .int .i64 0, .bool false] 34) := ⟨_, rfl⟩
  have HX : Hid (Only (w.heap.size ≤ ·) w w1) := Lib.hid (by rw [hw1]; exact (((Only.refl _ w).alloc (fun _ h => h) _).alloc (fun _ h => h) _).alloc (fun _ h => h) _)
  have HD : Hid (Blk w1 w.heap.size 34 [.int .i64 L, .slice BA bn bc, .slice RA rn rc, .int .i64 ops, .int .i64 fu, .bool false]) := Lib.hid (by rw [hw1]; exact ((Blk.new w 34 [.int .i64 L, .slice BA bn bc, .slice RA rn rc, .int .i64 ops, .int .i64 fu, .bool false]).alloc _).alloc _)
  have HQ3 : Hid (Blk w1 (w.heap.size + 1) 44 [.int .i64 4, .int .i64 a, .int .i64 0, .slice none 0 0, .slice none 0 0]) := Lib.hid (by
    have h := (Blk.new (w.alloc (.cells #[.int .i64 L, .slice BA bn bc, .slice RA rn rc, .int .i64 ops, .int .i64 fu, .bool false] 34)) 44 [.int .i64 4, .int .i64 a, .int .i64 0, .slice none 0 0, .slice none 0 0]).alloc (.cells #[.int .i64 0, .slice none 0 0, .slice none 0 0, .int .i64 0, .int .i64 0, .bool false] 34)
    rw [← hw1] at h
    simpa using h)
  have HR : Hid (Blk w1 (w.heap.size + 1 + 1) 34 [.int .i64 0, .slice none 0 0, .slice none 0 0, .int .i64 0, .int .i64 0, .bool false]) := Lib.hid (by
    have h := Blk.new ((w.alloc (.cells #[.int .i64 L, .slice BA bn bc, .slice RA rn rc, .int .i64 ops, .int .i64 fu, .bool false] 34)).alloc (.cells #[.int .i64 4, .int .i64 a, .int .i64 0, .slice none 0 0, .slice none 0 0] 44)) 34 [.int .i64 0, .slice none 0 0, .slice none 0 0, .int .i64 0, .int .i64 0, .bool false]
    rw [← hw1] at h
    simpa using h)
  have HE1 := Lib.hid hw1
  clear hw1
  go_enter Tryz.func11, Tryz.ntmps11
  go_upto_region 1 with (fail)
  rw [← HE1.out]
  clear HE1
  generalize hq4 : w.heap.size + 1 + 1 = q4 at HR ⊢
  generalize hq3 : w.heap.size + 1 = q3 at HQ3 hq4 ⊢
  have HQN : Hid (w.heap.size ≤ q4 ∧ ¬ q4 = w.heap.size) := Lib.hid (by omega)
  have HQ31 : Hid (¬ q3 = w.heap.size) := Lib.hid (by omega)
  clear hq3 hq4
  obtain ⟨i0, i1, i2, i3, i4, i5⟩ := blk_six HD.out
  obtain ⟨j0, j1, j2, j3, j4⟩ := blk_five HQ3.out
  have z4 := HD.out.frozen 4
  go_upto_region 3 with (fail)
  obtain ⟨w2, hw2⟩ : ∃ W0, W0 = w1.setCell ⟨w.heap.size, 4, none⟩ (.int .i64 a) := ⟨_, rfl⟩
  have HSw2 : Hid (Only (· = w.heap.size) w1 w2) := Lib.hid (by rw [hw2]; exact (Only.refl (· = w.heap.size) w1).setCell (p := ⟨w.heap.size, 4, none⟩) rfl _)
  replace HD : Hid (Blk w2 w.heap.size 34 [.int .i64 L, .slice BA bn bc, .slice RA rn rc, .int .i64 ops, .int .i64 a, .bool false]) := Lib.hid (by rw [hw2]; exact HD.out.set_ 4 (.int .i64 a))
  replace HR := Lib.hid (HR.out.only HSw2.out (fun e => HQN.out.2 e))
  replace HQ3 := Lib.hid (HQ3.out.only HSw2.out (fun e => HQ31.out e))
  replace HX := Lib.hid (HX.out.trans (HSw2.out.mono fun k hk => Nat.le_of_eq (hk : k = w.heap.size).symm))
  rw [← hw2]
  clear hw2 i0 i1 i2 i3 i4 i5 j0 j1 j2 j3 j4
  obtain ⟨i0, i1, i2, i3, i4, i5⟩ := blk_six HD.out
  obtain ⟨j0, j1, j2, j3, j4⟩ := blk_five HQ3.out
  have z4 := HD.out.frozen 4
  go_upto_region 5 with (fail)
  obtain ⟨w3, hw3⟩ : ∃ W0, W0 = w2.setCell ⟨w.heap.size, 4, none⟩ (.int .i64 (-1)) := ⟨_, rfl⟩
  have HSw3 : Hid (Only (· = w.heap.size) w2 w3) := Lib.hid (by rw [hw3]; exact (Only.refl (· = w.heap.size) w2).setCell (p := ⟨w.heap.size, 4, none⟩) rfl _)
  replace HD : Hid (Blk w3 w.heap.size 34 [.int .i64 L, .slice BA bn bc, .slice RA rn rc, .int .i64 ops, .int .i64 (-1), .bool false]) := Lib.hid (by rw [hw3]; exact HD.out.set_ 4 (.int .i64 (-1)))
  replace HR := Lib.hid (HR.out.only HSw3.out (fun e => HQN.out.2 e))
  replace HQ3 := Lib.hid (HQ3.out.only HSw3.out (fun e => HQ31.out e))
  replace HX := Lib.hid (HX.out.trans (HSw3.out.mono fun k hk => Nat.le_of_eq (hk : k = w.heap.size).symm))
  rw [← hw3]
  clear hw3 i0 i1 i2 i3 i4 i5 j0 j1 j2 j3 j4
  obtain ⟨i0, i1, i2, i3, i4, i5⟩ := blk_six HD.out
  obtain ⟨j0, j1, j2, j3, j4⟩ := blk_five HQ3.out
  obtain ⟨r0, r1, r2, r3, r4, r5⟩ := blk_six HR.out
  have fr0 := HR.out.frozen 0
  have fr1 := HR.out.frozen 1
  have fr2 := HR.out.frozen 2
  have fr3 := HR.out.frozen 3
  have fr4 := HR.out.frozen 4
  have fr5 := HR.out.frozen 5
  go_wp2
  have hk := kd_set (a' := .int .i64 L) (b' := .slice BA bn bc) (c' := .slice RA rn rc) (d' := .int .i64 ops) (e' := .int .i64 (-1)) (f' := .bool false) HR.out
  refine bodyPost_ret (results_ctt rfl rfl (load_kd hk.1)) rfl ?_
  exact ⟨rfl, HX.out.trans (hk.2.mono fun k hk' => by have h := HQN.out; have h2 : k = q4 := hk'; omega)⟩
def GaveDk (D : Nat → Prop) (w : World) (L : Int) (BA : Option Addr) (bn bc : Nat) (o2 f2 : Int) (dn : Bool) (l : List Dk.Wr) (y : Int) (e : Ending) (w' : World) : Prop := ∃ R z t, e = .returned (.tuple #[.agg #[.int .i64 L, .slice BA bn bc, .slice R z t, .int .i64 o2, .int .i64 f2, .bool dn], .slice none 0 0, .int .i64 y]) ∧ z = l.length ∧ SRw kwE D w' (.slice R z t) l ∧ Only (w.heap.size ≤ ·) w w'
set_option maxRecDepth 100000 in
set_option maxHeartbeats 12800000 in
theorem kDo_write (D : Nat → Prop) (w : World) (L : Int) (BA : Option Addr) (bn bc : Nat) (RA : Option Addr) (rn rc : Nat) (ops fu : Int) (a : Int) (P : Option Addr) (pn pc : Nat) (o2 f2 : Int) (dn : Bool) (l : List Dk.Wr) (y : Int)
    (hw : ∀ W, Only (w.heap.size ≤ ·) w W → Calls Tryz.prog 41 #[.agg #[.int .i64 L, .slice BA bn bc, .slice RA rn rc, .int .i64 ops, .int .i64 fu, .bool false], .agg #[.int .i64 2, .int .i64 a, .int .i64 0, .slice P pn pc, .slice none 0 0]] W (GaveWr (fun k => D k ∨ (w.heap.size ≤ k ∧ k < W.heap.size)) W L BA bn bc o2 f2 dn l y)) :
    Calls Tryz.prog 11 #[.agg #[.int .i64 L, .slice BA bn bc, .slice RA rn rc, .int .i64 ops, .int .i64 fu, .bool false], .agg #[.int .i64 2, .int .i64 a, .int .i64 0, .slice P pn pc, .slice none 0 0]] w (GaveDk D w L BA bn bc o2 f2 dn l y) := by
  obtain ⟨w1, hw1⟩ : ∃ W0, W0 = ((w.alloc (.cells #[.int .i64 L, .slice BA bn bc, .slice RA rn rc, .int .i64 ops, .int .i64 fu, .bool false] 34)).alloc (.cells #[.int .i64 2, .int .i64 a, .int .i64 0, .slice P pn pc, .slice none 0 0] 44)).alloc (.cells #[.int .i64 0, .slice none 0 0, .slice none 0 0, .int .i64 0, .int .i64 0, .bool false] 34) := ⟨_, rfl⟩
  have HX : Hid (Only (w.heap.size ≤ ·) w w1) := Lib.hid (by rw [hw1]; exact (((Only.refl _ w).alloc (fun _ h => h) _).alloc (fun _ h => h) _).alloc (fun _ h => h) _)
  have HD : Hid (Blk w1 w.heap.size 34 [.int .i64 L, .slice BA bn bc, .slice RA rn rc, .int .i64 ops, .int .i64 fu, .bool false]) := Lib.hid (by rw [hw1]; exact ((Blk.new w 34 [.int .i64 L, .slice BA bn bc, .slice RA rn rc, .int .i64 ops, .int .i64 fu, .bool false]).alloc _).alloc _)
  have HQ3 : Hid (Blk w1 (w.heap.size + 1) 44 [.int .i64 2, .int .i64 a, .int .i64 0, .slice P pn pc, .slice none 0 0]) := Lib.hid (by
    have h := (Blk.new (w.alloc (.cells #[.int .i64 L, .slice BA bn bc, .slice RA rn rc, .int .i64 ops, .int .i64 fu, .bool false] 34)) 44 [.int .i64 2, .int .i64 a, .int .i64 0, .slice P pn pc, .slice none 0 0]).alloc (.cells #[.int .i64 0, .slice none 0 0, .slice none 0 0, .int .i64 0, .int .i64 0, .bool false] 34)
    rw [← hw1] at h
    simpa using h)
  have HR : Hid (Blk w1 (w.heap.size + 1 + 1) 34 [.int .i64 0, .slice none 0 0, .slice none 0 0, .int .i64 0, .int .i64 0, .bool false]) := Lib.hid (by
    have h := Blk.new ((w.alloc (.cells #[.int .i64 L, .slice BA bn bc, .slice RA rn rc, .int .i64 ops, .int .i64 fu, .bool false] 34)).alloc (.cells #[.int .i64 2, .int .i64 a, .int .i64 0, .slice P pn pc, .slice none 0 0] 44)) 34 [.int .i64 0, .slice none 0 0, .slice none 0 0, .int .i64 0, .int .i64 0, .bool false]
    rw [← hw1] at h
    simpa using h)
  have HE1 := Lib.hid hw1
  have HW := Lib.hid (hw w1 HX.out)
  clear hw1 hw
  go_enter Tryz.func11, Tryz.ntmps11
  go_upto_region 1 with (fail)
  rw [← HE1.out]
  clear HE1
  generalize hq4 : w.heap.size + 1 + 1 = q4 at HR ⊢
  generalize hq3 : w.heap.size + 1 = q3 at HQ3 hq4 ⊢
  have HQN : Hid (w.heap.size ≤ q4 ∧ ¬ q4 = w.heap.size) := Lib.hid (by omega)
  clear hq3 hq4
  obtain ⟨i0, i1, i2, i3, i4, i5⟩ := blk_six HD.out
  obtain ⟨j0, j1, j2, j3, j4⟩ := blk_five HQ3.out
  have HQL := Lib.hid HR.out.lt
  go_upto_region 29 with (go_at_call 41; (with_reducible refine HW.out.mono ?_); rintro e w2 ⟨R, z, t, rfl, hz, hs, ho⟩; have HZ2 := Lib.hid hz; have HS := Lib.hid hs; have HO := Lib.hid ho; clear hz hs ho i0 i1 i2 i3 i4 i5 j0 j1 j2 j3 j4)
  obtain ⟨w3, hw3⟩ : ∃ W0, W0 = w2.alloc (.cells #[.int .i64 L, .slice BA bn bc, .slice R z t, .int .i64 o2, .int .i64 f2, .bool dn] 34) := ⟨_, rfl⟩
  have HO3 : Hid (Only (w2.heap.size ≤ ·) w2 w3) := Lib.hid (by rw [hw3]; exact (Only.refl _ w2).alloc (fun _ h => h) _)
  have HD9 : Hid (Blk w3 w2.heap.size 34 [.int .i64 L, .slice BA bn bc, .slice R z t, .int .i64 o2, .int .i64 f2, .bool dn]) := Lib.hid (by rw [hw3]; exact Blk.new w2 34 _)
  rw [← hw3]
  generalize hq9 : w2.heap.size = q9 at HD9 ⊢
  clear hw3 hq9
  obtain ⟨i0, i1, i2, i3, i4, i5⟩ := blk_six HD9.out
  replace HR := Lib.hid (HR.out.only (HO.out.trans (HO3.out.mono fun k hk => Nat.le_trans HO.out.size hk)) (Nat.not_le.2 HR.out.lt))
  obtain ⟨r0, r1, r2, r3, r4, r5⟩ := blk_six HR.out
  have fr0 := HR.out.frozen 0
  have fr1 := HR.out.frozen 1
  have fr2 := HR.out.frozen 2
  have fr3 := HR.out.frozen 3
  have fr4 := HR.out.frozen 4
  have fr5 := HR.out.frozen 5
  go_wp2
  have hk := kd_set (a' := .int .i64 L) (b' := .slice BA bn bc) (c' := .slice R z t) (d' := .int .i64 o2) (e' := .int .i64 f2) (f' := .bool dn) HR.out
  refine bodyPost_ret (results_ctt rfl rfl (load_kd hk.1)) rfl ?_
  exact ⟨R, z, t, rfl, HZ2.out, dk_fin HS.out HO3.out hk.2 ⟨HQN.out.1, HQL.out⟩, (on_new HX.out (on_new HO.out HO3.out)).trans (hk.2.mono fun k hk2 => (hk2 : k = q4).symm ▸ HQN.out.1)⟩
end Go.Proofs.YtbpldkhgiddmlaaGreatDoor

/-
  The document's Do, where it syncs.
-/
set_option linter.unusedVariables false
namespace Go.Proofs.YtbpldkhgiddmlaaGreatDoor
open Go.RowKit

set_option maxRecDepth 100000 in
set_option maxHeartbeats 12800000 in
theorem kDo_sync_down (w : World) (L : Int) (BA : Option Addr) (bn bc : Nat) (RA : Option Addr) (rn rc : Nat) (ops fu : Int) (ho : 0 ≤ ops ∧ ops < 4611686018427387904) (hf : -1 ≤ fu ∧ fu ≤ 9223372036854775807) (o2 f2 : Int) (ho2 : o2 = ops + 1) (hf2 : f2 = if 0 ≤ fu then fu - 1 else fu) (hdn : decide (fu = 0) = true) : Calls Tryz.prog 11 #[.agg #[.int .i64 L, .slice BA bn bc, .slice RA rn rc, .int .i64 ops, .int .i64 fu, .bool false], .agg #[.int .i64 3, .int .i64 0, .int .i64 0, .slice none 0 0, .slice none 0 0]] w (Told w (.tuple #[.agg #[.int .i64 L, .slice BA bn bc, .slice RA rn rc, .int .i64 o2, .int .i64 f2, .bool true], .slice none 0 0, .int .i64 10])) := by
  obtain ⟨w1, hw1⟩ : ∃ W0, W0 = ((w.alloc (.cells #[.int .i64 L, .slice BA bn bc, .slice RA rn rc, .int .i64 ops, .int .i64 fu, .bool false] 34)).alloc (.cells #[.int .i64 3, .int .i64 0, .int .i64 0, .slice none 0 0, .slice none 0 0] 44)).alloc (.cells #[.int .i64 0, .slice none 0 0, .slice none 0 0, .int .i64 0, .int .i64 0, .bool false] 34) := ⟨_, rfl⟩
  have HX : Hid (Only (w.heap.size ≤ ·) w w1) := Lib.hid (by rw [hw1]; exact (((Only.refl _ w).alloc (fun _ h => h) _).alloc (fun _ h => h) _).alloc (fun _ h => h) _)
  have HD : Hid (Blk w1 w.heap.size 34 [.int .i64 L, .slice BA bn bc, .slice RA rn rc, .int .i64 ops, .int .i64 fu, .bool false]) := Lib.hid (by rw [hw1]; exact ((Blk.new w 34 [.int .i64 L, .slice BA bn bc, .slice RA rn rc, .int .i64 ops, .int .i64 fu, .bool false]).alloc _).alloc _)
  have HQ3 : Hid (Blk w1 (w.heap.size + 1) 44 [.int .i64 3, .int .i64 0, .int .i64 0, .slice none 0 0, .slice none 0 0]) := Lib.hid (by
    have h := (Blk.new (w.alloc (.cells #[.int .i64 L, .slice BA bn bc, .slice RA rn rc, .int .i64 ops, .int .i64 fu, .bool false] 34)) 44 [.int .i64 3, .int .i64 0, .int .i64 0, .slice none 0 0, .slice none 0 0]).alloc (.cells #[.int .i64 0, .slice none 0 0, .slice none 0 0, .int .i64 0, .int .i64 0, .bool false] 34)
    rw [← hw1] at h
    simpa using h)
  have HR : Hid (Blk w1 (w.heap.size + 1 + 1) 34 [.int .i64 0, .slice none 0 0, .slice none 0 0, .int .i64 0, .int .i64 0, .bool false]) := Lib.hid (by
    have h := Blk.new ((w.alloc (.cells #[.int .i64 L, .slice BA bn bc, .slice RA rn rc, .int .i64 ops, .int .i64 fu, .bool false] 34)).alloc (.cells #[.int .i64 3, .int .i64 0, .int .i64 0, .slice none 0 0, .slice none 0 0] 44)) 34 [.int .i64 0, .slice none 0 0, .slice none 0 0, .int .i64 0, .int .i64 0, .bool false]
    rw [← hw1] at h
    simpa using h)
  have HE1 := Lib.hid hw1
  have HC : Hid (∀ (W : World), Calls Tryz.prog 42 #[.agg #[.int .i64 L, .slice BA bn bc, .slice RA rn rc, .int .i64 ops, .int .i64 fu, .bool false]] W (Told W (.agg #[.int .i64 L, .slice BA bn bc, .slice RA rn rc, .int .i64 o2, .int .i64 f2, .bool true]))) := Lib.hid (fun W => by
    have h := kcount_c W L BA bn bc RA rn rc ops fu ho hf
    unfold kdv at h
    rw [← ho2, ← hf2, hdn] at h
    exact h)
  clear hw1 ho hf ho2 hf2 hdn
  go_enter Tryz.func11, Tryz.ntmps11
  go_upto_region 1 with (fail)
  rw [← HE1.out]
  clear HE1
  generalize hq4 : w.heap.size + 1 + 1 = q4 at HR ⊢
  generalize hq3 : w.heap.size + 1 = q3 at HQ3 hq4 ⊢
  have HQN : Hid (w.heap.size ≤ q4 ∧ ¬ q4 = w.heap.size) := Lib.hid (by omega)
  clear hq3 hq4
  obtain ⟨i0, i1, i2, i3, i4, i5⟩ := blk_six HD.out
  obtain ⟨j0, j1, j2, j3, j4⟩ := blk_five HQ3.out
  have y0 := HD.out.frozen 0
  have y1 := HD.out.frozen 1
  have y2 := HD.out.frozen 2
  have y3 := HD.out.frozen 3
  have y4 := HD.out.frozen 4
  have y5 := HD.out.frozen 5
  go_upto_region 32 with (go_at_call 42; (with_reducible refine (HC.out w1).mono ?_); rintro e w2 ⟨rfl, ho⟩; (replace HD := Lib.hid (HD.out.only ho (Nat.not_le.2 HD.out.lt))); (replace HR := Lib.hid (HR.out.only ho (Nat.not_le.2 HR.out.lt))); (replace HQ3 := Lib.hid (HQ3.out.only ho (Nat.not_le.2 HQ3.out.lt))); (replace HX := Lib.hid (on_new HX.out ho)); clear ho i0 i1 i2 i3 i4 i5 j0 j1 j2 j3 j4 y0 y1 y2 y3 y4 y5; (obtain ⟨i0, i1, i2, i3, i4, i5⟩ := blk_six HD.out); have y0 := HD.out.frozen 0; have y1 := HD.out.frozen 1; have y2 := HD.out.frozen 2; have y3 := HD.out.frozen 3; have y4 := HD.out.frozen 4; have y5 := HD.out.frozen 5)
  clear i0 i1 i2 i3 i4 i5 y0 y1 y2 y3 y4 y5
  have hk := kd_set (a' := .int .i64 L) (b' := .slice BA bn bc) (c' := .slice RA rn rc) (d' := .int .i64 o2) (e' := .int .i64 f2) (f' := .bool true) HD.out
  generalize hw3 : (((((w2.setCell ⟨w.heap.size, 0, none⟩ (.int .i64 L)).setCell ⟨w.heap.size, 1, none⟩ (.slice BA bn bc)).setCell ⟨w.heap.size, 2, none⟩ (.slice RA rn rc)).setCell ⟨w.heap.size, 3, none⟩ (.int .i64 o2)).setCell ⟨w.heap.size, 4, none⟩ (.int .i64 f2)).setCell ⟨w.heap.size, 5, none⟩ (.bool true) = w3 at hk ⊢
  clear hw3
  replace HD := Lib.hid hk.1
  have HS3 := Lib.hid hk.2
  clear hk
  replace HR := Lib.hid (HR.out.only HS3.out (fun e => HQN.out.2 e))
  replace HX := Lib.hid (HX.out.trans (HS3.out.mono fun k hk => Nat.le_of_eq (hk : k = w.heap.size).symm))
  obtain ⟨i0, i1, i2, i3, i4, i5⟩ := blk_six HD.out
  obtain ⟨r0, r1, r2, r3, r4, r5⟩ := blk_six HR.out
  have fr0 := HR.out.frozen 0
  have fr1 := HR.out.frozen 1
  have fr2 := HR.out.frozen 2
  have fr3 := HR.out.frozen 3
  have fr4 := HR.out.frozen 4
  have fr5 := HR.out.frozen 5
  go_wp2
  have hk := kd_set (a' := .int .i64 L) (b' := .slice BA bn bc) (c' := .slice RA rn rc) (d' := .int .i64 o2) (e' := .int .i64 f2) (f' := .bool true) HR.out
  refine bodyPost_ret (results_ctt rfl rfl (load_kd hk.1)) rfl ?_
  exact ⟨rfl, HX.out.trans (hk.2.mono fun k hk' => by have h := HQN.out; have h2 : k = q4 := hk'; omega)⟩
set_option maxRecDepth 100000 in
set_option maxHeartbeats 12800000 in
theorem kDo_sync_ok (D : Nat → Prop) (w : World) (L : Int) (BA : Option Addr) (bn bc : Nat) (RA : Option Addr) (rn rc : Nat) (ops fu : Int) (hD : ∀ k, D k → k < w.heap.size) (B : Bytes) (row : List Dk.Wr) (N : Nat) (hs : Stab D w (fun W => Src W (.slice BA bn bc) B)) (hn : B.length = bn) (hN : bn = N * 64) (hN2 : N ≤ 65536) (hr : SRw kwE D w (.slice RA rn rc) row) (hfi : Dk.Fits N row) (hrn : rn ≤ 1000000) (ho : 0 ≤ ops ∧ ops < 4611686018427387904) (hf : -1 ≤ fu ∧ fu ≤ 9223372036854775807) (o2 f2 : Int) (ho2 : o2 = ops + 1) (hf2 : f2 = if 0 ≤ fu then fu - 1 else fu) (hdn : decide (fu = 0) = false) : Calls Tryz.prog 11 #[.agg #[.int .i64 L, .slice BA bn bc, .slice RA rn rc, .int .i64 ops, .int .i64 fu, .bool false], .agg #[.int .i64 3, .int .i64 0, .int .i64 0, .slice none 0 0, .slice none 0 0]] w (fun e w' => ∃ A c, e = .returned (.tuple #[.agg #[.int .i64 L, .slice A bn c, .slice none 0 0, .int .i64 o2, .int .i64 f2, .bool false], .slice none 0 0, .int .i64 0]) ∧ Stab D w' (fun W => Src W (.slice A bn c) (Dk.look B row)) ∧ Only (w.heap.size ≤ ·) w w') := by
  obtain ⟨w1, hw1⟩ : ∃ W0, W0 = ((w.alloc (.cells #[.int .i64 L, .slice BA bn bc, .slice RA rn rc, .int .i64 ops, .int .i64 fu, .bool false] 34)).alloc (.cells #[.int .i64 3, .int .i64 0, .int .i64 0, .slice none 0 0, .slice none 0 0] 44)).alloc (.cells #[.int .i64 0, .slice none 0 0, .slice none 0 0, .int .i64 0, .int .i64 0, .bool false] 34) := ⟨_, rfl⟩
  have HX : Hid (Only (w.heap.size ≤ ·) w w1) := Lib.hid (by rw [hw1]; exact (((Only.refl _ w).alloc (fun _ h => h) _).alloc (fun _ h => h) _).alloc (fun _ h => h) _)
  have HD : Hid (Blk w1 w.heap.size 34 [.int .i64 L, .slice BA bn bc, .slice RA rn rc, .int .i64 ops, .int .i64 fu, .bool false]) := Lib.hid (by rw [hw1]; exact ((Blk.new w 34 [.int .i64 L, .slice BA bn bc, .slice RA rn rc, .int .i64 ops, .int .i64 fu, .bool false]).alloc _).alloc _)
  have HQ3 : Hid (Blk w1 (w.heap.size + 1) 44 [.int .i64 3, .int .i64 0, .int .i64 0, .slice none 0 0, .slice none 0 0]) := Lib.hid (by
    have h := (Blk.new (w.alloc (.cells #[.int .i64 L, .slice BA bn bc, .slice RA rn rc, .int .i64 ops, .int .i64 fu, .bool false] 34)) 44 [.int .i64 3, .int .i64 0, .int .i64 0, .slice none 0 0, .slice none 0 0]).alloc (.cells #[.int .i64 0, .slice none 0 0, .slice none 0 0, .int .i64 0, .int .i64 0, .bool false] 34)
    rw [← hw1] at h
    simpa using h)
  have HR : Hid (Blk w1 (w.heap.size + 1 + 1) 34 [.int .i64 0, .slice none 0 0, .slice none 0 0, .int .i64 0, .int .i64 0, .bool false]) := Lib.hid (by
    have h := Blk.new ((w.alloc (.cells #[.int .i64 L, .slice BA bn bc, .slice RA rn rc, .int .i64 ops, .int .i64 fu, .bool false] 34)).alloc (.cells #[.int .i64 3, .int .i64 0, .int .i64 0, .slice none 0 0, .slice none 0 0] 44)) 34 [.int .i64 0, .slice none 0 0, .slice none 0 0, .int .i64 0, .int .i64 0, .bool false]
    rw [← hw1] at h
    simpa using h)
  have HE1 := Lib.hid hw1
  have HC : Hid (∀ (W : World), Calls Tryz.prog 42 #[.agg #[.int .i64 L, .slice BA bn bc, .slice RA rn rc, .int .i64 ops, .int .i64 fu, .bool false]] W (Told W (.agg #[.int .i64 L, .slice BA bn bc, .slice RA rn rc, .int .i64 o2, .int .i64 f2, .bool false]))) := Lib.hid (fun W => by
    have h := kcount_c W L BA bn bc RA rn rc ops fu ho hf
    unfold kdv at h
    rw [← ho2, ← hf2, hdn] at h
    exact h)
  have HIM : Hid (∀ W, Only (w.heap.size ≤ ·) w W → Calls Tryz.prog 40 #[.agg #[.int .i64 L, .slice BA bn bc, .slice RA rn rc, .int .i64 o2, .int .i64 f2, .bool false]] W (GaveIm W bn (Dk.look B row))) := Lib.hid (fun W hW => kImage_c W L BA bn bc RA rn rc o2 f2 false B row N (hs W (hW.mono fun _ h => .inr h)) hn hN hN2 (hr.rw_ W (hW.mono fun _ h => .inr h)) hfi hrn)
  have H0 := Lib.hid hD
  have HZ := Lib.hid HX.out.size
  clear hw1 ho hf ho2 hf2 hdn hs hn hN hN2 hr hfi hrn hD
  go_enter Tryz.func11, Tryz.ntmps11
  go_upto_region 1 with (fail)
  rw [← HE1.out]
  clear HE1
  generalize hq4 : w.heap.size + 1 + 1 = q4 at HR ⊢
  generalize hq3 : w.heap.size + 1 = q3 at HQ3 hq4 ⊢
  have HQN : Hid (w.heap.size ≤ q4 ∧ ¬ q4 = w.heap.size) := Lib.hid (by omega)
  clear hq3 hq4
  obtain ⟨i0, i1, i2, i3, i4, i5⟩ := blk_six HD.out
  obtain ⟨j0, j1, j2, j3, j4⟩ := blk_five HQ3.out
  have y0 := HD.out.frozen 0
  have y1 := HD.out.frozen 1
  have y2 := HD.out.frozen 2
  have y3 := HD.out.frozen 3
  have y4 := HD.out.frozen 4
  have y5 := HD.out.frozen 5
  go_upto_region 32 with (go_at_call 42; (with_reducible refine (HC.out w1).mono ?_); rintro e w2 ⟨rfl, ho⟩; (replace HD := Lib.hid (HD.out.only ho (Nat.not_le.2 HD.out.lt))); (replace HR := Lib.hid (HR.out.only ho (Nat.not_le.2 HR.out.lt))); (replace HQ3 := Lib.hid (HQ3.out.only ho (Nat.not_le.2 HQ3.out.lt))); (replace HX := Lib.hid (on_new HX.out ho)); clear ho i0 i1 i2 i3 i4 i5 j0 j1 j2 j3 j4 y0 y1 y2 y3 y4 y5; (obtain ⟨i0, i1, i2, i3, i4, i5⟩ := blk_six HD.out); have y0 := HD.out.frozen 0; have y1 := HD.out.frozen 1; have y2 := HD.out.frozen 2; have y3 := HD.out.frozen 3; have y4 := HD.out.frozen 4; have y5 := HD.out.frozen 5)
  clear i0 i1 i2 i3 i4 i5 y0 y1 y2 y3 y4 y5
  have hk := kd_set (a' := .int .i64 L) (b' := .slice BA bn bc) (c' := .slice RA rn rc) (d' := .int .i64 o2) (e' := .int .i64 f2) (f' := .bool false) HD.out
  generalize hw3 : (((((w2.setCell ⟨w.heap.size, 0, none⟩ (.int .i64 L)).setCell ⟨w.heap.size, 1, none⟩ (.slice BA bn bc)).setCell ⟨w.heap.size, 2, none⟩ (.slice RA rn rc)).setCell ⟨w.heap.size, 3, none⟩ (.int .i64 o2)).setCell ⟨w.heap.size, 4, none⟩ (.int .i64 f2)).setCell ⟨w.heap.size, 5, none⟩ (.bool false) = w3 at hk ⊢
  clear hw3
  replace HD := Lib.hid hk.1
  have HS3 := Lib.hid hk.2
  clear hk
  replace HR := Lib.hid (HR.out.only HS3.out (fun e => HQN.out.2 e))
  replace HX := Lib.hid (HX.out.trans (HS3.out.mono fun k hk => Nat.le_of_eq (hk : k = w.heap.size).symm))
  obtain ⟨i0, i1, i2, i3, i4, i5⟩ := blk_six HD.out
  have y1 := HD.out.frozen 1
  have HLT := Lib.hid (And.intro HD.out.lt HR.out.lt)
  go_upto_region 35 with (go_at_call 40; (with_reducible refine (HIM.out w3 HX.out).mono ?_); rintro e w4 ⟨A, c, rfl, hs, hg, ho⟩; have HSI := Lib.hid hs; have HG := Lib.hid hg; have HO4 := Lib.hid ho; clear hs hg ho i0 i1 i2 i3 i4 i5 y1; (replace HD := Lib.hid (HD.out.only HO4.out (Nat.not_le.2 HD.out.lt))); (replace HR := Lib.hid (HR.out.only HO4.out (Nat.not_le.2 HR.out.lt))); (replace HX := Lib.hid (on_new HX.out HO4.out)); (obtain ⟨i0, i1, i2, i3, i4, i5⟩ := blk_six HD.out); have y1 := HD.out.frozen 1)
  clear y1
  obtain ⟨w5, hw5⟩ : ∃ W0, W0 = w4.setCell ⟨w.heap.size, 1, none⟩ (.slice A bn c) := ⟨_, rfl⟩
  have HSw5 : Hid (Only (· = w.heap.size) w4 w5) := Lib.hid (by rw [hw5]; exact (Only.refl (· = w.heap.size) w4).setCell (p := ⟨w.heap.size, 1, none⟩) rfl _)
  replace HD : Hid (Blk w5 w.heap.size 34 [.int .i64 L, .slice A bn c, .slice RA rn rc, .int .i64 o2, .int .i64 f2, .bool false]) := Lib.hid (by rw [hw5]; exact HD.out.set_ 1 (.slice A bn c))
  replace HR := Lib.hid (HR.out.only HSw5.out (fun e => HQN.out.2 e))
  replace HX := Lib.hid (HX.out.trans (HSw5.out.mono fun k hk => Nat.le_of_eq (hk : k = w.heap.size).symm))
  rw [← hw5]
  clear hw5 i0 i1 i2 i3 i4 i5
  obtain ⟨i0, i1, i2, i3, i4, i5⟩ := blk_six HD.out
  have y2 := HD.out.frozen 2
  go_upto_region 36 with (fail)
  clear y2
  obtain ⟨w6, hw6⟩ : ∃ W0, W0 = w5.setCell ⟨w.heap.size, 2, none⟩ (.slice none 0 0) := ⟨_, rfl⟩
  have HSw6 : Hid (Only (· = w.heap.size) w5 w6) := Lib.hid (by rw [hw6]; exact (Only.refl (· = w.heap.size) w5).setCell (p := ⟨w.heap.size, 2, none⟩) rfl _)
  replace HD : Hid (Blk w6 w.heap.size 34 [.int .i64 L, .slice A bn c, .slice none 0 0, .int .i64 o2, .int .i64 f2, .bool false]) := Lib.hid (by rw [hw6]; exact HD.out.set_ 2 (.slice none 0 0))
  replace HR := Lib.hid (HR.out.only HSw6.out (fun e => HQN.out.2 e))
  replace HX := Lib.hid (HX.out.trans (HSw6.out.mono fun k hk => Nat.le_of_eq (hk : k = w.heap.size).symm))
  rw [← hw6]
  clear hw6 i0 i1 i2 i3 i4 i5
  obtain ⟨i0, i1, i2, i3, i4, i5⟩ := blk_six HD.out
  obtain ⟨r0, r1, r2, r3, r4, r5⟩ := blk_six HR.out
  have fr0 := HR.out.frozen 0
  have fr1 := HR.out.frozen 1
  have fr2 := HR.out.frozen 2
  have fr3 := HR.out.frozen 3
  have fr4 := HR.out.frozen 4
  have fr5 := HR.out.frozen 5
  go_wp2
  have hk := kd_set (a' := .int .i64 L) (b' := .slice A bn c) (c' := .slice none 0 0) (d' := .int .i64 o2) (e' := .int .i64 f2) (f' := .bool false) HR.out
  refine bodyPost_ret (results_ctt rfl rfl (load_kd hk.1)) rfl ?_
  refine ⟨A, c, rfl, fun W hW => ?_, HX.out.trans (hk.2.mono fun k hk' => by have h := HQN.out; have h2 : k = q4 := hk'; omega)⟩
  have hz := HZ.out
  have hlt := HLT.out
  have hq := HQN.out.1
  have s5 := HSw5.out.size
  have s6 := HSw6.out.size
  have s7 := hk.2.size
  have f1 : ∀ k, k = w.heap.size → (k < w3.heap.size ∨ w4.heap.size ≤ k) := fun k h => by omega
  have f2 : ∀ k, k = q4 → (k < w3.heap.size ∨ w4.heap.size ≤ k) := fun k h => by omega
  have hx := ((HSw5.out.mono f1).trans (HSw6.out.mono f1)).trans (hk.2.mono f2)
  refine src_on HSI.out (hx.trans (hW.mono fun k h => ?_)) (fun ad hA hn0 hF => ?_)
  · rcases h with h | h
    · have h2 := H0.out k h
      exact .inl (by omega)
    · exact .inr (by omega)
  · obtain ⟨g, hg, hge⟩ := HG.out hn0
    subst hg
    cases hA
    have h4 := src_lt HSI.out hn0
    have h5 : g < w3.heap.size ∨ w4.heap.size ≤ g := hF
    omega
end Go.Proofs.YtbpldkhgiddmlaaGreatDoor

/-
  The document's Do, where it grows.
-/
set_option linter.unusedVariables false
namespace Go.Proofs.YtbpldkhgiddmlaaGreatDoor
open Go.RowKit

set_option maxRecDepth 100000 in
set_option maxHeartbeats 12800000 in
theorem kDo_full (w : World) (L : Int) (BA : Option Addr) (bn bc : Nat) (RA : Option Addr) (rn rc : Nat) (ops fu : Int) (a : Int) (h0 : L < a) : Calls Tryz.prog 11 #[.agg #[.int .i64 L, .slice BA bn bc, .slice RA rn rc, .int .i64 ops, .int .i64 fu, .bool false], .agg #[.int .i64 0, .int .i64 a, .int .i64 0, .slice none 0 0, .slice none 0 0]] w (Told w (.tuple #[.agg #[.int .i64 L, .slice BA bn bc, .slice RA rn rc, .int .i64 ops, .int .i64 fu, .bool false], .slice none 0 0, .int .i64 12])) := by
  obtain ⟨w1, hw1⟩ : ∃ W0, W0 = ((w.alloc (.cells #[.int .i64 L, .slice BA bn bc, .slice RA rn rc, .int .i64 ops, .int .i64 fu, .bool false] 34)).alloc (.cells #[.int .i64 0, .int .i64 a, .int .i64 0, .slice none 0 0, .slice none 0 0] 44)).alloc (.cells #[.int .i64 0, .slice none 0 0, .slice none 0 0, .int .i64 0, .int .i64 0, .bool false] 34) := ⟨_, rfl⟩
  have HX : Hid (Only (w.heap.size ≤ ·) w w1) := Lib.hid (by rw [hw1]; exact (((Only.refl _ w).alloc (fun _ h => h) _).alloc (fun _ h => h) _).alloc (fun _ h => h) _)
  have HD : Hid (Blk w1 w.heap.size 34 [.int .i64 L, .slice BA bn bc, .slice RA rn rc, .int .i64 ops, .int .i64 fu, .bool false]) := Lib.hid (by rw [hw1]; exact ((Blk.new w 34 [.int .i64 L, .slice BA bn bc, .slice RA rn rc, .int .i64 ops, .int .i64 fu, .bool false]).alloc _).alloc _)
  have HQ3 : Hid (Blk w1 (w.heap.size + 1) 44 [.int .i64 0, .int .i64 a, .int .i64 0, .slice none 0 0, .slice none 0 0]) := Lib.hid (by
    have h := (Blk.new (w.alloc (.cells #[.int .i64 L, .slice BA bn bc, .slice RA rn rc, .int .i64 ops, .int .i64 fu, .bool false] 34)) 44 [.int .i64 0, .int .i64 a, .int .i64 0, .slice none 0 0, .slice none 0 0]).alloc (.cells #[.int .i64 0, .slice none 0 0, .slice none 0 0, .int .i64 0, .int .i64 0, .bool false] 34)
    rw [← hw1] at h
    simpa using h)
  have HR : Hid (Blk w1 (w.heap.size + 1 + 1) 34 [.int .i64 0, .slice none 0 0, .slice none 0 0, .int .i64 0, .int .i64 0, .bool false]) := Lib.hid (by
    have h := Blk.new ((w.alloc (.cells #[.int .i64 L, .slice BA bn bc, .slice RA rn rc, .int .i64 ops, .int .i64 fu, .bool false] 34)).alloc (.cells #[.int .i64 0, .int .i64 a, .int .i64 0, .slice none 0 0, .slice none 0 0] 44)) 34 [.int .i64 0, .slice none 0 0, .slice none 0 0, .int .i64 0, .int .i64 0, .bool false]
    rw [← hw1] at h
    simpa using h)
  have HE1 := Lib.hid hw1
  clear hw1
  go_enter Tryz.func11, Tryz.ntmps11
  go_upto_region 1 with (fail)
  rw [← HE1.out]
  clear HE1
  generalize hq4 : w.heap.size + 1 + 1 = q4 at HR ⊢
  generalize hq3 : w.heap.size + 1 = q3 at HQ3 hq4 ⊢
  have HQN : Hid (w.heap.size ≤ q4 ∧ ¬ q4 = w.heap.size) := Lib.hid (by omega)
  clear hq3 hq4
  obtain ⟨i0, i1, i2, i3, i4, i5⟩ := blk_six HD.out
  obtain ⟨j0, j1, j2, j3, j4⟩ := blk_five HQ3.out
  obtain ⟨r0, r1, r2, r3, r4, r5⟩ := blk_six HR.out
  have fr0 := HR.out.frozen 0
  have fr1 := HR.out.frozen 1
  have fr2 := HR.out.frozen 2
  have fr3 := HR.out.frozen 3
  have fr4 := HR.out.frozen 4
  have fr5 := HR.out.frozen 5
  go_wp2
  have hk := kd_set (a' := .int .i64 L) (b' := .slice BA bn bc) (c' := .slice RA rn rc) (d' := .int .i64 ops) (e' := .int .i64 fu) (f' := .bool false) HR.out
  refine bodyPost_ret (results_ctt rfl rfl (load_kd hk.1)) rfl ?_
  exact ⟨rfl, HX.out.trans (hk.2.mono fun k hk' => by have h := HQN.out; have h2 : k = q4 := hk'; omega)⟩
set_option maxRecDepth 100000 in
set_option maxHeartbeats 12800000 in
theorem kDo_grow (D : Nat → Prop) (w : World) (L : Int) (BA : Option Addr) (bn bc : Nat) (RA : Option Addr) (rn rc : Nat) (ops fu : Int) (hD : ∀ k, D k → k < w.heap.size) (a : Nat) (ha : (a : Int) ≤ L) (hL : a ≤ 65536) (B : Bytes) (hs : Stab D w (fun W => Src W (.slice BA bn bc) B)) (hn : B.length = bn) (hb : bn ≤ 4194304) (m : Nat) (hm : m = a * 64 - bn) : Calls Tryz.prog 11 #[.agg #[.int .i64 L, .slice BA bn bc, .slice RA rn rc, .int .i64 ops, .int .i64 fu, .bool false], .agg #[.int .i64 0, .int .i64 (a : Nat), .int .i64 0, .slice none 0 0, .slice none 0 0]] w (fun e w' => ∃ R z t, e = .returned (.tuple #[.agg #[.int .i64 L, .slice R z t, .slice RA rn rc, .int .i64 ops, .int .i64 fu, .bool false], .slice none 0 0, .int .i64 0]) ∧ z = bn + m ∧ Stab D w' (fun W => Src W (.slice R z t) (B ++ List.replicate m 0)) ∧ Only (w.heap.size ≤ ·) w w') := by
  obtain ⟨w1, hw1⟩ : ∃ W0, W0 = ((w.alloc (.cells #[.int .i64 L, .slice BA bn bc, .slice RA rn rc, .int .i64 ops, .int .i64 fu, .bool false] 34)).alloc (.cells #[.int .i64 0, .int .i64 (a : Nat), .int .i64 0, .slice none 0 0, .slice none 0 0] 44)).alloc (.cells #[.int .i64 0, .slice none 0 0, .slice none 0 0, .int .i64 0, .int .i64 0, .bool false] 34) := ⟨_, rfl⟩
  have HX : Hid (Only (w.heap.size ≤ ·) w w1) := Lib.hid (by rw [hw1]; exact (((Only.refl _ w).alloc (fun _ h => h) _).alloc (fun _ h => h) _).alloc (fun _ h => h) _)
  have HD : Hid (Blk w1 w.heap.size 34 [.int .i64 L, .slice BA bn bc, .slice RA rn rc, .int .i64 ops, .int .i64 fu, .bool false]) := Lib.hid (by rw [hw1]; exact ((Blk.new w 34 [.int .i64 L, .slice BA bn bc, .slice RA rn rc, .int .i64 ops, .int .i64 fu, .bool false]).alloc _).alloc _)
  have HQ3 : Hid (Blk w1 (w.heap.size + 1) 44 [.int .i64 0, .int .i64 (a : Nat), .int .i64 0, .slice none 0 0, .slice none 0 0]) := Lib.hid (by
    have h := (Blk.new (w.alloc (.cells #[.int .i64 L, .slice BA bn bc, .slice RA rn rc, .int .i64 ops, .int .i64 fu, .bool false] 34)) 44 [.int .i64 0, .int .i64 (a : Nat), .int .i64 0, .slice none 0 0, .slice none 0 0]).alloc (.cells #[.int .i64 0, .slice none 0 0, .slice none 0 0, .int .i64 0, .int .i64 0, .bool false] 34)
    rw [← hw1] at h
    simpa using h)
  have HR : Hid (Blk w1 (w.heap.size + 1 + 1) 34 [.int .i64 0, .slice none 0 0, .slice none 0 0, .int .i64 0, .int .i64 0, .bool false]) := Lib.hid (by
    have h := Blk.new ((w.alloc (.cells #[.int .i64 L, .slice BA bn bc, .slice RA rn rc, .int .i64 ops, .int .i64 fu, .bool false] 34)).alloc (.cells #[.int .i64 0, .int .i64 (a : Nat), .int .i64 0, .slice none 0 0, .slice none 0 0] 44)) 34 [.int .i64 0, .slice none 0 0, .slice none 0 0, .int .i64 0, .int .i64 0, .bool false]
    rw [← hw1] at h
    simpa using h)
  have HE1 := Lib.hid hw1
  have HS := Lib.hid hs
  have HNE := Lib.hid hn
  have H0 := Lib.hid hD
  have HZ := Lib.hid HX.out.size
  obtain ⟨q, hq⟩ : ∃ q, q = 64 * a := ⟨_, rfl⟩
  have b1 : wrap64 (64 * (a : Int)) = (q : Int) := by rw [IntWalk.wrap64_in _ (by omega)]; omega
  have HM : Hid (m = q - bn ∧ bn + m ≤ 10000000) := Lib.hid ⟨by omega, by omega⟩
  have c1 : ¬ L < (a : Int) := by omega
  clear hw1 hs hn hD ha hL hb hq hm
  go_enter Tryz.func11, Tryz.ntmps11
  go_upto_region 1 with (fail)
  rw [← HE1.out]
  clear HE1
  generalize hq4 : w.heap.size + 1 + 1 = q4 at HR ⊢
  generalize hq3 : w.heap.size + 1 = q3 at HQ3 hq4 ⊢
  have HQN : Hid (w.heap.size ≤ q4 ∧ ¬ q4 = w.heap.size) := Lib.hid (by omega)
  clear hq3 hq4
  obtain ⟨i0, i1, i2, i3, i4, i5⟩ := blk_six HD.out
  obtain ⟨j0, j1, j2, j3, j4⟩ := blk_five HQ3.out
  have HXA : Hid (Only (w1.heap.size ≤ ·) w1 (w1.alloc (.cells #[] 5))) := Lib.hid ((Only.refl _ w1).alloc (fun _ h => h) _)
  have HIA := Lib.hid (HD.out.only HXA.out (Nat.not_le.2 HD.out.lt))
  have x1 := HIA.out.cell 1
  go_wp2_with (at_builtin; refine app8 rfl (.tmp 76) (.tmp 78) rfl w1.heap.size 0 bn _ _ [] B rfl rfl (own8_none w1) rfl HNE.out (HS.out _ ((on_new HX.out HXA.out).mono fun _ h => .inr h)) (by have h := HM.out; omega) (by simp) ?_; intro A3 c3 w3 hr ho; rw [List.nil_append] at hr; (simp only [Nat.zero_add] at hr ⊢); have HR3 := Lib.hid hr; have HX3 : Hid (Only (w1.heap.size ≤ ·) w1 w3) := Lib.hid (HXA.out.trans ho); clear hr ho i0 i1 i2 i3 i4 i5 j0 j1 j2 j3 j4 x1)
  go_loopg [8] m (fun gk s wr => ∃ (j : Nat) (R : Option Addr) (t z : Nat), gk = m - j ∧ j ≤ m ∧ s = .slice R z t ∧ Hid (z = bn + j) ∧ Hid (wr.ownsRow w1.heap.size 5 1 (.slice R z t) z (cb (B ++ List.replicate j 0))) ∧ Hid (Only (w1.heap.size ≤ ·) w1 wr))
  case atStart => exact ⟨0, A3, c3, bn, rfl, Nat.zero_le _, rfl, Lib.hid rfl, Lib.hid (by rw [List.replicate_zero, List.append_nil]; exact HR3.out), HX3⟩
  case round =>
    obtain ⟨j, R, t, z, rfl, hj, rfl, HZJ, HRO, HO⟩ := hrel
    obtain ⟨j0, j1, j2, j3, j4⟩ := blk_five (HQ3.out.only HO.out (Nat.not_le.2 HQ3.out.lt))
    by_cases hlt : j < m
    · have h1 : (z : Int) < (q : Int) := by have h2 := HZJ.out; have h3 := HM.out; omega
      have HXB : Hid (Only (w1.heap.size ≤ ·) w1 (wr.alloc (.cells #[.int .u8 0] 5))) := Lib.hid (HO.out.alloc (fun _ h => h) _)
      have HZB : Hid (Src (wr.alloc (.cells #[.int .u8 0] 5)) (.slice (some ⟨wr.heap.size, 0, none⟩) 1 1) [0]) := Lib.hid (by
        have hb : Blk (wr.alloc (.cells #[.int .u8 0] 5)) wr.heap.size 5 (cb [0] ++ []) := Blk.new wr 5 [.int .u8 0]
        have h4 := Txt.blk (A := some ⟨wr.heap.size, 0, none⟩) hb 0 1 (by simp) (fun _ => rfl)
        exact ⟨some ⟨wr.heap.size, 0, none⟩, 1, rfl, h4, (fun e => by cases e), Nat.le_refl _, by decide⟩)
      have HXL : Hid ((B ++ List.replicate j 0).length = z) := Lib.hid (by rw [List.length_append, List.length_replicate, HNE.out, HZJ.out])
      have hzl : z + 1 ≤ 100000000 := by have h3 := HZJ.out; have h4 := HM.out; omega
      go_wp2_with (at_builtin; refine app8 rfl (.tmp 86) (.tmp 87) rfl w1.heap.size z 1 _ _ (B ++ List.replicate j 0) [0] rfl HXL.out (World.ownsRow.alloc HRO.out _) rfl rfl HZB.out hzl HXB.out.size ?_; intro A4 c4 w4 hr ho; have HR4 := Lib.hid hr; have HX4 : Hid (Only (w1.heap.size ≤ ·) w1 w4) := Lib.hid (HXB.out.trans ho); clear hr ho)
      go_roundg (m - (j + 1))
      case measure => omega
      case rel => exact ⟨j + 1, A4, c4, z + 1, rfl, by omega, rfl, Lib.hid (by rw [HZJ.out]; omega), Lib.hid (by have h9 := HR4.out; rwa [List.append_assoc, show List.replicate j (0 : UInt8) ++ [0] = List.replicate (j + 1) 0 from (List.replicate_succ' ..).symm] at h9), HX4⟩
    · obtain rfl : j = m := by omega
      have h1 : ¬ (z : Int) < (q : Int) := by have h2 := HZJ.out; have h3 := HM.out; omega
      have HD4 := Lib.hid (HD.out.only HO.out (Nat.not_le.2 HD.out.lt))
      have HR4 := Lib.hid (HR.out.only HO.out (Nat.not_le.2 HR.out.lt))
      obtain ⟨i0, i1, i2, i3, i4, i5⟩ := blk_six HD4.out
      have y1 := HD4.out.frozen 1
      have HS5 : Hid (Only (· = w.heap.size) wr (wr.setCell ⟨w.heap.size, 1, none⟩ (.slice R z t))) := Lib.hid ((Only.refl (· = w.heap.size) wr).setCell (p := ⟨w.heap.size, 1, none⟩) rfl _)
      have HR5 := Lib.hid (HR4.out.only HS5.out (fun e => HQN.out.2 e))
      obtain ⟨r0, r1, r2, r3, r4, r5⟩ := blk_six HR5.out
      have fr0 := HR5.out.frozen 0
      have fr1 := HR5.out.frozen 1
      have fr2 := HR5.out.frozen 2
      have fr3 := HR5.out.frozen 3
      have fr4 := HR5.out.frozen 4
      have fr5 := HR5.out.frozen 5
      have HLT := Lib.hid (And.intro HD.out.lt HR.out.lt)
      go_wp2
      have hk := kd_set (a' := .int .i64 L) (b' := .slice R z t) (c' := .slice RA rn rc) (d' := .int .i64 ops) (e' := .int .i64 fu) (f' := .bool false) HR5.out
      refine bodyPost_ret (results_ctt rfl rfl (load_kd hk.1)) rfl ?_
      have hz := HZ.out
      have hl := HLT.out
      have hq := HQN.out.1
      have hso := HO.out.size
      have hx : Only (w.heap.size ≤ ·) w _ := ((on_new HX.out HO.out).trans (HS5.out.mono fun k h => by have e : k = w.heap.size := h; omega)).trans (hk.2.mono fun k h => by have e : k = q4 := h; omega)
      refine ⟨R, z, t, rfl, HZJ.out, fun W hW => ?_, hx⟩
      have f1 : ∀ k, k = w.heap.size → (k < w1.heap.size ∨ wr.heap.size ≤ k) := fun k h => by omega
      have f2 : ∀ k, k = q4 → (k < w1.heap.size ∨ wr.heap.size ≤ k) := fun k h => by omega
      have s5 := HS5.out.size
      have s6 := hk.2.size
      refine src_on (own8_src HRO.out (by rw [List.length_append, List.length_replicate, HNE.out, HZJ.out])) (((HS5.out.mono f1).trans (hk.2.mono f2)).trans (hW.mono fun k h => ?_)) (fun ad hA hn0 hF => ?_)
      · rcases h with h | h
        · have h2 := H0.out k h
          exact .inl (by omega)
        · exact .inr (by omega)
      · subst hA
        have h3 := World.ownsRow.lt HRO.out ad.block rfl
        have h4 : ad.block < w1.heap.size ∨ wr.heap.size ≤ ad.block := hF
        omega
end Go.Proofs.YtbpldkhgiddmlaaGreatDoor

/-
  The document's disk and ours, op by op.
-/
set_option linter.unusedVariables false
namespace Go.Proofs.YtbpldkhgiddmlaaGreatDoor
open Go.RowKit

/-- What is armed, as the document's disk has it. -/
def kfu (d : Dk.Dsk) : Int := if d.armed = true ∧ d.down = false then (d.left : Int) else -1
theorem op_facts (d : Dk.Dsk) (h : d.down = false) : ((d.op.1.ops : Nat) : Int) = (d.ops : Int) + 1 ∧ kfu d.op.1 = (if 0 ≤ kfu d then kfu d - 1 else kfu d) ∧ d.op.1.down = decide (kfu d = 0) ∧ d.op.2 = (if decide (kfu d = 0) = true then 10 else 0) ∧ d.op.1.limit = d.limit ∧ d.op.1.n = d.n ∧ d.op.1.dur = d.dur ∧ d.op.1.row = d.row := by
  unfold Dk.Dsk.op kfu
  cases ha : d.armed with
  | false => simp [h, ha]
  | true =>
    by_cases hl : 0 < d.left
    · have e : ¬ ((d.left : Int) = 0) := by omega
      have e2 : ¬ (d.left = 0) := by omega
      simp [h, ha, hl, e, e2]
      omega
    · have e : d.left = 0 := by omega
      simp [h, ha, e]
theorem kfu_lim {d : Dk.Dsk} (h : d.WF) : -1 ≤ kfu d ∧ kfu d ≤ 9223372036854775807 := by
  have := h.left
  unfold kfu
  split <;> omega
/-- A value that is the document's disk. -/
def KAt (D : Nat → Prop) (w : World) (v : Value) (d : Dk.Dsk) : Prop := d.WF ∧ ∃ BA bc RA rc, v = .agg #[.int .i64 (d.limit : Nat), .slice BA d.dur.length bc, .slice RA d.row.length rc, .int .i64 (d.ops : Nat), .int .i64 (kfu d), .bool d.down] ∧ Stab D w (fun W => Src W (.slice BA d.dur.length bc) d.dur) ∧ SRw kwE D w (.slice RA d.row.length rc) d.row
theorem KAt.step {D D' : Nat → Prop} {w w' : World} {v : Value} {d : Dk.Dsk} (h : KAt D w v d) (ho : Only (fun k => D k ∨ w.heap.size ≤ k) w w') (hD : ∀ k, D' k → D k ∨ w.heap.size ≤ k) : KAt D' w' v d := by
  obtain ⟨h0, BA, bc, RA, rc, h1, h2, h3⟩ := h
  exact ⟨h0, BA, bc, RA, rc, h1, h2.step ho hD, h3.step ho hD⟩
def GaveK2 (D : Nat → Prop) (w : World) (s : Dk.Dsk × Int) (e : Ending) (w' : World) : Prop := ∃ v, e = .returned (.tuple #[v, .slice none 0 0, .int .i64 s.2]) ∧ KAt D w' v s.1 ∧ Only (w.heap.size ≤ ·) w w'
theorem kgrow_d (D : Nat → Prop) (w : World) (hD : ∀ k, D k → k < w.heap.size) (v : Value) (d : Dk.Dsk) (h : KAt D w v d) (hd : d.down = false) (a : Nat) : Calls Tryz.prog 11 #[v, .agg #[.int .i64 0, .int .i64 (a : Nat), .int .i64 0, .slice none 0 0, .slice none 0 0]] w (GaveK2 D w (d.grow a)) := by
  obtain ⟨hw, BA, bc, RA, rc, rfl, h2, h3⟩ := h
  rw [hd]
  unfold Dk.Dsk.grow
  rw [if_neg (by rw [hd]; decide)]
  by_cases hf : (d.limit : Int) < (a : Int)
  · rw [if_pos hf]
    refine (kDo_full w d.limit BA _ bc RA _ rc d.ops (kfu d) a hf).mono ?_
    rintro e w' ⟨rfl, ho⟩
    exact ⟨_, rfl, ⟨hw, BA, bc, RA, rc, by rw [hd], h2.later ho, h3.later ho⟩, ho⟩
  · rw [if_neg hf]
    have hl := hw.len
    have h5 := hw.nl
    have h6 := hw.lim
    refine (kDo_grow D w d.limit BA _ bc RA _ rc d.ops (kfu d) hD a (by omega) (by omega) d.dur h2 rfl (by omega) ((a - d.n) * 64) (by rw [hl, Nat.sub_mul])).mono ?_
    rintro e w' ⟨R, z, t, rfl, hz, hs, ho⟩
    have e1 : z = (d.dur ++ List.replicate ((a - d.n) * 64) 0).length := by rw [hz, List.length_append, List.length_replicate]
    subst e1
    have hg : Dk.Dsk.WF { d with n := max d.n (a : Int).toNat, dur := d.dur ++ List.replicate (((a : Int).toNat - d.n) * 64) 0 } := ⟨by show max d.n (a : Int).toNat ≤ d.limit; omega, hw.lim, by show (d.dur ++ List.replicate (((a : Int).toNat - d.n) * 64) 0).length = max d.n (a : Int).toNat * 64; rw [List.length_append, List.length_replicate, hl]; omega, fun e he => ⟨by have h9 := (hw.fits e he).1; show e.1 < max d.n (a : Int).toNat; omega, (hw.fits e he).2⟩, hw.left⟩
    refine ⟨_, rfl, ⟨hg, R, t, RA, rc, ?_, hs, h3.later ho⟩, ho⟩
    unfold kfu
    rw [hd]
    rfl
theorem karm_d (D : Nat → Prop) (w : World) (v : Value) (d : Dk.Dsk) (h : KAt D w v d) (hd : d.down = false) (a : Int) (ha : I64v a) : Calls Tryz.prog 11 #[v, .agg #[.int .i64 4, .int .i64 a, .int .i64 0, .slice none 0 0, .slice none 0 0]] w (GaveK2 D w (d.arm a, 0)) := by
  obtain ⟨hw, BA, bc, RA, rc, rfl, h2, h3⟩ := h
  rw [hd]
  have hwa : (d.arm a).WF := ⟨hw.nl, hw.lim, hw.len, hw.fits, by show a.toNat < _; have := ha.2; omega⟩
  by_cases hf : a < 0
  · refine (kDo_arm_off w d.limit BA _ bc RA _ rc d.ops (kfu d) a hf).mono ?_
    rintro e w' ⟨rfl, ho⟩
    refine ⟨_, rfl, ⟨hwa, BA, bc, RA, rc, ?_, h2.later ho, h3.later ho⟩, ho⟩
    have e1 : kfu (d.arm a) = -1 := by unfold kfu Dk.Dsk.arm; rw [decide_eq_false (by omega)]; rfl
    rw [e1]
    show _ = Value.agg #[_, _, _, _, _, .bool d.down]
    rw [hd]
    rfl
  · refine (kDo_arm_on w d.limit BA _ bc RA _ rc d.ops (kfu d) a hf).mono ?_
    rintro e w' ⟨rfl, ho⟩
    refine ⟨_, rfl, ⟨hwa, BA, bc, RA, rc, ?_, h2.later ho, h3.later ho⟩, ho⟩
    have e1 : kfu (d.arm a) = a := by
      unfold kfu Dk.Dsk.arm
      rw [decide_eq_true (show 0 ≤ a by omega), if_pos ⟨rfl, hd⟩]
      show ((a.toNat : Nat) : Int) = a
      omega
    rw [e1]
    show _ = Value.agg #[_, _, _, _, _, .bool d.down]
    rw [hd]
    rfl
theorem ksync_d (D : Nat → Prop) (w : World) (hD : ∀ k, D k → k < w.heap.size) (v : Value) (d : Dk.Dsk) (h : KAt D w v d) (hd : d.down = false) (ho : d.ops < 4611686018427387904) (hr : d.row.length ≤ 1000000) : Calls Tryz.prog 11 #[v, .agg #[.int .i64 3, .int .i64 0, .int .i64 0, .slice none 0 0, .slice none 0 0]] w (GaveK2 D w d.sync) := by
  obtain ⟨hw, BA, bc, RA, rc, rfl, h2, h3⟩ := h
  obtain ⟨f1, f2, f3, f4, f5, f6, f7, f8⟩ := op_facts d hd
  rw [hd]
  unfold Dk.Dsk.sync
  rw [if_neg (by rw [hd]; decide)]
  cases hk : decide (kfu d = 0) with
  | true =>
    rw [hk] at f3 f4
    rw [if_pos (by rw [f4]; decide)]
    refine (kDo_sync_down w d.limit BA _ bc RA _ rc d.ops (kfu d) (by omega) (kfu_lim hw) _ _ rfl rfl hk).mono ?_
    rintro e w' ⟨rfl, ho⟩
    refine ⟨_, by rw [f4]; rfl, ⟨hw.op, BA, bc, RA, rc, ?_, ?_, ?_⟩, ho⟩
    · rw [f1, f2, f3, f5, f7, f8]
    · rw [f7]; exact h2.later ho
    · rw [f8]; exact h3.later ho
  | false =>
    rw [hk] at f3 f4
    rw [if_neg (by rw [f4]; decide)]
    refine (kDo_sync_ok D w d.limit BA _ bc RA _ rc d.ops (kfu d) hD d.dur d.row d.n h2 rfl hw.len (Nat.le_trans hw.nl hw.lim) h3 hw.fits hr (by omega) (kfu_lim hw) _ _ rfl rfl hk).mono ?_
    rintro e w' ⟨A, c, rfl, hs, ho⟩
    have hsw : Dk.Dsk.WF { d.op.1 with dur := d.see, row := [] } := ⟨hw.op.nl, hw.op.lim, by show d.see.length = d.op.1.n * 64; rw [f6, hw.see], (fun e he => nomatch he), hw.op.left⟩
    have e1 : d.see.length = d.dur.length := by rw [hw.see, hw.len]
    refine ⟨_, rfl, ⟨hsw, A, c, none, 0, ?_, ?_, SRw.nil_ _ _⟩, ho⟩
    · show _ = Value.agg #[.int .i64 ((d.op.1.limit : Nat) : Int), .slice A d.see.length c, .slice none 0 0, .int .i64 ((d.op.1.ops : Nat) : Int), .int .i64 (kfu d.op.1), .bool d.op.1.down]
      rw [f1, f2, f3, f5, e1]
    · show Stab D w' (fun W => Src W (.slice A d.see.length c) d.see)
      rw [e1]
      exact hs
theorem k_src_at {w : World} {A : Option Addr} {n c : Nat} {xs : Bytes} (h : Src w (.slice A n c) xs) (hn : 0 < n) : ∃ bl o, A = some ⟨bl, o, none⟩ := by
  obtain ⟨A', c', e, ht, _⟩ := h
  simp only [Value.slice.injEq] at e
  obtain ⟨rfl, rfl, rfl⟩ := e
  obtain ⟨ad, rfl, hc⟩ := ht.2 hn
  obtain ⟨bl, o, f⟩ := ad
  cases f with
  | none => exact ⟨bl, o, rfl⟩
  | some f =>
    have hl : 0 < (cb xs).length := by rw [cb_length]; exact hn
    have h1 := hc 0 _ (List.getElem?_eq_getElem hl)
    simp [World.cell?, Addr.add] at h1
    split at h1 <;> cases h1
theorem gwr_told {D : Nat → Prop} {w : World} {L : Int} {BA : Option Addr} {bn bc : Nat} {RA : Option Addr} {rn rc : Nat} {ops fu : Int} {row : List Dk.Wr} {y : Int} (hr : SRw kwE D w (.slice RA rn rc) row) {e : Ending} {w' : World} (h : Told w (.tuple #[.agg #[.int .i64 L, .slice BA bn bc, .slice RA rn rc, .int .i64 ops, .int .i64 fu, .bool false], .int .i64 y]) e w') : GaveWr D w L BA bn bc ops fu false row y e w' := by
  obtain ⟨rfl, ho⟩ := h
  exact ⟨RA, rn, rc, rfl, hr.len, hr.later ho, ho⟩
theorem kwrite_d (D : Nat → Prop) (w : World) (hD : ∀ k, D k → k < w.heap.size) (v : Value) (d : Dk.Dsk) (h : KAt D w v d) (hd : d.down = false) (ho : d.ops < 4611686018427387904) (hr : d.row.length ≤ 100000) (a : Int) (ha : I64v a) (P : Option Addr) (pn pc : Nat) (xs : Bytes) (hp : Stab D w (fun W => Src W (.slice P pn pc) xs)) (hpn : pn = xs.length) (hpm : pn ≤ maxLen) : Calls Tryz.prog 11 #[v, .agg #[.int .i64 2, .int .i64 a, .int .i64 0, .slice P pn pc, .slice none 0 0]] w (GaveK2 D w (d.write a xs)) := by
  obtain ⟨hw, BA, bc, RA, rc, rfl, h2, h3⟩ := h
  obtain ⟨f1, f2, f3, f4, f5, f6, f7, f8⟩ := op_facts d hd
  have hN : d.dur.length = d.n * 64 := hw.len
  have hN2 : d.n ≤ 65536 := Nat.le_trans hw.nl hw.lim
  have hS : ∀ W, Only (w.heap.size ≤ ·) w W → SRw kwE (fun k => D k ∨ (w.heap.size ≤ k ∧ k < W.heap.size)) W (.slice RA d.row.length rc) d.row := fun W hW => h3.step (hW.mono fun _ h => .inr h) fun k hk => hk.imp id fun h => h.1
  have hSame : ∀ (y : Int), (∀ W, Only (w.heap.size ≤ ·) w W → Calls Tryz.prog 41 #[.agg #[.int .i64 (d.limit : Nat), .slice BA d.dur.length bc, .slice RA d.row.length rc, .int .i64 (d.ops : Nat), .int .i64 (kfu d), .bool false], .agg #[.int .i64 2, .int .i64 a, .int .i64 0, .slice P pn pc, .slice none 0 0]] W (Told W (.tuple #[.agg #[.int .i64 (d.limit : Nat), .slice BA d.dur.length bc, .slice RA d.row.length rc, .int .i64 (d.ops : Nat), .int .i64 (kfu d), .bool false], .int .i64 y]))) → Calls Tryz.prog 11 #[.agg #[.int .i64 (d.limit : Nat), .slice BA d.dur.length bc, .slice RA d.row.length rc, .int .i64 (d.ops : Nat), .int .i64 (kfu d), .bool false], .agg #[.int .i64 2, .int .i64 a, .int .i64 0, .slice P pn pc, .slice none 0 0]] w (GaveK2 D w (d, y)) := fun y hy => by
    refine (kDo_write D w d.limit BA _ bc RA _ rc d.ops (kfu d) a P pn pc _ _ false d.row y fun W hW => (hy W hW).mono fun e w' h => gwr_told (hS W hW) h).mono ?_
    rintro e w' ⟨R, z, t, rfl, rfl, hs, ho⟩
    exact ⟨_, rfl, ⟨hw, BA, bc, R, t, by rw [hd], h2.later ho, hs⟩, ho⟩
  rw [hd]
  unfold Dk.Dsk.write
  rw [if_neg (by rw [hd]; decide)]
  by_cases h0 : xs.length = 0
  · rw [if_pos (.inl h0)]
    exact hSame 1 fun W _ => kwrite_none W d.limit BA _ bc RA _ rc d.ops (kfu d) 2 a 0 P pn pc (hpn.trans h0)
  by_cases h1 : xs.length % 64 = 0
  · rw [if_neg (by omega)]
    by_cases hh : d.has a (xs.length / 64 : Nat) = false
    · rw [if_pos hh]
      exact hSame 11 fun W _ => kwrite_far W d.limit BA _ bc RA _ rc d.ops (kfu d) 2 a 0 P pn pc d.n (xs.length / 64) hN hN2 ha (by omega) (by omega) hpm hh
    · rw [if_neg hh]
      have hh2 : d.has a (xs.length / 64 : Nat) = true := by cases hq : d.has a (xs.length / 64 : Nat) with | true => rfl | false => exact absurd hq hh
      unfold Dk.Dsk.has at hh2
      simp only [Bool.and_eq_true, decide_eq_true_eq] at hh2
      obtain ⟨an, rfl⟩ : ∃ an : Nat, a = (an : Int) := ⟨a.toNat, by omega⟩
      obtain ⟨pb, po, rfl⟩ : ∃ pb po, P = some ⟨pb, po, none⟩ := k_src_at hp.now (by omega)
      obtain ⟨g1, g2, g3, g4, g5, g6, g7, g8⟩ := op_facts { d with row := d.row ++ Dk.chunks an xs (xs.length / 64) } hd
      have hS2 : ∀ W, Only (w.heap.size ≤ ·) w W → Stab (fun k => D k ∨ (w.heap.size ≤ k ∧ k < W.heap.size)) W (fun W => Src W (.slice (some ⟨pb, po, none⟩) pn pc) xs) := fun W hW => hp.step (hW.mono fun _ h => .inr h) fun k hk => hk.imp id fun h => h.1
      have ek : kfu { d with row := d.row ++ Dk.chunks an xs (xs.length / 64) } = kfu d := rfl
      rw [ek] at g2 g3 g4
      refine (kDo_write D w d.limit BA _ bc RA _ rc d.ops (kfu d) (an : Int) (some ⟨pb, po, none⟩) pn pc _ _ _ _ _ fun W hW => kwrite_ok (fun k => D k ∨ (w.heap.size ≤ k ∧ k < W.heap.size)) W (fun k hk => hk.elim (fun h => Nat.lt_of_lt_of_le (hD k h) hW.size) fun h => h.2) d.limit BA _ bc RA _ rc d.ops (kfu d) d.row d.n hN hN2 (hS W hW) hr (by omega) (kfu_lim hw) 2 0 an (xs.length / 64) pb po pn pc xs (hS2 W hW) hpn.symm (by omega) (by omega) (by omega) _ _ _ rfl rfl rfl _ rfl).mono ?_
      rintro e w' ⟨R, z, t, rfl, rfl, hs, ho⟩
      have hwf : Dk.Dsk.WF { d with row := d.row ++ Dk.chunks an xs (xs.length / 64) } := ⟨hw.nl, hw.lim, hw.len, hw.fits.append (Dk.chunks_fits (by omega) (by omega)), hw.left⟩
      refine ⟨_, by rw [show (an : Int).toNat = an from rfl, g4], ⟨hwf.op, BA, bc, R, t, ?_, ?_, ?_⟩, ho⟩
      · rw [show (an : Int).toNat = an from rfl, g1, g2, g3, g5, g7, g8]
      · rw [show (an : Int).toNat = an from rfl, g7]; exact h2.later ho
      · rw [show (an : Int).toNat = an from rfl, g8]; exact hs
  · rw [if_pos (.inr h1)]
    exact hSame 1 fun W _ => kwrite_odd W d.limit BA _ bc RA _ rc d.ops (kfu d) 2 a 0 P pn pc (by omega) (by omega)
end Go.Proofs.YtbpldkhgiddmlaaGreatDoor

/-
  Rows of the document's ops, and what they make of a disk.
-/
set_option linter.unusedVariables false
namespace Go.Proofs.YtbpldkhgiddmlaaGreatDoor
open Go.RowKit

/-- An op: its kind, its number, its bytes. -/
abbrev Kop := Int × Int × Bytes
def koE : El Kop where
  z := 5
  At w x cs := ∃ A c, cs = [.int .i64 x.1, .int .i64 x.2.1, .int .i64 0, .slice A x.2.2.length c, .slice none 0 0] ∧ Src w (.slice A x.2.2.length c) x.2.2 ∧ (x.1 = 2 ∨ (A = none ∧ c = 0))
  len := fun ⟨A, c, e, _⟩ => by rw [e]; rfl
  one := fun ⟨A, c, e, _⟩ u hu => by
    rw [e] at hu
    simp at hu
    rcases hu with rfl | rfl | rfl | rfl | rfl <;> rfl
  later := fun ⟨A, c, e, h1, h2⟩ ho => ⟨A, c, e, h1.later ho, h2⟩
def doK (d : Dk.Dsk) (o : Kop) : Dk.Dsk × Int := if o.1 = 0 then d.grow o.2.1 else if o.1 = 2 then d.write o.2.1 o.2.2 else d.sync
def runK : Dk.Dsk → List Kop → Dk.Dsk × Int
  | d, [] => (d, 0)
  | d, o :: l => if (doK d o).2 = 0 then runK (doK d o).1 l else doK d o
/-- An op as the document's Ops makes them. -/
def OkO (o : Kop) : Prop := (o.1 = 0 ∧ 0 ≤ o.2.1 ∧ o.2.2 = []) ∨ (o.1 = 2 ∧ I64v o.2.1 ∧ o.2.2.length ≤ maxLen) ∨ (o.1 = 3 ∧ o.2.1 = 0 ∧ o.2.2 = [])
theorem down_op (d : Dk.Dsk) (hd : d.down = false) (h : d.op.2 = 0) : d.op.1.down = false := by
  unfold Dk.Dsk.op at h ⊢
  split
  · exact hd
  · rename_i h1
    rw [if_neg h1] at h
    split
    · exact hd
    · rename_i h2
      rw [if_neg h2] at h
      cases h
theorem doK_up (d : Dk.Dsk) (o : Kop) (hd : d.down = false) (h : (doK d o).2 = 0) : (doK d o).1.down = false := by
  unfold doK at h ⊢
  split
  · rename_i h1
    rw [if_pos h1] at h
    unfold Dk.Dsk.grow at h ⊢
    rw [if_neg (by rw [hd]; decide)] at h ⊢
    split
    · exact hd
    · exact hd
  · rename_i h1
    rw [if_neg h1] at h
    split
    · rename_i h2
      rw [if_pos h2] at h
      unfold Dk.Dsk.write at h ⊢
      rw [if_neg (by rw [hd]; decide)] at h ⊢
      split
      · exact hd
      · rename_i h3
        rw [if_neg h3] at h
        split
        · exact hd
        · rename_i h4
          rw [if_neg h4] at h
          exact down_op _ hd h
    · rename_i h2
      rw [if_neg h2] at h
      unfold Dk.Dsk.sync at h ⊢
      rw [if_neg (by rw [hd]; decide)] at h ⊢
      split
      · rename_i h3
        rw [if_pos h3] at h
        exact absurd h h3
      · rename_i h3
        exact down_op d hd (by omega)
theorem kdo_any (D : Nat → Prop) (w : World) (hD : ∀ k, D k → k < w.heap.size) (v : Value) (d : Dk.Dsk) (h : KAt D w v d) (hd : d.down = false) (ho : d.ops < 4611686018427387904) (hr : d.row.length ≤ 100000) (o : Kop) (hok : OkO o) (P : Option Addr) (pn pc : Nat) (hp : Stab D w (fun W => Src W (.slice P pn pc) o.2.2)) (hnil : o.1 = 2 ∨ (P = none ∧ pn = 0 ∧ pc = 0)) : Calls Tryz.prog 11 #[v, .agg #[.int .i64 o.1, .int .i64 o.2.1, .int .i64 0, .slice P pn pc, .slice none 0 0]] w (GaveK2 D w (doK d o)) := by
  obtain ⟨k, a, xs⟩ := o
  have hl : pn = xs.length := by
    obtain ⟨A', c', e, _⟩ := hp.now
    injection e
  rcases hok with ⟨h1, h2, h3⟩ | ⟨h1, h2, h3⟩ | ⟨h1, h2, h3⟩
  · obtain rfl : k = 0 := h1
    obtain ⟨rfl, rfl, rfl⟩ : P = none ∧ pn = 0 ∧ pc = 0 := hnil.resolve_left (fun e => by cases e)
    obtain ⟨an, rfl⟩ : ∃ an : Nat, a = (an : Int) := ⟨a.toNat, by have h4 : 0 ≤ a := h2; omega⟩
    exact kgrow_d D w hD v d h hd an
  · obtain rfl : k = 2 := h1
    exact kwrite_d D w hD v d h hd ho hr a h2 P pn pc xs hp hl (by rw [hl]; exact h3)
  · obtain rfl : k = 3 := h1
    obtain ⟨rfl, rfl, rfl⟩ : P = none ∧ pn = 0 ∧ pc = 0 := hnil.resolve_left (fun e => by cases e)
    obtain rfl : a = 0 := h2
    exact ksync_d D w hD v d h hd ho (by omega)
end Go.Proofs.YtbpldkhgiddmlaaGreatDoor
