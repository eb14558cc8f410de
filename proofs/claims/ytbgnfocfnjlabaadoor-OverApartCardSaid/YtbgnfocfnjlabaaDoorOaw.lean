/-
  OverApart: the walk.
-/
import Derived.Test.YtbgnfocfnjlabaaDoorObk
import Derived.Test.YtbgnfocfnjlabaaDoorOal
import Derived.Test.YtbgnfocfnjlabaaDoorGb
set_option linter.unusedVariables false
namespace Go.Proofs.YtbgnfocfnjlabaaDoor
open Go.RowKit

set_option maxRecDepth 100000 in
set_option maxHeartbeats 6400000 in
theorem apart_early (w : World) (hG : Gens w) (g h : Int) (A0 A1 : Option Addr) (n0 c0 n1 c1 : Nat) (q0 q1 : Int) (hq0 : manyP g n0 = q0) (hq1 : manyP h n1 = q1) (hx : q0 < 1 ∨ q1 < 1) : Calls Tryd.prog 6 #[.int .i64 g, .int .i64 h, .agg #[.slice A0 n0 c0, .slice A1 n1 c1]] w (Told w (.bool true)) := by
  obtain ⟨W0, hW0⟩ : ∃ W, W = w.alloc (.cells #[.slice A0 n0 c0, .slice A1 n1 c1] 48) := ⟨_, rfl⟩
  have HO0 : Hid (Only (w.heap.size ≤ ·) w W0.drew) := Lib.hid (by rw [hW0]; exact ((Only.refl _ w).alloc (fun _ h => h) _).drew)
  have HB0 : Hid (Blk W0.drew w.heap.size 48 [.slice A0 n0 c0, .slice A1 n1 c1]) := Lib.hid (by rw [hW0]; exact Blk.new w 48 _)
  have HAL : Hid (∀ W, Only (w.heap.size ≤ ·) w W → Calls Tryd.prog 8 #[] W (Told W (.bool true))) := Lib.hid fun W hW => oalive_c W (hG.later hW)
  have HMY0 : Hid (∀ W, Only (w.heap.size ≤ ·) w W → Calls Tryd.prog 7 #[.int .i64 g, .int .i64 (n0 : Nat)] W (Told W (.int .i64 q0))) := Lib.hid fun W hW => by rw [← hq0]; exact OMany_c W g n0 (hG.later hW)
  have HMY1 : Hid (∀ W, Only (w.heap.size ≤ ·) w W → Calls Tryd.prog 7 #[.int .i64 h, .int .i64 (n1 : Nat)] W (Told W (.int .i64 q1))) := Lib.hid fun W hW => by rw [← hq1]; exact OMany_c W h n1 (hG.later hW)
  clear hq0 hq1 hG
  go_enter Tryd.func6, Tryd.ntmps6
  go_upto_region 1 with (fail)
  rw [← hW0]
  clear hW0
  go_cut [7, 8] from 24 to 33 (fun y z wz => y = .int .i64 q0 ∧ z = .int .i64 q1 ∧ Hid (Only (w.heap.size ≤ ·) w wz) ∧ Hid (Blk wz w.heap.size 48 [.slice A0 n0 c0, .slice A1 n1 c1]))
  case first =>
    refine wp_region_list (B := [false, false, false, false, false, false, false, false, false, false, false, false]) (S := (fun W => W.cell? ⟨w.heap.size, 0, none⟩ = some (.slice A0 n0 c0) ∧ W.cell? ⟨w.heap.size, 1, none⟩ = some (.slice A1 n1 c1))) (by kernel_rfl) (by kernel_rfl) (by kernel_rfl) ⟨HB0.out.cell 0, HB0.out.cell 1⟩ (fun hsel hHeld => ?_)
    refine oneA 0 24 hsel (h := ?_)
    simp only [Act.put, List.setIfInBounds_toArray, List.set_cons_zero, List.set_cons_succ]
    refine oneA 1 25 hsel (h := ?_)
    simp only [Act.put, List.setIfInBounds_toArray, List.set_cons_zero, List.set_cons_succ]
    refine oneA 2 26 hsel (h := ?_)
    simp only [Act.put, List.setIfInBounds_toArray, List.set_cons_zero, List.set_cons_succ]
    refine oneA 3 27 hsel (h := ?_)
    simp only [Act.put, List.setIfInBounds_toArray, List.set_cons_zero, List.set_cons_succ]
    refine oneA 5 29 hsel (h := ?_)
    simp only [Act.put, List.setIfInBounds_toArray, List.set_cons_zero, List.set_cons_succ]
    refine oneA 6 30 hsel (h := ?_)
    simp only [Act.put, List.setIfInBounds_toArray, List.set_cons_zero, List.set_cons_succ]
    refine oneA 7 31 hsel (h := ?_)
    simp only [Act.put, List.setIfInBounds_toArray, List.set_cons_zero, List.set_cons_succ]
    refine oneA 8 32 hsel (h := ?_)
    simp only [Act.put, List.setIfInBounds_toArray, List.set_cons_zero, List.set_cons_succ]
    refine wpAnyL_ready (rs := [4]) (by kernel_rfl) (by kernel_rfl) (by simp) ?_
    refine AllReadyL.cons (o := ?_) ?_ (fun K hK => ?_) AllReadyL.nil
    case refine_2 => (simp only [List.getElem?_cons_succ, List.getElem?_cons_zero]; rfl)
    go_simp
    (go_at_call 7; (with_reducible refine (HMY0.out _ HO0.out).mono ?_); rintro ee wa ⟨rfl, ho⟩; have HOa := Lib.hid (on_new HO0.out ho); have HBa := Lib.hid (HB0.out.later ho); clear ho)
    go_wp2_with (fail)
    clear hHeld
    refine hK.out _ _ ⟨HBa.out.cell 0, HBa.out.cell 1⟩ (fun hHeld => ?_)
    clear hK K
    try simp only [List.set_cons_zero, List.set_cons_succ]
    refine wpAnyL_ready (rs := [9]) (by kernel_rfl) (by kernel_rfl) (by simp) ?_
    refine AllReadyL.cons (o := ?_) ?_ (fun K hK => ?_) AllReadyL.nil
    case refine_2 => (simp only [List.getElem?_cons_succ, List.getElem?_cons_zero]; rfl)
    go_simp
    (go_at_call 7; (with_reducible refine (HMY1.out _ HOa.out).mono ?_); rintro ee wb ⟨rfl, ho⟩; have HOb := Lib.hid (on_new HOa.out ho); have HBb := Lib.hid (HBa.out.later ho); clear ho)
    go_wp2_with (fail)
    clear hHeld
    refine hK.out _ _ ⟨HBb.out.cell 0, HBb.out.cell 1⟩ (fun hHeld => ?_)
    clear hK K
    try simp only [List.set_cons_zero, List.set_cons_succ]
    refine oneA 10 7 hsel (h := ?_)
    simp only [Act.put, List.setIfInBounds_toArray, List.set_cons_zero, List.set_cons_succ]
    refine oneA 11 8 hsel (h := ?_)
    simp only [Act.put, List.setIfInBounds_toArray, List.set_cons_zero, List.set_cons_succ]
    refine wpAnyL_done (by kernel_rfl) (by kernel_rfl) ?_ _
    clear hsel hHeld
    go_wp2_with (fail)
    go_meet
    exact ⟨rfl, rfl, HOb, HBb⟩
  case rest =>
    obtain ⟨rfl, rfl, HO1, HB1⟩ := hcut
    clear HMY0 HMY1 HO0 HB0
    by_cases a1 : q0 < 1
    · clear hx
      go_wp2_with (go_at_call 8; (with_reducible refine (HAL.out _ HO1.out).mono ?_); rintro ee w9 ⟨rfl, ho⟩; (replace HO1 := Lib.hid (on_new HO1.out ho)); clear ho)
      go_ret
      exact ⟨rfl, HO1.out⟩
    have a2 : q1 < 1 := by omega
    clear hx
    go_wp2_with (go_at_call 8; (with_reducible refine (HAL.out _ HO1.out).mono ?_); rintro ee w9 ⟨rfl, ho⟩; (replace HO1 := Lib.hid (on_new HO1.out ho)); clear ho)
    go_ret
    exact ⟨rfl, HO1.out⟩
set_option maxRecDepth 100000 in
set_option maxHeartbeats 6400000 in
theorem apart_main (w : World) (hG : Gens w) (g h : Int) (A0 A1 : Option Addr) (n0 c0 n1 c1 : Nat) (v0 v1 : Bytes) (M0 M1 : Nat) (hq0 : manyP g n0 = (M0 : Int)) (hq1 : manyP h n1 = (M1 : Int)) (hm0 : 1 ≤ M0) (hm1 : 1 ≤ M1) (hv0 : Src w (.slice A0 n0 c0) v0) (hv1 : Src w (.slice A1 n1 c1) v1) : Calls Tryd.prog 6 #[.int .i64 g, .int .i64 h, .agg #[.slice A0 n0 c0, .slice A1 n1 c1]] w (Told w (.bool true)) := by
  obtain ⟨W0, hW0⟩ : ∃ W, W = w.alloc (.cells #[.slice A0 n0 c0, .slice A1 n1 c1] 48) := ⟨_, rfl⟩
  have HO0 : Hid (Only (w.heap.size ≤ ·) w W0.drew) := Lib.hid (by rw [hW0]; exact ((Only.refl _ w).alloc (fun _ h => h) _).drew)
  have HB0 : Hid (Blk W0.drew w.heap.size 48 [.slice A0 n0 c0, .slice A1 n1 c1]) := Lib.hid (by rw [hW0]; exact Blk.new w 48 _)
  have HAL : Hid (∀ W, Only (w.heap.size ≤ ·) w W → Calls Tryd.prog 8 #[] W (Told W (.bool true))) := Lib.hid fun W hW => oalive_c W (hG.later hW)
  have HMY0 : Hid (∀ W, Only (w.heap.size ≤ ·) w W → Calls Tryd.prog 7 #[.int .i64 g, .int .i64 (n0 : Nat)] W (Told W (.int .i64 (M0 : Nat)))) := Lib.hid fun W hW => by rw [← hq0]; exact OMany_c W g n0 (hG.later hW)
  have HMY1 : Hid (∀ W, Only (w.heap.size ≤ ·) w W → Calls Tryd.prog 7 #[.int .i64 h, .int .i64 (n1 : Nat)] W (Told W (.int .i64 (M1 : Nat)))) := Lib.hid fun W hW => by rw [← hq1]; exact OMany_c W h n1 (hG.later hW)
  obtain ⟨ZZ, hZZ⟩ : ∃ ZZ, ZZ = (List.replicate 7680 z8).toArray := ⟨_, rfl⟩
  have hmk : ∀ W : World, (Instr.makeSlice 27 (.int .i64 7680) (.int .i64 7680)).run Tryd.prog W = .ok (.slice (some ⟨W.heap.size, 0, none⟩) 7680 7680) (W.alloc (.cells ZZ 5)) := fun W => by rw [hZZ]; exact run_make8 7680 (by omega) W
  have HZZ := Lib.hid hZZ
  have HG := Lib.hid hG
  have HMM := Lib.hid (And.intro (manyP_7 hq0) (And.intro (manyP_7 hq1) (And.intro hm0 hm1)))
  have HQ := Lib.hid (And.intro hq0 hq1)
  have HV := Lib.hid (And.intro hv0 hv1)
  obtain ⟨iN, hiN, hiN0, hiN1, hiN2⟩ := info_parts info_N
  have HIN := Lib.hid (And.intro hiN (And.intro hiN0 (And.intro hiN1 hiN2)))
  have a1 : ¬ (M0 : Int) < 1 := by omega
  have a2 : ¬ (M1 : Int) < 1 := by omega
  clear hZZ hG hq0 hq1 hm0 hm1 hv0 hv1 hiN hiN0 hiN1 hiN2
  go_enter Tryd.func6, Tryd.ntmps6
  go_upto_region 1 with (fail)
  rw [← hW0]
  clear hW0
  go_cut [7, 8] from 24 to 33 (fun y z wz => y = .int .i64 (M0 : Nat) ∧ z = .int .i64 (M1 : Nat) ∧ Hid (Only (w.heap.size ≤ ·) w wz) ∧ Hid (Blk wz w.heap.size 48 [.slice A0 n0 c0, .slice A1 n1 c1]))
  case first =>
    refine wp_region_list (B := [false, false, false, false, false, false, false, false, false, false, false, false]) (S := (fun W => W.cell? ⟨w.heap.size, 0, none⟩ = some (.slice A0 n0 c0) ∧ W.cell? ⟨w.heap.size, 1, none⟩ = some (.slice A1 n1 c1))) (by kernel_rfl) (by kernel_rfl) (by kernel_rfl) ⟨HB0.out.cell 0, HB0.out.cell 1⟩ (fun hsel hHeld => ?_)
    refine oneA 0 24 hsel (h := ?_)
    simp only [Act.put, List.setIfInBounds_toArray, List.set_cons_zero, List.set_cons_succ]
    refine oneA 1 25 hsel (h := ?_)
    simp only [Act.put, List.setIfInBounds_toArray, List.set_cons_zero, List.set_cons_succ]
    refine oneA 2 26 hsel (h := ?_)
    simp only [Act.put, List.setIfInBounds_toArray, List.set_cons_zero, List.set_cons_succ]
    refine oneA 3 27 hsel (h := ?_)
    simp only [Act.put, List.setIfInBounds_toArray, List.set_cons_zero, List.set_cons_succ]
    refine oneA 5 29 hsel (h := ?_)
    simp only [Act.put, List.setIfInBounds_toArray, List.set_cons_zero, List.set_cons_succ]
    refine oneA 6 30 hsel (h := ?_)
    simp only [Act.put, List.setIfInBounds_toArray, List.set_cons_zero, List.set_cons_succ]
    refine oneA 7 31 hsel (h := ?_)
    simp only [Act.put, List.setIfInBounds_toArray, List.set_cons_zero, List.set_cons_succ]
    refine oneA 8 32 hsel (h := ?_)
    simp only [Act.put, List.setIfInBounds_toArray, List.set_cons_zero, List.set_cons_succ]
    refine wpAnyL_ready (rs := [4]) (by kernel_rfl) (by kernel_rfl) (by simp) ?_
    refine AllReadyL.cons (o := ?_) ?_ (fun K hK => ?_) AllReadyL.nil
    case refine_2 => (simp only [List.getElem?_cons_succ, List.getElem?_cons_zero]; rfl)
    go_simp
    (go_at_call 7; (with_reducible refine (HMY0.out _ HO0.out).mono ?_); rintro ee wa ⟨rfl, ho⟩; have HOa := Lib.hid (on_new HO0.out ho); have HBa := Lib.hid (HB0.out.later ho); clear ho)
    go_wp2_with (fail)
    clear hHeld
    refine hK.out _ _ ⟨HBa.out.cell 0, HBa.out.cell 1⟩ (fun hHeld => ?_)
    clear hK K
    try simp only [List.set_cons_zero, List.set_cons_succ]
    refine wpAnyL_ready (rs := [9]) (by kernel_rfl) (by kernel_rfl) (by simp) ?_
    refine AllReadyL.cons (o := ?_) ?_ (fun K hK => ?_) AllReadyL.nil
    case refine_2 => (simp only [List.getElem?_cons_succ, List.getElem?_cons_zero]; rfl)
    go_simp
    (go_at_call 7; (with_reducible refine (HMY1.out _ HOa.out).mono ?_); rintro ee wb ⟨rfl, ho⟩; have HOb := Lib.hid (on_new HOa.out ho); have HBb := Lib.hid (HBa.out.later ho); clear ho)
    go_wp2_with (fail)
    clear hHeld
    refine hK.out _ _ ⟨HBb.out.cell 0, HBb.out.cell 1⟩ (fun hHeld => ?_)
    clear hK K
    try simp only [List.set_cons_zero, List.set_cons_succ]
    refine oneA 10 7 hsel (h := ?_)
    simp only [Act.put, List.setIfInBounds_toArray, List.set_cons_zero, List.set_cons_succ]
    refine oneA 11 8 hsel (h := ?_)
    simp only [Act.put, List.setIfInBounds_toArray, List.set_cons_zero, List.set_cons_succ]
    refine wpAnyL_done (by kernel_rfl) (by kernel_rfl) ?_ _
    clear hsel hHeld
    go_wp2_with (fail)
    go_meet
    exact ⟨rfl, rfl, HOb, HBb⟩
  case rest =>
    obtain ⟨rfl, rfl, HO1, HB1⟩ := hcut
    clear HMY0 HMY1 HO0 HB0
    go_upto_region 6 with (fail)
    obtain ⟨wq, hwq⟩ : ∃ W, W = (wc.alloc (.cells ZZ 5)).alloc (.cells #[.slice none 0 0, .slice none 0 0] 49) := ⟨_, rfl⟩
    have HA := Lib.hid (ApW.start (d0 := 3) (d1 := 3 + (M0 : Int)) HZZ.out HO1.out HB1.out hwq)
    obtain ⟨gi, hgi⟩ : ∃ gi, gi = wc.heap.size := ⟨_, rfl⟩
    rw [← hwq]
    rw [← hgi] at HA ⊢
    clear hwq hgi HO1 HB1 hmk HZZ
    go_wp2_with (fail)
    clear a1 a2
    go_loopw [43] (fun i wr => ∃ (k : Nat) (IA : Option Addr) (ic : Nat), i = .int .i64 k ∧ k ≤ M0 ∧ Hid (ApW w [.slice A0 n0 c0, .slice A1 n1 c1] gi (List.replicate 7680 0) (.slice IA k ic) (.slice none 0 0) k 0 3 (3 + (M0 : Int)) wr)) (fun i _ => M0 - (intOf i).toNat)
    case atStart => exact ⟨0, none, 0, rfl, Nat.zero_le _, HA⟩
    case round =>
      obtain ⟨k, IA0, ic0, rfl, hkM, HAk⟩ := hrel
      clear HA
      by_cases hlt : k < M0
      · have hti : (k : Int) < (M0 : Int) := by omega
        have h7 : M0 ≤ 7 := HMM.out.1
        have h7' : M1 ≤ 7 := HMM.out.2.1
        have j0 := HAk.out.ids.cell 0
        simp only [List.getElem?_cons_zero] at j0
        have qa := wr64 (3 + (k : Int)) (by omega) (by omega)
        go_wp2_with (at_builtin; go_loud (have HAz := Lib.hid (HAk.out.later ((Only.refl _ wr).alloc (fun _ h => h) (.cells #[.int .i64 (3 + (k : Int))] 3))); refine wpList_append_at rfl (.tmp 47) (.tmp 50) 28 rfl (gi + 2) 3 iN zN0 1 8 Tryd.underlying28 HIN.out.1 HIN.out.2.1 HIN.out.2.2.1 HIN.out.2.2.2 (by rfl) (by omega) (.slice IA0 k ic0) k (ci (idsX (3) k)) rfl HAz.out.r0 ⟨wr.heap.size, 0, none⟩ 1 1 [.int .i64 (3 + (k : Int))] rfl (by rfl) (one_cell wr 3 _) (by simp [Value.oneCell']) (by simp only [maxLen]; omega) (by omega) HAz.out.gi_lt ?_; intro v' w' ho' hg' hat'; obtain ⟨g', c', rfl⟩ := ownsRow_succ ho'; have HMID := Lib.hid (HAz.out.mid (.inl rfl) hg'); have HPU := Lib.hid (HAz.out.push0 (by rw [ci_succ]; exact ho') hg' hat'); have j1 := HMID.out.cell 0; simp only [List.getElem?_cons_zero] at j1; have jf := HMID.out.frozen 0; clear ho' hg' hat'))
        go_roundw
        case rel => exact ⟨k + 1, _, _, by go_num, hlt, HPU⟩
        case measure => (simp [intOf] <;> omega)
      · obtain rfl : M0 = k := by omega
        clear hlt hkM
        have HA := HAk
        clear HAk
        go_wp2_with (fail)
        go_loopw [55] (fun i wr => ∃ (k : Nat) (IA : Option Addr) (ic : Nat), i = .int .i64 k ∧ k ≤ M1 ∧ Hid (ApW w [.slice A0 n0 c0, .slice A1 n1 c1] gi (List.replicate 7680 0) (.slice IA0 M0 ic0) (.slice IA k ic) M0 k 3 (3 + (M0 : Int)) wr)) (fun i _ => M1 - (intOf i).toNat)
        case atStart => exact ⟨0, none, 0, rfl, Nat.zero_le _, HA⟩
        case round =>
          obtain ⟨k, IA1, ic1, rfl, hkM, HAk⟩ := hrel
          clear HA
          by_cases hlt : k < M1
          · have hti : (k : Int) < (M1 : Int) := by omega
            have h7 : M0 ≤ 7 := HMM.out.1
            have h7' : M1 ≤ 7 := HMM.out.2.1
            have j0 := HAk.out.ids.cell 1
            simp only [List.getElem?_cons_zero, List.getElem?_cons_succ] at j0
            have qa := wr64 (3 + (M0 : Int)) (by omega) (by omega)
            have qb := wr64 (3 + (M0 : Int) + (k : Int)) (by omega) (by omega)
            go_wp2_with (at_builtin; go_loud (have HAz := Lib.hid (HAk.out.later ((Only.refl _ wr).alloc (fun _ h => h) (.cells #[.int .i64 (3 + (M0 : Int) + (k : Int))] 3))); refine wpList_append_at rfl (.tmp 59) (.tmp 64) 28 rfl (gi + 2) 3 iN zN0 1 8 Tryd.underlying28 HIN.out.1 HIN.out.2.1 HIN.out.2.2.1 HIN.out.2.2.2 (by rfl) (by omega) (.slice IA1 k ic1) k (ci (idsX (3 + (M0 : Int)) k)) rfl HAz.out.r1 ⟨wr.heap.size, 0, none⟩ 1 1 [.int .i64 (3 + (M0 : Int) + (k : Int))] rfl (by rfl) (one_cell wr 3 _) (by simp [Value.oneCell']) (by simp only [maxLen]; omega) (by omega) HAz.out.gi_lt ?_; intro v' w' ho' hg' hat'; obtain ⟨g', c', rfl⟩ := ownsRow_succ ho'; have HMID := Lib.hid (HAz.out.mid (.inr rfl) hg'); have HPU := Lib.hid (HAz.out.push1 (by rw [ci_succ]; exact ho') hg' hat'); have j1 := HMID.out.cell 1; simp only [List.getElem?_cons_zero, List.getElem?_cons_succ] at j1; have jf := HMID.out.frozen 1; clear ho' hg' hat'))
            go_roundw
            case rel => exact ⟨k + 1, _, _, by go_num, hlt, HPU⟩
            case measure => (simp [intOf] <;> omega)
          · obtain rfl : M1 = k := by omega
            clear hlt hkM
            have hm0 := HMM.out.2.2.1
            have hm1 := HMM.out.2.2.2
            obtain ⟨x0, q0, e0, hx0, hx0'⟩ := HAk.out.r0.form (Nat.lt_of_lt_of_le Nat.zero_lt_one hm0)
            simp only [Value.slice.injEq] at e0
            obtain ⟨rfl, _, rfl⟩ := e0
            obtain ⟨x1, q1, e1, hx1, hx1'⟩ := HAk.out.r1.form (Nat.lt_of_lt_of_le Nat.zero_lt_one hm1)
            simp only [Value.slice.injEq] at e1
            obtain ⟨rfl, _, rfl⟩ := e1
            obtain ⟨D, hD⟩ : ∃ D : Nat, D = 3 + M0 := ⟨_, rfl⟩
            have hDI : 3 + (M0 : Int) = (D : Int) := by rw [hD]; rfl
            rw [hDI] at HAk
            obtain ⟨B, hB⟩ : ∃ B : Nat, B = D * 256 := ⟨_, rfl⟩
            obtain ⟨f1, f2, f3, f4, f5⟩ := enc_facts (id := 3) HQ.out.1 hm0 HV.out.1 (by decide) (ap_b1 HMM.out.1)
            obtain ⟨f1', f2', f3', f4', f5'⟩ := enc_facts (id := (D : Int)) HQ.out.2 hm1 HV.out.2 (ap_b2 hD) (ap_b3 hD HMM.out.1 HMM.out.2.1)
            obtain ⟨L0, hL0⟩ : ∃ L, L = encB g v0 (idsX 3 M0) := ⟨_, rfl⟩
            obtain ⟨L1, hL1⟩ : ∃ L, L = encB h v1 (idsX (D : Int) M1) := ⟨_, rfl⟩
            rw [← hL0] at f1 f2 f3 f5
            rw [← hL1] at f1' f2' f3' f5'
            obtain ⟨Z, hZ⟩ : ∃ Z : Bytes, Z = List.replicate 7680 0 := ⟨_, rfl⟩
            obtain ⟨J1, hJ1⟩ : ∃ J, J = splB Z 768 L0.flatten := ⟨_, rfl⟩
            obtain ⟨J2, hJ2⟩ : ∃ J, J = splB J1 B L1.flatten := ⟨_, rfl⟩
            obtain ⟨t1, t2, t3, t4, t5, t6, t7, t8, t9, t10, t11⟩ := img_fits hZ hD hB HMM.out.1 HMM.out.2.1 hJ1 f3 f3'
            have HAP := Lib.hid (apart_plain (img := J2) (E0 := L0.flatten) (E1 := L1.flatten) (by rw [← f4]; exact HQ.out.1) (by rw [← f4']; exact HQ.out.2) hm0 hm1 hD (by rw [hL0]) (by rw [hL1]) (by rw [hJ2, hJ1, hZ, hB]))
            have HPG0 := Lib.hid f1
            have HPL0 := Lib.hid f2
            have HFL0 := Lib.hid f3
            have HNV0 := Lib.hid f4
            have HEN0 := Lib.hid f5
            have HPG1 := Lib.hid f1'
            have HPL1 := Lib.hid f2'
            have HFL1 := Lib.hid f3'
            have HNV1 := Lib.hid f4'
            have HEN1 := Lib.hid f5'
            have HFIT0 := Lib.hid (And.intro t1 t2)
            have HFIT1 := Lib.hid (And.intro t3 t4)
            have HJ0E := Lib.hid hJ1
            have HJ1E := Lib.hid hJ2
            rw [← hZ] at HAk
            have HBD : Hid (B = D * 256) := Lib.hid hB
            have HXL := Lib.hid (And.intro hx0 (And.intro hx0' (And.intro hx1 hx1')))
            clear f1 f2 f3 f4 f5 f1' f2' f3' f4' f5' t1 t2 t3 t4 t8 t9 hL0 hL1 hZ hJ1 hJ2 hD hB hDI hm0 hm1 hx0 hx0' hx1 hx1'
            have HA : Hid (ApW w [.slice A0 n0 c0, .slice A1 n1 c1] gi (imK Z J1 J2 0) (.slice (some ⟨x0, 0, none⟩) M0 ic0) (.slice (some ⟨x1, 0, none⟩) M1 ic1) M0 M1 3 (D : Int) wr) := HAk
            clear HAk
            go_wp2_with (fail)
            go_loopw [71] (fun i wr => ∃ (k : Nat), i = .int .i64 k ∧ k ≤ 2 ∧ Hid (ApW w [.slice A0 n0 c0, .slice A1 n1 c1] gi (imK Z J1 J2 k) (.slice (some ⟨x0, 0, none⟩) M0 ic0) (.slice (some ⟨x1, 0, none⟩) M1 ic1) M0 M1 3 (D : Int) wr)) (fun i _ => 2 - (intOf i).toNat)
            case atStart => exact ⟨0, rfl, Nat.zero_le _, HA⟩
            case round =>
              obtain ⟨k, rfl, hk2, HAk⟩ := hrel
              clear HA
              have hk3 := ap_k3 hk2
              clear hk2
              rcases hk3 with rfl | rfl | rfl
              · skip
                have hix : ∀ W : World, (Instr.index 42 (.agg #[.int .i64 g, .int .i64 h]) (.int .i64 0)).run Tryd.prog W = .ok (.int .i64 g) W := fun W => by kernel_rfl
                have HAd := Lib.hid (HAk.out.later (Only.refl _ wr).drew)
                go_upto_region 19 with (fail)
                refine wp_region_list (B := [false, false, false, false, false, false, false, false, false, false, false, false, false]) (S := (fun W => W.cell? ⟨w.heap.size, 0, none⟩ = some (.slice A0 n0 c0) ∧ W.cell? ⟨gi + 1, 0, none⟩ = some (.slice (some ⟨x0, 0, none⟩) M0 ic0))) (by kernel_rfl) (by kernel_rfl) (by kernel_rfl) ⟨HAd.out.box.cell 0, HAd.out.ids.cell 0⟩ (fun hsel hHeld => ?_)
                refine oneA 0 76 hsel (h := ?_)
                simp only [Act.put, List.setIfInBounds_toArray, List.set_cons_zero, List.set_cons_succ]
                refine oneA 1 77 hsel (h := ?_)
                simp only [Act.put, List.setIfInBounds_toArray, List.set_cons_zero, List.set_cons_succ]
                refine oneA 2 78 hsel (h := ?_)
                simp only [Act.put, List.setIfInBounds_toArray, List.set_cons_zero, List.set_cons_succ]
                refine oneA 3 79 hsel (h := ?_)
                simp only [Act.put, List.setIfInBounds_toArray, List.set_cons_zero, List.set_cons_succ]
                refine oneA 4 80 hsel (h := ?_)
                simp only [Act.put, List.setIfInBounds_toArray, List.set_cons_zero, List.set_cons_succ]
                refine oneA 5 81 hsel (h := ?_)
                simp only [Act.put, List.setIfInBounds_toArray, List.set_cons_zero, List.set_cons_succ]
                refine oneA 6 82 hsel (h := ?_)
                simp only [Act.put, List.setIfInBounds_toArray, List.set_cons_zero, List.set_cons_succ]
                refine wpAnyL_ready (rs := [7]) (by kernel_rfl) (by kernel_rfl) (by simp) ?_
                refine AllReadyL.cons (o := ?_) ?_ (fun K hK => ?_) AllReadyL.nil
                case refine_2 => (simp only [List.getElem?_cons_succ, List.getElem?_cons_zero]; rfl)
                go_simp
                (go_at_call 17; (with_reducible refine (HEN0.out wr.drew _ ic0 (HG.out.later HAd.out.only) (HV.out.1.later HAd.out.only) (Ints.own HAd.out.r0)).mono ?_); rintro ee we ⟨r, rfl, hr, ho⟩; obtain ⟨RA, rc, C, rfl, _⟩ := pgs_form hr; have HR := Lib.hid (pgs_rw hr); have HRL := HPL0.out; rw [HRL] at HR ⊢; clear HRL hr; have HAe := Lib.hid (HAd.out.later ho); clear ho)
                go_wp2_with (fail)
                clear hHeld
                refine hK.out _ _ ⟨HAe.out.box.cell 0, HAe.out.ids.cell 0⟩ (fun hHeld => ?_)
                clear hK K
                try simp only [List.set_cons_zero, List.set_cons_succ]
                refine oneA 8 75 hsel (h := ?_)
                simp only [Act.put, List.setIfInBounds_toArray, List.set_cons_zero, List.set_cons_succ]
                refine oneA 9 84 hsel (h := ?_)
                simp only [Act.put, List.setIfInBounds_toArray, List.set_cons_zero, List.set_cons_succ]
                refine oneA 10 85 hsel (h := ?_)
                simp only [Act.put, List.setIfInBounds_toArray, List.set_cons_zero, List.set_cons_succ]
                refine oneA 11 15 hsel (h := ?_)
                simp only [Act.put, List.setIfInBounds_toArray, List.set_cons_zero, List.set_cons_succ]
                refine oneA 12 16 hsel (h := ?_)
                simp only [Act.put, List.setIfInBounds_toArray, List.set_cons_zero, List.set_cons_succ]
                refine wpAnyL_done (by kernel_rfl) (by kernel_rfl) ?_ _
                clear hsel hHeld
                go_upto_region 22 with (fail)
                have hpos : 0 < M0 := HMM.out.2.2.1
                have qw : IntKind.i64.wrap 768 = 768 := by kernel_rfl
                have HAf := Lib.hid (HAe.out.later (Only.refl _ we).drew)
                refine wp_region_list (B := [false, false, false, false, false, false, false, false, false, false, false]) (S := (fun W => W.cell? ⟨gi + 1, 0, none⟩ = some (.slice (some ⟨x0, 0, none⟩) M0 ic0) ∧ W.cell? ⟨x0, 0, none⟩ = some (.int .i64 3))) (by kernel_rfl) (by kernel_rfl) (by kernel_rfl) ⟨HAf.out.ids.cell 0, ids_first HAf.out.r0 HMM.out.2.2.1 HMM.out.2.2.1⟩ (fun hsel hHeld => ?_)
                refine oneA 0 88 hsel (h := ?_)
                simp only [Act.put, List.setIfInBounds_toArray, List.set_cons_zero, List.set_cons_succ]
                refine oneA 1 89 hsel (h := ?_)
                simp only [Act.put, List.setIfInBounds_toArray, List.set_cons_zero, List.set_cons_succ]
                refine oneA 2 90 hsel (h := ?_)
                simp only [Act.put, List.setIfInBounds_toArray, List.set_cons_zero, List.set_cons_succ]
                refine oneA 3 91 hsel (h := ?_)
                simp only [Act.put, List.setIfInBounds_toArray, List.set_cons_zero, List.set_cons_succ]
                refine oneA 4 92 hsel (h := ?_)
                simp only [Act.put, List.setIfInBounds_toArray, List.set_cons_zero, List.set_cons_succ]
                refine oneA 5 93 hsel (h := ?_)
                simp only [Act.put, List.setIfInBounds_toArray, List.set_cons_zero, List.set_cons_succ]
                refine oneA 6 94 hsel (h := ?_)
                simp only [Act.put, List.setIfInBounds_toArray, List.set_cons_zero, List.set_cons_succ]
                refine oneA 7 95 hsel (h := ?_)
                simp only [Act.put, List.setIfInBounds_toArray, List.set_cons_zero, List.set_cons_succ]
                refine oneA 8 96 hsel (h := ?_)
                simp only [Act.put, List.setIfInBounds_toArray, List.set_cons_zero, List.set_cons_succ]
                refine wpAnyL_ready (rs := [9]) (by kernel_rfl) (by kernel_rfl) (by simp) ?_
                refine AllReadyL.cons (o := ?_) ?_ (fun K hK => ?_) AllReadyL.nil
                case refine_2 => (simp only [List.getElem?_cons_succ, List.getElem?_cons_zero]; rfl)
                go_simp
                (go_at_call 18; (with_reducible refine (join_c (HR.out.later (Only.refl _ we).drew) (by rw [HPL0.out]; exact HMM.out.2.2.1) HPG0.out (by have := HMM.out.1; rw [HPL0.out]; omega)).mono ?_); rintro ee wj ⟨ad, cj, rfl, hj, ho⟩; have hfl := HFL0.out; rw [hfl] at hj ⊢; clear hfl; have HJ := Lib.hid hj; have HAj := Lib.hid (HAf.out.later ho); clear hj ho)
                go_wp2_with (fail)
                clear hHeld
                refine hK.out _ _ ⟨HAj.out.ids.cell 0, ids_first HAj.out.r0 HMM.out.2.2.1 HMM.out.2.2.1⟩ (fun hHeld => ?_)
                clear hK K
                try simp only [List.set_cons_zero, List.set_cons_succ]
                refine wpAnyL_ready (rs := [10]) (by kernel_rfl) (by kernel_rfl) (by simp) ?_
                refine AllReadyL.cons (o := ?_) ?_ (fun K hK => ?_) AllReadyL.nil
                case refine_2 => (simp only [List.getElem?_cons_succ, List.getElem?_cons_zero]; rfl)
                rw [if_pos (by kernel_rfl)]
                refine wp_copy_over (.tmp 95) (.tmp 97) rfl gi 768 (7680 - 768) (7680 - 768) ad (M0 * 256) cj rfl rfl Z L0.flatten HFL0.out.symm HAj.out.im HJ.out HFIT0.out.1 HFIT0.out.2 ?_
                intro w5 hb5 ho5
                have HAn := Lib.hid (HAj.out.write (img' := J1) ho5 (by rw [HJ0E.out]; exact hb5))
                clear hHeld
                refine hK.out _ _ ⟨HAn.out.ids.cell 0, ids_first HAn.out.r0 HMM.out.2.2.1 HMM.out.2.2.1⟩ (fun hHeld => ?_)
                clear hK K
                try simp only [Act.put, List.setIfInBounds_toArray, List.set_cons_zero, List.set_cons_succ]
                refine wpAnyL_done (by kernel_rfl) (by kernel_rfl) ?_ _
                clear hsel hHeld
                go_wp2_with (fail)
                go_roundw
                case rel => exact ⟨1, rfl, by omega, HAn⟩
                case measure => (simp [intOf])
              · skip
                have hix : ∀ W : World, (Instr.index 42 (.agg #[.int .i64 g, .int .i64 h]) (.int .i64 1)).run Tryd.prog W = .ok (.int .i64 h) W := fun W => by kernel_rfl
                have HAd := Lib.hid (HAk.out.later (Only.refl _ wr).drew)
                go_upto_region 19 with (fail)
                refine wp_region_list (B := [false, false, false, false, false, false, false, false, false, false, false, false, false]) (S := (fun W => W.cell? ⟨w.heap.size, 1, none⟩ = some (.slice A1 n1 c1) ∧ W.cell? ⟨gi + 1, 1, none⟩ = some (.slice (some ⟨x1, 0, none⟩) M1 ic1))) (by kernel_rfl) (by kernel_rfl) (by kernel_rfl) ⟨HAd.out.box.cell 1, HAd.out.ids.cell 1⟩ (fun hsel hHeld => ?_)
                refine oneA 0 76 hsel (h := ?_)
                simp only [Act.put, List.setIfInBounds_toArray, List.set_cons_zero, List.set_cons_succ]
                refine oneA 1 77 hsel (h := ?_)
                simp only [Act.put, List.setIfInBounds_toArray, List.set_cons_zero, List.set_cons_succ]
                refine oneA 2 78 hsel (h := ?_)
                simp only [Act.put, List.setIfInBounds_toArray, List.set_cons_zero, List.set_cons_succ]
                refine oneA 3 79 hsel (h := ?_)
                simp only [Act.put, List.setIfInBounds_toArray, List.set_cons_zero, List.set_cons_succ]
                refine oneA 4 80 hsel (h := ?_)
                simp only [Act.put, List.setIfInBounds_toArray, List.set_cons_zero, List.set_cons_succ]
                refine oneA 5 81 hsel (h := ?_)
                simp only [Act.put, List.setIfInBounds_toArray, List.set_cons_zero, List.set_cons_succ]
                refine oneA 6 82 hsel (h := ?_)
                simp only [Act.put, List.setIfInBounds_toArray, List.set_cons_zero, List.set_cons_succ]
                refine wpAnyL_ready (rs := [7]) (by kernel_rfl) (by kernel_rfl) (by simp) ?_
                refine AllReadyL.cons (o := ?_) ?_ (fun K hK => ?_) AllReadyL.nil
                case refine_2 => (simp only [List.getElem?_cons_succ, List.getElem?_cons_zero]; rfl)
                go_simp
                (go_at_call 17; (with_reducible refine (HEN1.out wr.drew _ ic1 (HG.out.later HAd.out.only) (HV.out.2.later HAd.out.only) (Ints.own HAd.out.r1)).mono ?_); rintro ee we ⟨r, rfl, hr, ho⟩; obtain ⟨RA, rc, C, rfl, _⟩ := pgs_form hr; have HR := Lib.hid (pgs_rw hr); have HRL := HPL1.out; rw [HRL] at HR ⊢; clear HRL hr; have HAe := Lib.hid (HAd.out.later ho); clear ho)
                go_wp2_with (fail)
                clear hHeld
                refine hK.out _ _ ⟨HAe.out.box.cell 1, HAe.out.ids.cell 1⟩ (fun hHeld => ?_)
                clear hK K
                try simp only [List.set_cons_zero, List.set_cons_succ]
                refine oneA 8 75 hsel (h := ?_)
                simp only [Act.put, List.setIfInBounds_toArray, List.set_cons_zero, List.set_cons_succ]
                refine oneA 9 84 hsel (h := ?_)
                simp only [Act.put, List.setIfInBounds_toArray, List.set_cons_zero, List.set_cons_succ]
                refine oneA 10 85 hsel (h := ?_)
                simp only [Act.put, List.setIfInBounds_toArray, List.set_cons_zero, List.set_cons_succ]
                refine oneA 11 15 hsel (h := ?_)
                simp only [Act.put, List.setIfInBounds_toArray, List.set_cons_zero, List.set_cons_succ]
                refine oneA 12 16 hsel (h := ?_)
                simp only [Act.put, List.setIfInBounds_toArray, List.set_cons_zero, List.set_cons_succ]
                refine wpAnyL_done (by kernel_rfl) (by kernel_rfl) ?_ _
                clear hsel hHeld
                go_upto_region 22 with (fail)
                have hpos : 0 < M1 := HMM.out.2.2.2
                have qw : IntKind.i64.wrap 768 = 768 := by kernel_rfl
                have HAf := Lib.hid (HAe.out.later (Only.refl _ we).drew)
                refine wp_region_list (B := [false, false, false, false, false, false, false, false, false, false, false]) (S := (fun W => W.cell? ⟨gi + 1, 1, none⟩ = some (.slice (some ⟨x1, 0, none⟩) M1 ic1) ∧ W.cell? ⟨x1, 0, none⟩ = some (.int .i64 (D : Int)))) (by kernel_rfl) (by kernel_rfl) (by kernel_rfl) ⟨HAf.out.ids.cell 1, ids_first HAf.out.r1 HMM.out.2.2.2 HMM.out.2.2.2⟩ (fun hsel hHeld => ?_)
                refine oneA 0 88 hsel (h := ?_)
                simp only [Act.put, List.setIfInBounds_toArray, List.set_cons_zero, List.set_cons_succ]
                refine oneA 1 89 hsel (h := ?_)
                simp only [Act.put, List.setIfInBounds_toArray, List.set_cons_zero, List.set_cons_succ]
                refine oneA 2 90 hsel (h := ?_)
                simp only [Act.put, List.setIfInBounds_toArray, List.set_cons_zero, List.set_cons_succ]
                refine oneA 3 91 hsel (h := ?_)
                simp only [Act.put, List.setIfInBounds_toArray, List.set_cons_zero, List.set_cons_succ]
                refine oneA 4 92 hsel (h := ?_)
                simp only [Act.put, List.setIfInBounds_toArray, List.set_cons_zero, List.set_cons_succ]
                refine oneA 5 93 hsel (h := ?_)
                simp only [Act.put, List.setIfInBounds_toArray, List.set_cons_zero, List.set_cons_succ]
                refine oneA 6 94 hsel (h := ?_)
                simp only [Act.put, List.setIfInBounds_toArray, List.set_cons_zero, List.set_cons_succ]
                refine oneA 7 95 hsel (h := ?_)
                simp only [Act.put, List.setIfInBounds_toArray, List.set_cons_zero, List.set_cons_succ]
                refine oneA 8 96 hsel (h := ?_)
                simp only [Act.put, List.setIfInBounds_toArray, List.set_cons_zero, List.set_cons_succ]
                refine wpAnyL_ready (rs := [9]) (by kernel_rfl) (by kernel_rfl) (by simp) ?_
                refine AllReadyL.cons (o := ?_) ?_ (fun K hK => ?_) AllReadyL.nil
                case refine_2 => (simp only [List.getElem?_cons_succ, List.getElem?_cons_zero]; rfl)
                go_simp
                (go_at_call 18; (with_reducible refine (join_c (HR.out.later (Only.refl _ we).drew) (by rw [HPL1.out]; exact HMM.out.2.2.2) HPG1.out (by have := HMM.out.2.1; rw [HPL1.out]; omega)).mono ?_); rintro ee wj ⟨ad, cj, rfl, hj, ho⟩; have hfl := HFL1.out; rw [hfl] at hj ⊢; clear hfl; have HJ := Lib.hid hj; have HAj := Lib.hid (HAf.out.later ho); clear hj ho)
                go_wp2_with (fail)
                clear hHeld
                refine hK.out _ _ ⟨HAj.out.ids.cell 1, ids_first HAj.out.r1 HMM.out.2.2.2 HMM.out.2.2.2⟩ (fun hHeld => ?_)
                clear hK K
                try simp only [List.set_cons_zero, List.set_cons_succ]
                refine wpAnyL_ready (rs := [10]) (by kernel_rfl) (by kernel_rfl) (by simp) ?_
                refine AllReadyL.cons (o := ?_) ?_ (fun K hK => ?_) AllReadyL.nil
                case refine_2 => (simp only [List.getElem?_cons_succ, List.getElem?_cons_zero]; rfl)
                rw [if_pos (by kernel_rfl)]
                refine wp_copy_over (.tmp 95) (.tmp 97) rfl gi B (7680 - B) (7680 - B) ad (M1 * 256) cj rfl rfl J1 L1.flatten HFL1.out.symm HAj.out.im HJ.out HFIT1.out.1 HFIT1.out.2 ?_
                intro w5 hb5 ho5
                have HAn := Lib.hid (HAj.out.write (img' := J2) ho5 (by rw [HJ1E.out]; exact hb5))
                clear hHeld
                refine hK.out _ _ ⟨HAn.out.ids.cell 1, ids_first HAn.out.r1 HMM.out.2.2.2 HMM.out.2.2.2⟩ (fun hHeld => ?_)
                clear hK K
                try simp only [Act.put, List.setIfInBounds_toArray, List.set_cons_zero, List.set_cons_succ]
                refine wpAnyL_done (by kernel_rfl) (by kernel_rfl) ?_ _
                clear hsel hHeld
                go_wp2_with (fail)
                go_roundw
                case rel => exact ⟨2, rfl, by omega, HAn⟩
                case measure => (simp [intOf])
              · skip
                have HA9 : Hid (ApW w [.slice A0 n0 c0, .slice A1 n1 c1] gi J2 (.slice (some ⟨x0, 0, none⟩) M0 ic0) (.slice (some ⟨x1, 0, none⟩) M1 ic1) M0 M1 3 (D : Int) wr) := HAk
                clear HAk
                obtain ⟨tb, htb⟩ : ∃ t, t = wr.heap.size := ⟨_, rfl⟩
                have HTB := Lib.hid (ap_tb HA9.out HG.out HXL.out htb)
                obtain ⟨w9, hw9⟩ : ∃ W, W = wr.alloc (.cells #[.int .i64 0] 3) := ⟨_, rfl⟩
                have HC9 : Hid (CntJ tb w9) := Lib.hid ⟨0, [], by rw [htb, hw9]; exact Blk.new wr 3 _, ⟨by decide, by decide⟩, fun _ => rfl⟩
                replace HA9 := Lib.hid (HA9.out.later (W' := w9) (by rw [hw9]; exact (Only.refl _ wr).alloc (fun _ h => h) _))
                have HID0 : Hid ((0 : Int) ≤ 3 ∧ (3 : Int) ≤ 1000000) := Lib.hid (by decide)
                have HID1 : Hid ((0 : Int) ≤ (D : Int) ∧ (D : Int) ≤ 1000000) := Lib.hid (ap_id t6 HBD.out)
                have HMY0 := Lib.hid (ap_my HQ.out.1 HMM.out.2.2.1 HNV0.out)
                have HMY1 := Lib.hid (ap_my HQ.out.2 HMM.out.2.2.2 HNV1.out)
                go_upto_region 25 with (fail)
                rw [← hw9, ← htb]
                clear hw9 htb
                go_wp2_with (fail)
                go_loopw [103] (fun i wr => ∃ (k : Nat), i = .int .i64 k ∧ k ≤ 2 ∧ Hid (ApW w [.slice A0 n0 c0, .slice A1 n1 c1] gi J2 (.slice (some ⟨x0, 0, none⟩) M0 ic0) (.slice (some ⟨x1, 0, none⟩) M1 ic1) M0 M1 3 (D : Int) wr) ∧ Hid (CntJ tb wr)) (fun i _ => 2 - (intOf i).toNat)
                case atStart => exact ⟨0, rfl, Nat.zero_le _, HA9, HC9⟩
                case round =>
                  obtain ⟨k, rfl, hk2, HAk, HCk⟩ := hrel
                  clear HA9 HC9
                  have hk3 := ap_k3 hk2
                  clear hk2
                  rcases hk3 with rfl | rfl | rfl
                  · skip
                    have hix : ∀ W : World, (Instr.index 42 (.agg #[.int .i64 g, .int .i64 h]) (.int .i64 0)).run Tryd.prog W = .ok (.int .i64 g) W := fun W => by kernel_rfl
                    have hpos : 0 < M0 := HMM.out.2.2.1
                    have HAd := Lib.hid (HAk.out.later (Only.refl _ wr).drew)
                    have HCd := Lib.hid (HCk.out.later (Only.refl _ wr).drew)
                    go_upto_region 28 with (fail)
                    refine wp_region_list (B := [false, false, false, false, false, false, false, false, false, false, false, false, false, false, false, false, false, false, false, false, false]) (S := (fun W => W.cell? ⟨w.heap.size, 0, none⟩ = some (.slice A0 n0 c0) ∧ W.cell? ⟨gi + 1, 0, none⟩ = some (.slice (some ⟨x0, 0, none⟩) M0 ic0) ∧ W.cell? ⟨x0, 0, none⟩ = some (.int .i64 3))) (by kernel_rfl) (by kernel_rfl) (by kernel_rfl) ⟨HAd.out.box.cell 0, HAd.out.ids.cell 0, ids_first HAd.out.r0 HMM.out.2.2.1 HMM.out.2.2.1⟩ (fun hsel hHeld => ?_)
                    refine oneA 0 108 hsel (h := ?_)
                    simp only [Act.put, List.setIfInBounds_toArray, List.set_cons_zero, List.set_cons_succ]
                    refine oneA 2 110 hsel (h := ?_)
                    simp only [Act.put, List.setIfInBounds_toArray, List.set_cons_zero, List.set_cons_succ]
                    refine oneA 3 111 hsel (h := ?_)
                    simp only [Act.put, List.setIfInBounds_toArray, List.set_cons_zero, List.set_cons_succ]
                    refine oneA 4 112 hsel (h := ?_)
                    simp only [Act.put, List.setIfInBounds_toArray, List.set_cons_zero, List.set_cons_succ]
                    refine oneA 5 113 hsel (h := ?_)
                    simp only [Act.put, List.setIfInBounds_toArray, List.set_cons_zero, List.set_cons_succ]
                    refine oneA 6 114 hsel (h := ?_)
                    simp only [Act.put, List.setIfInBounds_toArray, List.set_cons_zero, List.set_cons_succ]
                    refine oneA 7 115 hsel (h := ?_)
                    simp only [Act.put, List.setIfInBounds_toArray, List.set_cons_zero, List.set_cons_succ]
                    refine oneA 8 116 hsel (h := ?_)
                    simp only [Act.put, List.setIfInBounds_toArray, List.set_cons_zero, List.set_cons_succ]
                    refine oneA 9 117 hsel (h := ?_)
                    simp only [Act.put, List.setIfInBounds_toArray, List.set_cons_zero, List.set_cons_succ]
                    refine oneA 10 118 hsel (h := ?_)
                    simp only [Act.put, List.setIfInBounds_toArray, List.set_cons_zero, List.set_cons_succ]
                    refine wpAnyL_ready (rs := [1]) (by kernel_rfl) (by kernel_rfl) (by simp) ?_
                    refine AllReadyL.cons (o := ?_) ?_ (fun K hK => ?_) AllReadyL.nil
                    case refine_2 => (simp only [List.getElem?_cons_succ, List.getElem?_cons_zero]; rfl)
                    go_simp
                    (go_at_call 13; (with_reducible refine (Oreader_c wr.drew (some ⟨gi, 0, none⟩) 7680 7680 tb).mono ?_); rintro ee wa ⟨rfl, hwa⟩; have HWA := Lib.hid hwa; have HAa := Lib.hid (HAd.out.later (W' := wa) (by rw [hwa]; exact ((Only.refl _ wr.drew).alloc (fun _ h => h) _).alloc (fun _ h => h) _)); clear hwa)
                    go_wp2_with (fail)
                    clear hHeld
                    refine hK.out _ _ ⟨HAa.out.box.cell 0, HAa.out.ids.cell 0, ids_first HAa.out.r0 HMM.out.2.2.1 HMM.out.2.2.1⟩ (fun hHeld => ?_)
                    clear hK K
                    try simp only [List.set_cons_zero, List.set_cons_succ]
                    refine wpAnyL_ready (rs := [11]) (by kernel_rfl) (by kernel_rfl) (by simp) ?_
                    refine AllReadyL.cons (o := ?_) ?_ (fun K hK => ?_) AllReadyL.nil
                    case refine_2 => (simp only [List.getElem?_cons_succ, List.getElem?_cons_zero]; rfl)
                    go_simp
                    (go_at_call 12; have hd := ap_read HAd.out HG.out HCd.out HWA.out HTB.out HAP.out.1 HID0.out HMY0.out HNV0.out HAP.out.2.1; rw [show wr.drew.heap.size = wr.heap.size from rfl] at hd; (with_reducible refine hd.mono ?_); clear hd; rintro ee wb ⟨x, IA, ic, rfl, hx, hc, ha⟩; have HX := Lib.hid hx; have HCb := Lib.hid hc; have HAb := Lib.hid ha; clear hx hc ha)
                    go_wp2_with (fail)
                    clear hHeld
                    refine hK.out _ _ ⟨HAb.out.box.cell 0, HAb.out.ids.cell 0, ids_first HAb.out.r0 HMM.out.2.2.1 HMM.out.2.2.1⟩ (fun hHeld => ?_)
                    clear hK K
                    try simp only [List.set_cons_zero, List.set_cons_succ]
                    refine oneA 12 107 hsel (h := ?_)
                    simp only [Act.put, List.setIfInBounds_toArray, List.set_cons_zero, List.set_cons_succ]
                    refine oneA 13 120 hsel (h := ?_)
                    simp only [Act.put, List.setIfInBounds_toArray, List.set_cons_zero, List.set_cons_succ]
                    refine oneA 14 121 hsel (h := ?_)
                    simp only [Act.put, List.setIfInBounds_toArray, List.set_cons_zero, List.set_cons_succ]
                    refine oneA 15 122 hsel (h := ?_)
                    simp only [Act.put, List.setIfInBounds_toArray, List.set_cons_zero, List.set_cons_succ]
                    refine oneA 16 123 hsel (h := ?_)
                    simp only [Act.put, List.setIfInBounds_toArray, List.set_cons_zero, List.set_cons_succ]
                    refine oneA 17 20 hsel (h := ?_)
                    simp only [Act.put, List.setIfInBounds_toArray, List.set_cons_zero, List.set_cons_succ]
                    refine oneA 18 21 hsel (h := ?_)
                    simp only [Act.put, List.setIfInBounds_toArray, List.set_cons_zero, List.set_cons_succ]
                    refine oneA 19 22 hsel (h := ?_)
                    simp only [Act.put, List.setIfInBounds_toArray, List.set_cons_zero, List.set_cons_succ]
                    refine oneA 20 23 hsel (h := ?_)
                    simp only [Act.put, List.setIfInBounds_toArray, List.set_cons_zero, List.set_cons_succ]
                    refine wpAnyL_done (by kernel_rfl) (by kernel_rfl) ?_ _
                    clear hsel hHeld
                    have kb := HAb.out.box.cell 0
                    have ki := HAb.out.ids.cell 0
                    simp only [List.getElem?_cons_zero] at kb ki
                    go_wp2_with (go_at_call 16; (with_reducible refine (Equal_b _ _ _ v0 v0 true HX.out (HV.out.1.later HAb.out.only) (decide_eq_true rfl)).mono ?_); rintro ee wc' ⟨rfl, rfl⟩)
                    go_roundw
                    case rel =>
                      repeat apply Exists.intro
                      exact ⟨⟨1, rfl, by omega, HAb, HCb⟩, rfl⟩
                    case measure => (simp [intOf])
                  · skip
                    have hix : ∀ W : World, (Instr.index 42 (.agg #[.int .i64 g, .int .i64 h]) (.int .i64 1)).run Tryd.prog W = .ok (.int .i64 h) W := fun W => by kernel_rfl
                    have hpos : 0 < M1 := HMM.out.2.2.2
                    have HAd := Lib.hid (HAk.out.later (Only.refl _ wr).drew)
                    have HCd := Lib.hid (HCk.out.later (Only.refl _ wr).drew)
                    go_upto_region 28 with (fail)
                    refine wp_region_list (B := [false, false, false, false, false, false, false, false, false, false, false, false, false, false, false, false, false, false, false, false, false]) (S := (fun W => W.cell? ⟨w.heap.size, 1, none⟩ = some (.slice A1 n1 c1) ∧ W.cell? ⟨gi + 1, 1, none⟩ = some (.slice (some ⟨x1, 0, none⟩) M1 ic1) ∧ W.cell? ⟨x1, 0, none⟩ = some (.int .i64 (D : Int)))) (by kernel_rfl) (by kernel_rfl) (by kernel_rfl) ⟨HAd.out.box.cell 1, HAd.out.ids.cell 1, ids_first HAd.out.r1 HMM.out.2.2.2 HMM.out.2.2.2⟩ (fun hsel hHeld => ?_)
                    refine oneA 0 108 hsel (h := ?_)
                    simp only [Act.put, List.setIfInBounds_toArray, List.set_cons_zero, List.set_cons_succ]
                    refine oneA 2 110 hsel (h := ?_)
                    simp only [Act.put, List.setIfInBounds_toArray, List.set_cons_zero, List.set_cons_succ]
                    refine oneA 3 111 hsel (h := ?_)
                    simp only [Act.put, List.setIfInBounds_toArray, List.set_cons_zero, List.set_cons_succ]
                    refine oneA 4 112 hsel (h := ?_)
                    simp only [Act.put, List.setIfInBounds_toArray, List.set_cons_zero, List.set_cons_succ]
                    refine oneA 5 113 hsel (h := ?_)
                    simp only [Act.put, List.setIfInBounds_toArray, List.set_cons_zero, List.set_cons_succ]
                    refine oneA 6 114 hsel (h := ?_)
                    simp only [Act.put, List.setIfInBounds_toArray, List.set_cons_zero, List.set_cons_succ]
                    refine oneA 7 115 hsel (h := ?_)
                    simp only [Act.put, List.setIfInBounds_toArray, List.set_cons_zero, List.set_cons_succ]
                    refine oneA 8 116 hsel (h := ?_)
                    simp only [Act.put, List.setIfInBounds_toArray, List.set_cons_zero, List.set_cons_succ]
                    refine oneA 9 117 hsel (h := ?_)
                    simp only [Act.put, List.setIfInBounds_toArray, List.set_cons_zero, List.set_cons_succ]
                    refine oneA 10 118 hsel (h := ?_)
                    simp only [Act.put, List.setIfInBounds_toArray, List.set_cons_zero, List.set_cons_succ]
                    refine wpAnyL_ready (rs := [1]) (by kernel_rfl) (by kernel_rfl) (by simp) ?_
                    refine AllReadyL.cons (o := ?_) ?_ (fun K hK => ?_) AllReadyL.nil
                    case refine_2 => (simp only [List.getElem?_cons_succ, List.getElem?_cons_zero]; rfl)
                    go_simp
                    (go_at_call 13; (with_reducible refine (Oreader_c wr.drew (some ⟨gi, 0, none⟩) 7680 7680 tb).mono ?_); rintro ee wa ⟨rfl, hwa⟩; have HWA := Lib.hid hwa; have HAa := Lib.hid (HAd.out.later (W' := wa) (by rw [hwa]; exact ((Only.refl _ wr.drew).alloc (fun _ h => h) _).alloc (fun _ h => h) _)); clear hwa)
                    go_wp2_with (fail)
                    clear hHeld
                    refine hK.out _ _ ⟨HAa.out.box.cell 1, HAa.out.ids.cell 1, ids_first HAa.out.r1 HMM.out.2.2.2 HMM.out.2.2.2⟩ (fun hHeld => ?_)
                    clear hK K
                    try simp only [List.set_cons_zero, List.set_cons_succ]
                    refine wpAnyL_ready (rs := [11]) (by kernel_rfl) (by kernel_rfl) (by simp) ?_
                    refine AllReadyL.cons (o := ?_) ?_ (fun K hK => ?_) AllReadyL.nil
                    case refine_2 => (simp only [List.getElem?_cons_succ, List.getElem?_cons_zero]; rfl)
                    go_simp
                    (go_at_call 12; have hd := ap_read HAd.out HG.out HCd.out HWA.out HTB.out HAP.out.1 HID1.out HMY1.out HNV1.out HAP.out.2.2; rw [show wr.drew.heap.size = wr.heap.size from rfl] at hd; (with_reducible refine hd.mono ?_); clear hd; rintro ee wb ⟨x, IA, ic, rfl, hx, hc, ha⟩; have HX := Lib.hid hx; have HCb := Lib.hid hc; have HAb := Lib.hid ha; clear hx hc ha)
                    go_wp2_with (fail)
                    clear hHeld
                    refine hK.out _ _ ⟨HAb.out.box.cell 1, HAb.out.ids.cell 1, ids_first HAb.out.r1 HMM.out.2.2.2 HMM.out.2.2.2⟩ (fun hHeld => ?_)
                    clear hK K
                    try simp only [List.set_cons_zero, List.set_cons_succ]
                    refine oneA 12 107 hsel (h := ?_)
                    simp only [Act.put, List.setIfInBounds_toArray, List.set_cons_zero, List.set_cons_succ]
                    refine oneA 13 120 hsel (h := ?_)
                    simp only [Act.put, List.setIfInBounds_toArray, List.set_cons_zero, List.set_cons_succ]
                    refine oneA 14 121 hsel (h := ?_)
                    simp only [Act.put, List.setIfInBounds_toArray, List.set_cons_zero, List.set_cons_succ]
                    refine oneA 15 122 hsel (h := ?_)
                    simp only [Act.put, List.setIfInBounds_toArray, List.set_cons_zero, List.set_cons_succ]
                    refine oneA 16 123 hsel (h := ?_)
                    simp only [Act.put, List.setIfInBounds_toArray, List.set_cons_zero, List.set_cons_succ]
                    refine oneA 17 20 hsel (h := ?_)
                    simp only [Act.put, List.setIfInBounds_toArray, List.set_cons_zero, List.set_cons_succ]
                    refine oneA 18 21 hsel (h := ?_)
                    simp only [Act.put, List.setIfInBounds_toArray, List.set_cons_zero, List.set_cons_succ]
                    refine oneA 19 22 hsel (h := ?_)
                    simp only [Act.put, List.setIfInBounds_toArray, List.set_cons_zero, List.set_cons_succ]
                    refine oneA 20 23 hsel (h := ?_)
                    simp only [Act.put, List.setIfInBounds_toArray, List.set_cons_zero, List.set_cons_succ]
                    refine wpAnyL_done (by kernel_rfl) (by kernel_rfl) ?_ _
                    clear hsel hHeld
                    have kb := HAb.out.box.cell 1
                    have ki := HAb.out.ids.cell 1
                    simp only [List.getElem?_cons_zero, List.getElem?_cons_succ] at kb ki
                    go_wp2_with (go_at_call 16; (with_reducible refine (Equal_b _ _ _ v1 v1 true HX.out (HV.out.2.later HAb.out.only) (decide_eq_true rfl)).mono ?_); rintro ee wc' ⟨rfl, rfl⟩)
                    go_roundw
                    case rel =>
                      repeat apply Exists.intro
                      exact ⟨⟨2, rfl, by omega, HAb, HCb⟩, rfl⟩
                    case measure => (simp [intOf])
                  · go_wp2_with (go_at_call 8; (with_reducible refine (HAL.out _ HAk.out.only).mono ?_); rintro ee wz ⟨rfl, ho⟩; have HOz := Lib.hid (on_new HAk.out.only ho); clear ho)
                    go_ret
                    exact ⟨rfl, HOz.out⟩
end Go.Proofs.YtbgnfocfnjlabaaDoor
