/-
  ItemOrders: the walk.
-/
import Derived.Test.YtkhimppgpdaiaaaDoorAliv
set_option linter.unusedVariables false
namespace Go.Proofs.YtkhimppgpdaiaaaDoor
open Go.RowKit

theorem Compare_b (w : World) (v u : Value) (xs ys : Bytes) (q : Int) (h : Src w v xs) (h' : Src w u ys) (hq : cmp xs ys = q) : Calls Tryd.prog 33 #[v, u] w fun e w' => e = .returned (.int .i64 q) ∧ w = w' := by
  rw [← hq]; exact Compare_c w v u xs ys h h'

set_option maxRecDepth 100000 in
set_option maxHeartbeats 12800000 in
theorem orders_walk (w : World) (A0 A1 A2 : Option Addr) (n0 c0 n1 c1 n2 c2 : Nat) (xs ys zs : Bytes) (hg : Gens w) (s0 : Src w (.slice A0 n0 c0) xs) (s1 : Src w (.slice A1 n1 c1) ys) (s2 : Src w (.slice A2 n2 c2) zs) (e0 : xs.length = n0) (e1 : ys.length = n1) (e2 : zs.length = n2) :
    Calls Tryd.prog 5 #[.slice A0 n0 c0, .slice A1 n1 c1, .slice A2 n2 c2] w (Told w (.bool true)) := by
  have HG := Lib.hid hg
  have HO : Hid (Only (w.heap.size ≤ ·) w w) := Only.refl _ w
  have H0 := Lib.hid s0
  have H1 := Lib.hid s1
  have H2 := Lib.hid s2
  clear hg s0 s1 s2 e0 e1 e2
  by_cases l0 : (100 : Int) < (n0 : Int)
  · skip
    go_enter Tryd.func5, Tryd.ntmps5
    go_wp2_with (first
      | (go_at_call 9; (with_reducible refine (alive_c _ HG.out).mono ?_); rintro e w1 ⟨rfl, ho⟩; (replace H0 := Lib.hid (H0.out.later ho)); (replace H1 := Lib.hid (H1.out.later ho)); (replace H2 := Lib.hid (H2.out.later ho)); (replace HG := Lib.hid (HG.out.later ho)); (replace HO := Lib.hid (on_new HO.out ho)); clear ho))
    go_ret
    exact ⟨rfl, HO.out⟩
  by_cases l1 : (100 : Int) < (n1 : Int)
  · skip
    go_enter Tryd.func5, Tryd.ntmps5
    go_wp2_with (first
      | (go_at_call 9; (with_reducible refine (alive_c _ HG.out).mono ?_); rintro e w1 ⟨rfl, ho⟩; (replace H0 := Lib.hid (H0.out.later ho)); (replace H1 := Lib.hid (H1.out.later ho)); (replace H2 := Lib.hid (H2.out.later ho)); (replace HG := Lib.hid (HG.out.later ho)); (replace HO := Lib.hid (on_new HO.out ho)); clear ho))
    go_ret
    exact ⟨rfl, HO.out⟩
  by_cases l2 : (100 : Int) < (n2 : Int)
  · skip
    go_enter Tryd.func5, Tryd.ntmps5
    go_wp2_with (first
      | (go_at_call 9; (with_reducible refine (alive_c _ HG.out).mono ?_); rintro e w1 ⟨rfl, ho⟩; (replace H0 := Lib.hid (H0.out.later ho)); (replace H1 := Lib.hid (H1.out.later ho)); (replace H2 := Lib.hid (H2.out.later ho)); (replace HG := Lib.hid (HG.out.later ho)); (replace HO := Lib.hid (on_new HO.out ho)); clear ho))
    go_ret
    exact ⟨rfl, HO.out⟩
  obtain ⟨q, hq⟩ : ∃ q, cmp xs ys = q := ⟨_, rfl⟩
  obtain ⟨p, hp⟩ : ∃ p, cmp ys xs = p := ⟨_, rfl⟩
  obtain ⟨u, hu⟩ : ∃ u, cmp ys zs = u := ⟨_, rfl⟩
  obtain ⟨v, hv⟩ : ∃ v, cmp xs zs = v := ⟨_, rfl⟩
  have HQ := Lib.hid hq
  have HP := Lib.hid hp
  have HU := Lib.hid hu
  have HV := Lib.hid hv
  have hr := cmp_range xs ys
  have hfl := cmp_flip xs ys
  have htr := cmp_trans xs ys zs
  rw [hq] at hr htr hfl
  rw [hp] at hfl
  rw [hu, hv] at htr
  subst hfl
  clear hq hp hu hv
  have a1 : IntKind.i64.wrap (-q) = -q := IntWalk.i64_in _ (by omega)
  by_cases q0 : 0 < q
  · clear htr
    go_enter Tryd.func5, Tryd.ntmps5
    go_wp2_with (first
      | (go_at_call 9; (with_reducible refine (alive_c _ HG.out).mono ?_); rintro e w1 ⟨rfl, ho⟩; (replace H0 := Lib.hid (H0.out.later ho)); (replace H1 := Lib.hid (H1.out.later ho)); (replace H2 := Lib.hid (H2.out.later ho)); (replace HG := Lib.hid (HG.out.later ho)); (replace HO := Lib.hid (on_new HO.out ho)); clear ho)
      | (go_at_call 33; (with_reducible refine (Compare_b _ _ _ xs ys _ H0.out H1.out HQ.out).mono ?_); rintro e w' ⟨rfl, rfl⟩)
      | (go_at_call 34; (with_reducible refine (rCompare_b _ _ _ xs ys _ H0.out H1.out HQ.out).mono ?_); rintro e w2 ⟨rfl, ho⟩; (replace H0 := Lib.hid (H0.out.later ho)); (replace H1 := Lib.hid (H1.out.later ho)); (replace H2 := Lib.hid (H2.out.later ho)); (replace HG := Lib.hid (HG.out.later ho)); (replace HO := Lib.hid (on_new HO.out ho)); clear ho)
      | (go_at_call 33; (with_reducible refine (Compare_b _ _ _ ys xs _ H1.out H0.out HP.out).mono ?_); rintro e w' ⟨rfl, rfl⟩)
      | (go_at_call 33; (with_reducible refine (Compare_b _ _ _ ys zs _ H1.out H2.out HU.out).mono ?_); rintro e w' ⟨rfl, rfl⟩)
      | (go_at_call 33; (with_reducible refine (Compare_b _ _ _ xs zs _ H0.out H2.out HV.out).mono ?_); rintro e w' ⟨rfl, rfl⟩))
    go_ret
    exact ⟨rfl, HO.out⟩
  by_cases u0 : 0 < u
  · clear htr
    go_enter Tryd.func5, Tryd.ntmps5
    go_wp2_with (first
      | (go_at_call 9; (with_reducible refine (alive_c _ HG.out).mono ?_); rintro e w1 ⟨rfl, ho⟩; (replace H0 := Lib.hid (H0.out.later ho)); (replace H1 := Lib.hid (H1.out.later ho)); (replace H2 := Lib.hid (H2.out.later ho)); (replace HG := Lib.hid (HG.out.later ho)); (replace HO := Lib.hid (on_new HO.out ho)); clear ho)
      | (go_at_call 33; (with_reducible refine (Compare_b _ _ _ xs ys _ H0.out H1.out HQ.out).mono ?_); rintro e w' ⟨rfl, rfl⟩)
      | (go_at_call 34; (with_reducible refine (rCompare_b _ _ _ xs ys _ H0.out H1.out HQ.out).mono ?_); rintro e w2 ⟨rfl, ho⟩; (replace H0 := Lib.hid (H0.out.later ho)); (replace H1 := Lib.hid (H1.out.later ho)); (replace H2 := Lib.hid (H2.out.later ho)); (replace HG := Lib.hid (HG.out.later ho)); (replace HO := Lib.hid (on_new HO.out ho)); clear ho)
      | (go_at_call 33; (with_reducible refine (Compare_b _ _ _ ys xs _ H1.out H0.out HP.out).mono ?_); rintro e w' ⟨rfl, rfl⟩)
      | (go_at_call 33; (with_reducible refine (Compare_b _ _ _ ys zs _ H1.out H2.out HU.out).mono ?_); rintro e w' ⟨rfl, rfl⟩)
      | (go_at_call 33; (with_reducible refine (Compare_b _ _ _ xs zs _ H0.out H2.out HV.out).mono ?_); rintro e w' ⟨rfl, rfl⟩))
    go_ret
    exact ⟨rfl, HO.out⟩
  · have v0 : v ≤ 0 := htr (by omega) (by omega)
    clear htr
    go_enter Tryd.func5, Tryd.ntmps5
    go_wp2_with (first
      | (go_at_call 9; (with_reducible refine (alive_c _ HG.out).mono ?_); rintro e w1 ⟨rfl, ho⟩; (replace H0 := Lib.hid (H0.out.later ho)); (replace H1 := Lib.hid (H1.out.later ho)); (replace H2 := Lib.hid (H2.out.later ho)); (replace HG := Lib.hid (HG.out.later ho)); (replace HO := Lib.hid (on_new HO.out ho)); clear ho)
      | (go_at_call 33; (with_reducible refine (Compare_b _ _ _ xs ys _ H0.out H1.out HQ.out).mono ?_); rintro e w' ⟨rfl, rfl⟩)
      | (go_at_call 34; (with_reducible refine (rCompare_b _ _ _ xs ys _ H0.out H1.out HQ.out).mono ?_); rintro e w2 ⟨rfl, ho⟩; (replace H0 := Lib.hid (H0.out.later ho)); (replace H1 := Lib.hid (H1.out.later ho)); (replace H2 := Lib.hid (H2.out.later ho)); (replace HG := Lib.hid (HG.out.later ho)); (replace HO := Lib.hid (on_new HO.out ho)); clear ho)
      | (go_at_call 33; (with_reducible refine (Compare_b _ _ _ ys xs _ H1.out H0.out HP.out).mono ?_); rintro e w' ⟨rfl, rfl⟩)
      | (go_at_call 33; (with_reducible refine (Compare_b _ _ _ ys zs _ H1.out H2.out HU.out).mono ?_); rintro e w' ⟨rfl, rfl⟩)
      | (go_at_call 33; (with_reducible refine (Compare_b _ _ _ xs zs _ H0.out H2.out HV.out).mono ?_); rintro e w' ⟨rfl, rfl⟩))
    go_ret
    exact ⟨rfl, HO.out⟩
end Go.Proofs.YtkhimppgpdaiaaaDoor
