/-
  Cui Cuj Cuk Cul Cum Cun Cuo Cus Cut Cuv: as one text.
-/
import Derived.Test.YtnjhpjpeeehagaaGd
/-
  New: a cursor that stands nowhere.
-/
set_option linter.unusedVariables false
namespace Go.Proofs.Ytnjhpjpeeehagaa
open Go.RowKit

set_option maxRecDepth 100000 in
theorem CrNew_c (w : World) (RF : Nat) (rcaps : Array Value) (root : Int) : Calls Try.prog 11 #[.func (.func RF) #[] rcaps, .int .i64 root] w fun e w' => e = .returned (.pointer (some ⟨w.heap.size, 0, none⟩)) ∧ Blk w' w.heap.size 75 [.func (.func RF) #[] rcaps, .int .i64 root, .slice none 0 0] ∧ Only (w.heap.size ≤ ·) w w' := by
  have hfn := func_nil RF rcaps
  have HO : Hid (Only (w.heap.size ≤ ·) w (w.alloc (.cells #[.func (.func RF) #[] rcaps, .int .i64 root, .slice none 0 0] 75))) := Lib.hid ((Only.refl _ w).alloc (fun _ h => h) _)
  have HB : Hid (Blk (w.alloc (.cells #[.func (.func RF) #[] rcaps, .int .i64 root, .slice none 0 0] 75)) w.heap.size 75 [.func (.func RF) #[] rcaps, .int .i64 root, .slice none 0 0]) := Lib.hid (Blk.new w _ _)
  go_enter Try.func11, Try.ntmps11
  go_wp2
  go_ret
  exact ⟨rfl, HB.out, HO.out⟩
theorem nil_nil_d (d : Nat) (w : World) : (Op.equalIn (d + 1) 32 Value.nilFunc Value.nilFunc).run Try.prog w = .ok true w := by
  simp [Op.equalIn, run_underlying Try.underlying32]
theorem nil_nil (w : World) : (binOp .eql 32 Value.nilFunc Value.nilFunc).run Try.prog w = .ok (.bool true) w := by
  simp only [binOp]
  simp [Op.equal, Op.maxDepth, nil_nil_d 9999 w]
set_option maxRecDepth 100000 in
theorem CrNew_nil (w : World) (root : Int) : Calls Try.prog 11 #[Value.nilFunc, .int .i64 root] w fun e w' => e = .returned (.pointer none) ∧ w = w' := by
  have hfn := nil_nil w
  go_enter Try.func11, Try.ntmps11
  go_wp2
  go_ret
  exact ⟨rfl, rfl⟩
end Go.Proofs.Ytnjhpjpeeehagaa

/-
  The document's Do: on, back, to the last one.
-/
set_option linter.unusedVariables false
namespace Go.Proofs.Ytnjhpjpeeehagaa
open Go.RowKit

set_option maxRecDepth 100000 in
theorem CrDo_next (w : World) (A : Option Addr) (n c : Nat) (at_ : Int) (K : Option Addr) (kn kc : Nat) (hn : n ≤ 1000) (h0 : 0 ≤ at_) (h1 : at_ + 1 < n) : Calls Try.prog 13 #[.slice A n c, .int .i64 at_, .agg #[.int .i64 3, .slice K kn kc]] w (Told w (.int .i64 (at_ + 1))) := by
  obtain ⟨w1, hw1⟩ : ∃ W0, W0 = w.alloc (.cells #[.int .i64 3, .slice K kn kc] 36) := ⟨_, rfl⟩
  have HO1 : Hid (Only (w.heap.size ≤ ·) w w1) := Lib.hid (by rw [hw1]; exact (Only.refl _ w).alloc (fun _ h => h) _)
  have HA : Hid (Blk w1 w.heap.size 36 [.int .i64 3, .slice K kn kc]) := Lib.hid (by rw [hw1]; exact Blk.new w _ _)
  have HE1 := Lib.hid hw1
  have i0 : w1.cell? ⟨w.heap.size, 0, none⟩ = some (.int .i64 3) := HA.out.cell 0
  obtain ⟨z, hz⟩ : ∃ z, z = at_ + 1 := ⟨_, rfl⟩
  have c1 : wrap64 (at_ + 1) = z := by rw [hz]; exact IntWalk.wrap64_in _ (by omega)
  rw [← hz]
  have HZ := Lib.hid hz
  have c2 : ¬ z = (n : Int) := by rw [hz]; omega
  clear hw1 hn h1 hz
  go_enter Try.func13, Try.ntmps13
  go_upto_region 1 with (fail)
  rw [← HE1.out]
  go_wp2
  go_ret
  first
    | exact ⟨rfl, HO1.out⟩
    | exact ⟨congrArg (fun q => Ending.returned (.int .i64 q)) c1, HO1.out⟩
set_option maxRecDepth 100000 in
theorem CrDo_end (w : World) (A : Option Addr) (n c : Nat) (at_ : Int) (K : Option Addr) (kn kc : Nat) (hn : n ≤ 1000) (h0 : 0 ≤ at_) (h1 : at_ + 1 = n) : Calls Try.prog 13 #[.slice A n c, .int .i64 at_, .agg #[.int .i64 3, .slice K kn kc]] w (Told w (.int .i64 (-1))) := by
  obtain ⟨w1, hw1⟩ : ∃ W0, W0 = w.alloc (.cells #[.int .i64 3, .slice K kn kc] 36) := ⟨_, rfl⟩
  have HO1 : Hid (Only (w.heap.size ≤ ·) w w1) := Lib.hid (by rw [hw1]; exact (Only.refl _ w).alloc (fun _ h => h) _)
  have HA : Hid (Blk w1 w.heap.size 36 [.int .i64 3, .slice K kn kc]) := Lib.hid (by rw [hw1]; exact Blk.new w _ _)
  have HE1 := Lib.hid hw1
  have i0 : w1.cell? ⟨w.heap.size, 0, none⟩ = some (.int .i64 3) := HA.out.cell 0
  have c1 : wrap64 (at_ + 1) = (n : Int) := by rw [IntWalk.wrap64_in _ (by omega)]; exact h1
  clear hw1 hn h1
  go_enter Try.func13, Try.ntmps13
  go_upto_region 1 with (fail)
  rw [← HE1.out]
  go_wp2
  go_ret
  first
    | exact ⟨rfl, HO1.out⟩
    | exact ⟨congrArg (fun q => Ending.returned (.int .i64 q)) c1, HO1.out⟩
set_option maxRecDepth 100000 in
theorem CrDo_prev (w : World) (A : Option Addr) (n c : Nat) (at_ : Int) (K : Option Addr) (kn kc : Nat) (hn : n ≤ 1000) (h0 : 0 ≤ at_) (h1 : at_ < n) : Calls Try.prog 13 #[.slice A n c, .int .i64 at_, .agg #[.int .i64 4, .slice K kn kc]] w (Told w (.int .i64 (at_ - 1))) := by
  obtain ⟨w1, hw1⟩ : ∃ W0, W0 = w.alloc (.cells #[.int .i64 4, .slice K kn kc] 36) := ⟨_, rfl⟩
  have HO1 : Hid (Only (w.heap.size ≤ ·) w w1) := Lib.hid (by rw [hw1]; exact (Only.refl _ w).alloc (fun _ h => h) _)
  have HA : Hid (Blk w1 w.heap.size 36 [.int .i64 4, .slice K kn kc]) := Lib.hid (by rw [hw1]; exact Blk.new w _ _)
  have HE1 := Lib.hid hw1
  have i0 : w1.cell? ⟨w.heap.size, 0, none⟩ = some (.int .i64 4) := HA.out.cell 0
  obtain ⟨z, hz⟩ : ∃ z, z = at_ - 1 := ⟨_, rfl⟩
  have c1 : wrap64 (at_ - 1) = z := by rw [hz]; exact IntWalk.wrap64_in _ (by omega)
  rw [← hz]
  have HZ := Lib.hid hz
  clear hw1 hn h1 hz
  go_enter Try.func13, Try.ntmps13
  go_upto_region 1 with (fail)
  rw [← HE1.out]
  go_wp2
  go_ret
  first
    | exact ⟨rfl, HO1.out⟩
    | exact ⟨congrArg (fun q => Ending.returned (.int .i64 q)) c1, HO1.out⟩
set_option maxRecDepth 100000 in
theorem CrDo_back (w : World) (A : Option Addr) (n c : Nat) (at_ : Int) (K : Option Addr) (kn kc : Nat) (hn : n ≤ 1000) (h0 : at_ < 0) : Calls Try.prog 13 #[.slice A n c, .int .i64 at_, .agg #[.int .i64 4, .slice K kn kc]] w (Told w (.int .i64 ((n : Int) - 1))) := by
  obtain ⟨w1, hw1⟩ : ∃ W0, W0 = w.alloc (.cells #[.int .i64 4, .slice K kn kc] 36) := ⟨_, rfl⟩
  have HO1 : Hid (Only (w.heap.size ≤ ·) w w1) := Lib.hid (by rw [hw1]; exact (Only.refl _ w).alloc (fun _ h => h) _)
  have HA : Hid (Blk w1 w.heap.size 36 [.int .i64 4, .slice K kn kc]) := Lib.hid (by rw [hw1]; exact Blk.new w _ _)
  have HE1 := Lib.hid hw1
  have i0 : w1.cell? ⟨w.heap.size, 0, none⟩ = some (.int .i64 4) := HA.out.cell 0
  obtain ⟨z, hz⟩ : ∃ z, z = (n : Int) - 1 := ⟨_, rfl⟩
  have c1 : wrap64 ((n : Int) - 1) = z := by rw [hz]; exact IntWalk.wrap64_in _ (by omega)
  rw [← hz]
  have HZ := Lib.hid hz
  have c2 : ¬ 0 ≤ at_ := by omega
  clear hw1 hn hz
  go_enter Try.func13, Try.ntmps13
  go_upto_region 1 with (fail)
  rw [← HE1.out]
  go_wp2
  go_ret
  first
    | exact ⟨rfl, HO1.out⟩
    | exact ⟨congrArg (fun q => Ending.returned (.int .i64 q)) c1, HO1.out⟩
set_option maxRecDepth 100000 in
theorem CrDo_last (w : World) (A : Option Addr) (n c : Nat) (at_ : Int) (K : Option Addr) (kn kc : Nat) (hn : n ≤ 1000)  : Calls Try.prog 13 #[.slice A n c, .int .i64 at_, .agg #[.int .i64 2, .slice K kn kc]] w (Told w (.int .i64 ((n : Int) - 1))) := by
  obtain ⟨w1, hw1⟩ : ∃ W0, W0 = w.alloc (.cells #[.int .i64 2, .slice K kn kc] 36) := ⟨_, rfl⟩
  have HO1 : Hid (Only (w.heap.size ≤ ·) w w1) := Lib.hid (by rw [hw1]; exact (Only.refl _ w).alloc (fun _ h => h) _)
  have HA : Hid (Blk w1 w.heap.size 36 [.int .i64 2, .slice K kn kc]) := Lib.hid (by rw [hw1]; exact Blk.new w _ _)
  have HE1 := Lib.hid hw1
  have i0 : w1.cell? ⟨w.heap.size, 0, none⟩ = some (.int .i64 2) := HA.out.cell 0
  obtain ⟨z, hz⟩ : ∃ z, z = (n : Int) - 1 := ⟨_, rfl⟩
  have c1 : wrap64 ((n : Int) - 1) = z := by rw [hz]; exact IntWalk.wrap64_in _ (by omega)
  rw [← hz]
  have HZ := Lib.hid hz
  clear hw1 hn hz
  go_enter Try.func13, Try.ntmps13
  go_upto_region 1 with (fail)
  rw [← HE1.out]
  go_wp2
  go_ret
  first
    | exact ⟨rfl, HO1.out⟩
    | exact ⟨congrArg (fun q => Ending.returned (.int .i64 q)) c1, HO1.out⟩
end Go.Proofs.Ytnjhpjpeeehagaa

/-
  The document's Do: where a key leads.
-/
set_option linter.unusedVariables false
namespace Go.Proofs.Ytnjhpjpeeehagaa
open Go.RowKit

def SeekSays (w : World) (l : List It) (key : Bytes) (e : Ending) (w' : World) : Prop := Only (w.heap.size ≤ ·) w w' ∧ ((e = .returned (.int .i64 (-1)) ∧ ∀ (i : Nat) y, l[i]? = some y → cmp y.1 key < 0) ∨ ∃ (j : Nat) (y : It), e = .returned (.int .i64 (j : Nat)) ∧ l[j]? = some y ∧ ¬ cmp y.1 key < 0 ∧ ∀ (i : Nat) z, i < j → l[i]? = some z → cmp z.1 key < 0)
set_option maxRecDepth 100000 in
set_option maxHeartbeats 6400000 in
theorem CrDo_seek (w : World) (A : Option Addr) (n c : Nat) (l : List It) (h : Its w (.slice A n c) l) (at_ : Int) (K : Option Addr) (kn kc : Nat) (key : Bytes) (hk : Src w (.slice K kn kc) key) (hn : n ≤ 1000) : Calls Try.prog 13 #[.slice A n c, .int .i64 at_, .agg #[.int .i64 0, .slice K kn kc]] w (SeekSays w l key) := by
  obtain ⟨w1, hw1⟩ : ∃ W0, W0 = w.alloc (.cells #[.int .i64 0, .slice K kn kc] 36) := ⟨_, rfl⟩
  have HO1 : Hid (Only (w.heap.size ≤ ·) w w1) := Lib.hid (by rw [hw1]; exact (Only.refl _ w).alloc (fun _ h => h) _)
  have HA : Hid (Blk w1 w.heap.size 36 [.int .i64 0, .slice K kn kc]) := Lib.hid (by rw [hw1]; exact Blk.new w _ _)
  have HE1 := Lib.hid hw1
  have i0 : w1.cell? ⟨w.heap.size, 0, none⟩ = some (.int .i64 0) := HA.out.cell 0
  have HL := Lib.hid (Rw.later h HO1.out)
  have HK := Lib.hid (hk.later HO1.out)
  have HN := Lib.hid (And.intro hn h.len)
  clear hw1 hn h hk
  go_enter Try.func13, Try.ntmps13
  go_upto_region 1 with (fail)
  rw [← HE1.out]
  generalize hb5 : w.heap.size = b5 at HA i0 ⊢
  have HB5 : Hid (b5 = w.heap.size) := Lib.hid hb5.symm
  clear hb5 HE1
  go_wp2
  go_loopg [7] n (fun gk kv wr => ∃ j : Nat, gk = n - j ∧ kv = .int .i64 (j : Nat) ∧ j ≤ n ∧ Hid (∀ (i : Nat) z, i < j → l[i]? = some z → cmp z.1 key < 0) ∧ Hid (Only (w1.heap.size ≤ ·) w1 wr))
  case atStart => exact ⟨0, rfl, rfl, Nat.zero_le _, Lib.hid (fun i z hi _ => absurd hi (Nat.not_lt_zero i)), Lib.hid (Only.refl _ _)⟩
  case round =>
    obtain ⟨j, rfl, rfl, hj, HB, HO⟩ := hrel
    clear i0
    by_cases hlt : j < n
    · obtain ⟨ib, io, y, P, U, pc, uc, rfl, _, hy, e0, _, _, _, hks, _⟩ := its_at (Rw.later HL.out HO.out) hlt
      obtain ⟨ky, hky⟩ : ∃ z, z = y.1 := ⟨_, rfl⟩
      rw [← hky] at e0 hks
      obtain ⟨cv, hcv⟩ : ∃ z, z = cmp ky key := ⟨_, rfl⟩
      have HCM : Hid (∀ W, Only (wr.heap.size ≤ ·) wr W → Calls Try.prog 29 #[.slice P ky.length pc, .slice K kn kc] W (Told W (.int .i64 cv))) := Lib.hid (fun W hW => rCompare_b W _ _ ky key cv (hks.later hW) (HK.out.later (on_new HO.out hW)) hcv.symm)
      have KS : Hid (∀ W : World, Only (wr.heap.size ≤ ·) wr W → (fun W : World => W.cell? ⟨b5, 0, none⟩ = some (.int .i64 0) ∧ W.cell? ⟨b5, 1, none⟩ = some (.slice K kn kc) ∧ W.cell? ⟨ib, io + j * 4, none⟩ = some (.slice P ky.length pc)) W) := Lib.hid (fun W hW => ⟨(HA.out.only (on_new HO.out hW) (Nat.not_le.2 HA.out.lt)).cell 0, (HA.out.only (on_new HO.out hW) (Nat.not_le.2 HA.out.lt)).cell 1, cu_cell e0 hW⟩)
      have HXD : Hid (Only (wr.heap.size ≤ ·) wr wr.drew) := Lib.hid (Only.refl _ wr).drew
      have HSX := Lib.hid (KS.out _ HXD.out)
      have HY := Lib.hid (And.intro hy (And.intro hky hcv))
      have k1 : wrap64 ((j : Int) + 1) = ((j + 1 : Nat) : Int) := by rw [IntWalk.wrap64_in _ (by have h1 := HN.out.1; omega)]; omega
      clear hy hky hcv hks e0
      go_upto_region 13 with (fail)
      refine wp_region_list (B := [false, false, false, false, false, false, false, false, false, false, false, false, false, false]) (S := (fun W : World => W.cell? ⟨b5, 0, none⟩ = some (.int .i64 0) ∧ W.cell? ⟨b5, 1, none⟩ = some (.slice K kn kc) ∧ W.cell? ⟨ib, io + j * 4, none⟩ = some (.slice P ky.length pc))) (by kernel_rfl) (by kernel_rfl) (by kernel_rfl) HSX.out (fun hsel hHeld => ?_)
      generalize hwz : World.drew _ = wd at HSX HXD hHeld ⊢
      clear hwz
      refine oneA 0 48 hsel (h := ?_)
      simp only [Act.put, List.setIfInBounds_toArray, List.set_cons_zero, List.set_cons_succ]
      refine oneA 1 49 hsel (h := ?_)
      simp only [Act.put, List.setIfInBounds_toArray, List.set_cons_zero, List.set_cons_succ]
      refine oneA 2 50 hsel (h := ?_)
      simp only [Act.put, List.setIfInBounds_toArray, List.set_cons_zero, List.set_cons_succ]
      refine oneA 3 51 hsel (h := ?_)
      simp only [Act.put, List.setIfInBounds_toArray, List.set_cons_zero, List.set_cons_succ]
      refine oneA 4 52 hsel (h := ?_)
      simp only [Act.put, List.setIfInBounds_toArray, List.set_cons_zero, List.set_cons_succ]
      refine oneA 5 53 hsel (h := ?_)
      simp only [Act.put, List.setIfInBounds_toArray, List.set_cons_zero, List.set_cons_succ]
      refine oneA 6 54 hsel (h := ?_)
      simp only [Act.put, List.setIfInBounds_toArray, List.set_cons_zero, List.set_cons_succ]
      refine oneA 7 55 hsel (h := ?_)
      simp only [Act.put, List.setIfInBounds_toArray, List.set_cons_zero, List.set_cons_succ]
      refine oneA 8 56 hsel (h := ?_)
      simp only [Act.put, List.setIfInBounds_toArray, List.set_cons_zero, List.set_cons_succ]
      refine oneA 9 57 hsel (h := ?_)
      simp only [Act.put, List.setIfInBounds_toArray, List.set_cons_zero, List.set_cons_succ]
      refine oneA 10 58 hsel (h := ?_)
      simp only [Act.put, List.setIfInBounds_toArray, List.set_cons_zero, List.set_cons_succ]
      refine wpAnyL_ready (rs := [11]) (by kernel_rfl) (by kernel_rfl) (by simp) ?_
      refine AllReadyL.cons (o := ?_) ?_ (fun K hK => ?_) AllReadyL.nil
      case refine_2 => (simp only [List.getElem?_cons_succ, List.getElem?_cons_zero]; rfl)
      go_simp
      (go_at_call 29; (with_reducible refine (HCM.out _ HXD.out).mono ?_); rintro e we ⟨rfl, ho⟩; have HXE := Lib.hid (on_new HXD.out ho); clear ho)
      go_wp2_with (fail)
      clear hHeld
      refine hK.out _ _ (KS.out _ HXE.out) (fun hHeld => ?_)
      clear hK K
      try simp only [List.set_cons_zero, List.set_cons_succ]
      refine oneA 12 60 hsel (h := ?_)
      simp only [Act.put, List.setIfInBounds_toArray, List.set_cons_zero, List.set_cons_succ]
      refine oneA 13 61 hsel (h := ?_)
      simp only [Act.put, List.setIfInBounds_toArray, List.set_cons_zero, List.set_cons_succ]
      refine wpAnyL_done (by kernel_rfl) (by kernel_rfl) ?_ _
      clear hsel hHeld
      by_cases h0 : 0 ≤ cv
      · go_wp2
        go_ret
        refine ⟨on_new HO1.out (on_new HO.out HXE.out), .inr ⟨j, y, rfl, HY.out.1, ?_, HB.out⟩⟩
        rw [← HY.out.2.1, ← HY.out.2.2]
        omega
      · go_wp2
        go_roundg (n - (j + 1))
        case measure => (clear k1; omega)
        case rel =>
          refine ⟨j + 1, rfl, (by first | rfl | exact congrArg (Value.int .i64) k1), hlt, Lib.hid (fun i z hi hz => ?_), Lib.hid (on_new HO.out HXE.out)⟩
          rcases Nat.lt_or_ge i j with h1 | h1
          · exact HB.out i z h1 hz
          · obtain rfl : i = j := by omega
            rw [HY.out.1] at hz
            cases hz
            rw [← HY.out.2.1, ← HY.out.2.2]
            omega
    · obtain rfl : j = n := by omega
      go_wp2
      go_ret
      refine ⟨on_new HO1.out HO.out, .inl ⟨rfl, fun i z hz => HB.out i z ?_ hz⟩⟩
      rw [HN.out.2]
      exact (List.getElem?_eq_some_iff.1 hz).1
end Go.Proofs.Ytnjhpjpeeehagaa

/-
  The document's Do: to the first one.
-/
set_option linter.unusedVariables false
namespace Go.Proofs.Ytnjhpjpeeehagaa
open Go.RowKit

set_option maxRecDepth 100000 in
set_option maxHeartbeats 6400000 in
theorem CrDo_first (w : World) (A : Option Addr) (n c : Nat) (at_ : Int) (K : Option Addr) (kn kc : Nat) (hn : n ≤ 1000)  (z : Int) (hz : z = if n = 0 then -1 else 0) : Calls Try.prog 13 #[.slice A n c, .int .i64 at_, .agg #[.int .i64 1, .slice K kn kc]] w (Told w (.int .i64 z)) := by
  obtain ⟨w1, hw1⟩ : ∃ W0, W0 = w.alloc (.cells #[.int .i64 1, .slice K kn kc] 36) := ⟨_, rfl⟩
  have HO1 : Hid (Only (w.heap.size ≤ ·) w w1) := Lib.hid (by rw [hw1]; exact (Only.refl _ w).alloc (fun _ h => h) _)
  have HA : Hid (Blk w1 w.heap.size 36 [.int .i64 1, .slice K kn kc]) := Lib.hid (by rw [hw1]; exact Blk.new w _ _)
  have HE1 := Lib.hid hw1
  have i0 : w1.cell? ⟨w.heap.size, 0, none⟩ = some (.int .i64 1) := HA.out.cell 0
  have HZ := Lib.hid hz
  clear hw1 hn hz
  go_enter Try.func13, Try.ntmps13
  go_upto_region 1 with (fail)
  rw [← HE1.out]
  generalize hb5 : w.heap.size = b5 at HA i0 ⊢
  clear hb5 HE1
  go_wp2
  go_loopg [7] n (fun gk kv wr => gk = n ∧ kv = .int .i64 0 ∧ Hid (Only (w1.heap.size ≤ ·) w1 wr))
  case atStart => exact ⟨rfl, rfl, Lib.hid (Only.refl _ _)⟩
  case round =>
    obtain ⟨_, rfl, HO⟩ := hrel
    clear i0
    by_cases hlt : 0 < n
    · have HXD : Hid (Only (w1.heap.size ≤ ·) w1 wr.drew) := Lib.hid HO.out.drew
      have HSX : Hid ((fun W : World => W.cell? ⟨b5, 0, none⟩ = some (.int .i64 1)) wr.drew) := Lib.hid ((HA.out.only HXD.out (Nat.not_le.2 HA.out.lt)).cell 0)
      go_upto_region 13 with (fail)
      refine wp_region_list (B := [false, false, false, false, false, false, false, false, false, false, false, false, false, false]) (S := (fun W : World => W.cell? ⟨b5, 0, none⟩ = some (.int .i64 1))) (by kernel_rfl) (by kernel_rfl) (by kernel_rfl) HSX.out (fun hsel hHeld => ?_)
      generalize hwz : World.drew _ = wd at HSX HXD hHeld ⊢
      clear hwz
      refine oneA 0 48 hsel (h := ?_)
      simp only [Act.put, List.setIfInBounds_toArray, List.set_cons_zero, List.set_cons_succ]
      refine oneA 1 49 hsel (h := ?_)
      simp only [Act.put, List.setIfInBounds_toArray, List.set_cons_zero, List.set_cons_succ]
      refine oneA 2 50 hsel (h := ?_)
      simp only [Act.put, List.setIfInBounds_toArray, List.set_cons_zero, List.set_cons_succ]
      refine oneA 3 51 hsel (h := ?_)
      simp only [Act.put, List.setIfInBounds_toArray, List.set_cons_zero, List.set_cons_succ]
      refine take_skipL (i := 4) (d := 52) (oi := ?_) ?_ hsel (by kernel_rfl) (by kernel_rfl) (fun _ _ _ h => h) ?_ ?_ (by assumption) ?_
      case refine_2 => (simp only [List.getElem?_cons_succ, List.getElem?_cons_zero]; rfl)
      case refine_3 => rfl
      case refine_4 => rfl
      simp only [Act.put, List.setIfInBounds_toArray, List.set_cons_zero, List.set_cons_succ]
      refine take_skipL (i := 5) (d := 53) (oi := ?_) ?_ hsel (by kernel_rfl) (by kernel_rfl) (fun _ _ _ h => h) ?_ ?_ (by assumption) ?_
      case refine_2 => (simp only [List.getElem?_cons_succ, List.getElem?_cons_zero]; rfl)
      case refine_3 => rfl
      case refine_4 => rfl
      simp only [Act.put, List.setIfInBounds_toArray, List.set_cons_zero, List.set_cons_succ]
      refine take_skipL (i := 6) (d := 54) (oi := ?_) ?_ hsel (by kernel_rfl) (by kernel_rfl) (fun _ _ _ h => h) ?_ ?_ (by assumption) ?_
      case refine_2 => (simp only [List.getElem?_cons_succ, List.getElem?_cons_zero]; rfl)
      case refine_3 => rfl
      case refine_4 => rfl
      simp only [Act.put, List.setIfInBounds_toArray, List.set_cons_zero, List.set_cons_succ]
      refine take_skipL (i := 7) (d := 55) (oi := ?_) ?_ hsel (by kernel_rfl) (by kernel_rfl) (fun _ _ _ h => h) ?_ ?_ (by assumption) ?_
      case refine_2 => (simp only [List.getElem?_cons_succ, List.getElem?_cons_zero]; rfl)
      case refine_3 => rfl
      case refine_4 => rfl
      simp only [Act.put, List.setIfInBounds_toArray, List.set_cons_zero, List.set_cons_succ]
      refine take_skipL (i := 8) (d := 56) (oi := ?_) ?_ hsel (by kernel_rfl) (by kernel_rfl) (fun _ _ _ h => h) ?_ ?_ (by assumption) ?_
      case refine_2 => (simp only [List.getElem?_cons_succ, List.getElem?_cons_zero]; rfl)
      case refine_3 => rfl
      case refine_4 => rfl
      simp only [Act.put, List.setIfInBounds_toArray, List.set_cons_zero, List.set_cons_succ]
      refine take_skipL (i := 9) (d := 57) (oi := ?_) ?_ hsel (by kernel_rfl) (by kernel_rfl) (fun _ _ _ h => h) ?_ ?_ (by assumption) ?_
      case refine_2 => (simp only [List.getElem?_cons_succ, List.getElem?_cons_zero]; rfl)
      case refine_3 => rfl
      case refine_4 => rfl
      simp only [Act.put, List.setIfInBounds_toArray, List.set_cons_zero, List.set_cons_succ]
      refine take_skipL (i := 10) (d := 58) (oi := ?_) ?_ hsel (by kernel_rfl) (by kernel_rfl) (fun _ _ _ h => h) ?_ ?_ (by assumption) ?_
      case refine_2 => (simp only [List.getElem?_cons_succ, List.getElem?_cons_zero]; rfl)
      case refine_3 => rfl
      case refine_4 => rfl
      simp only [Act.put, List.setIfInBounds_toArray, List.set_cons_zero, List.set_cons_succ]
      refine take_skipL (i := 11) (d := 59) (oi := ?_) ?_ hsel (by kernel_rfl) (by kernel_rfl) (fun _ _ _ h => h) ?_ ?_ (by assumption) ?_
      case refine_2 => (simp only [List.getElem?_cons_succ, List.getElem?_cons_zero]; rfl)
      case refine_3 => rfl
      case refine_4 => rfl
      simp only [Act.put, List.setIfInBounds_toArray, List.set_cons_zero, List.set_cons_succ]
      refine take_skipL (i := 12) (d := 60) (oi := ?_) ?_ hsel (by kernel_rfl) (by kernel_rfl) (fun _ _ _ h => h) ?_ ?_ (by assumption) ?_
      case refine_2 => (simp only [List.getElem?_cons_succ, List.getElem?_cons_zero]; rfl)
      case refine_3 => rfl
      case refine_4 => rfl
      simp only [Act.put, List.setIfInBounds_toArray, List.set_cons_zero, List.set_cons_succ]
      refine oneA 13 61 hsel (h := ?_)
      simp only [Act.put, List.setIfInBounds_toArray, List.set_cons_zero, List.set_cons_succ]
      refine wpAnyL_done (by kernel_rfl) (by kernel_rfl) ?_ _
      clear hsel hHeld
      go_wp2
      go_ret
      exact ⟨by rw [HZ.out, if_neg (by omega)]; rfl, on_new HO1.out HXD.out⟩
    · obtain rfl : n = 0 := by omega
      go_wp2
      go_ret
      exact ⟨by rw [HZ.out]; rfl, on_new HO1.out HO.out⟩
set_option maxRecDepth 100000 in
set_option maxHeartbeats 6400000 in
theorem CrDo_on (w : World) (A : Option Addr) (n c : Nat) (at_ : Int) (K : Option Addr) (kn kc : Nat) (hn : n ≤ 1000) (h0 : at_ < 0) (z : Int) (hz : z = if n = 0 then -1 else 0) : Calls Try.prog 13 #[.slice A n c, .int .i64 at_, .agg #[.int .i64 3, .slice K kn kc]] w (Told w (.int .i64 z)) := by
  obtain ⟨w1, hw1⟩ : ∃ W0, W0 = w.alloc (.cells #[.int .i64 3, .slice K kn kc] 36) := ⟨_, rfl⟩
  have HO1 : Hid (Only (w.heap.size ≤ ·) w w1) := Lib.hid (by rw [hw1]; exact (Only.refl _ w).alloc (fun _ h => h) _)
  have HA : Hid (Blk w1 w.heap.size 36 [.int .i64 3, .slice K kn kc]) := Lib.hid (by rw [hw1]; exact Blk.new w _ _)
  have HE1 := Lib.hid hw1
  have i0 : w1.cell? ⟨w.heap.size, 0, none⟩ = some (.int .i64 3) := HA.out.cell 0
  have HZ := Lib.hid hz
  have c2 : ¬ 0 ≤ at_ := by omega
  clear hw1 hn hz
  go_enter Try.func13, Try.ntmps13
  go_upto_region 1 with (fail)
  rw [← HE1.out]
  generalize hb5 : w.heap.size = b5 at HA i0 ⊢
  clear hb5 HE1
  go_wp2
  go_loopg [7] n (fun gk kv wr => gk = n ∧ kv = .int .i64 0 ∧ Hid (Only (w1.heap.size ≤ ·) w1 wr))
  case atStart => exact ⟨rfl, rfl, Lib.hid (Only.refl _ _)⟩
  case round =>
    obtain ⟨_, rfl, HO⟩ := hrel
    clear i0
    by_cases hlt : 0 < n
    · have HXD : Hid (Only (w1.heap.size ≤ ·) w1 wr.drew) := Lib.hid HO.out.drew
      have HSX : Hid ((fun W : World => W.cell? ⟨b5, 0, none⟩ = some (.int .i64 3)) wr.drew) := Lib.hid ((HA.out.only HXD.out (Nat.not_le.2 HA.out.lt)).cell 0)
      go_upto_region 13 with (fail)
      refine wp_region_list (B := [false, false, false, false, false, false, false, false, false, false, false, false, false, false]) (S := (fun W : World => W.cell? ⟨b5, 0, none⟩ = some (.int .i64 3))) (by kernel_rfl) (by kernel_rfl) (by kernel_rfl) HSX.out (fun hsel hHeld => ?_)
      generalize hwz : World.drew _ = wd at HSX HXD hHeld ⊢
      clear hwz
      refine oneA 0 48 hsel (h := ?_)
      simp only [Act.put, List.setIfInBounds_toArray, List.set_cons_zero, List.set_cons_succ]
      refine oneA 1 49 hsel (h := ?_)
      simp only [Act.put, List.setIfInBounds_toArray, List.set_cons_zero, List.set_cons_succ]
      refine oneA 2 50 hsel (h := ?_)
      simp only [Act.put, List.setIfInBounds_toArray, List.set_cons_zero, List.set_cons_succ]
      refine oneA 3 51 hsel (h := ?_)
      simp only [Act.put, List.setIfInBounds_toArray, List.set_cons_zero, List.set_cons_succ]
      refine take_skipL (i := 4) (d := 52) (oi := ?_) ?_ hsel (by kernel_rfl) (by kernel_rfl) (fun _ _ _ h => h) ?_ ?_ (by assumption) ?_
      case refine_2 => (simp only [List.getElem?_cons_succ, List.getElem?_cons_zero]; rfl)
      case refine_3 => rfl
      case refine_4 => rfl
      simp only [Act.put, List.setIfInBounds_toArray, List.set_cons_zero, List.set_cons_succ]
      refine take_skipL (i := 5) (d := 53) (oi := ?_) ?_ hsel (by kernel_rfl) (by kernel_rfl) (fun _ _ _ h => h) ?_ ?_ (by assumption) ?_
      case refine_2 => (simp only [List.getElem?_cons_succ, List.getElem?_cons_zero]; rfl)
      case refine_3 => rfl
      case refine_4 => rfl
      simp only [Act.put, List.setIfInBounds_toArray, List.set_cons_zero, List.set_cons_succ]
      refine take_skipL (i := 6) (d := 54) (oi := ?_) ?_ hsel (by kernel_rfl) (by kernel_rfl) (fun _ _ _ h => h) ?_ ?_ (by assumption) ?_
      case refine_2 => (simp only [List.getElem?_cons_succ, List.getElem?_cons_zero]; rfl)
      case refine_3 => rfl
      case refine_4 => rfl
      simp only [Act.put, List.setIfInBounds_toArray, List.set_cons_zero, List.set_cons_succ]
      refine take_skipL (i := 7) (d := 55) (oi := ?_) ?_ hsel (by kernel_rfl) (by kernel_rfl) (fun _ _ _ h => h) ?_ ?_ (by assumption) ?_
      case refine_2 => (simp only [List.getElem?_cons_succ, List.getElem?_cons_zero]; rfl)
      case refine_3 => rfl
      case refine_4 => rfl
      simp only [Act.put, List.setIfInBounds_toArray, List.set_cons_zero, List.set_cons_succ]
      refine take_skipL (i := 8) (d := 56) (oi := ?_) ?_ hsel (by kernel_rfl) (by kernel_rfl) (fun _ _ _ h => h) ?_ ?_ (by assumption) ?_
      case refine_2 => (simp only [List.getElem?_cons_succ, List.getElem?_cons_zero]; rfl)
      case refine_3 => rfl
      case refine_4 => rfl
      simp only [Act.put, List.setIfInBounds_toArray, List.set_cons_zero, List.set_cons_succ]
      refine take_skipL (i := 9) (d := 57) (oi := ?_) ?_ hsel (by kernel_rfl) (by kernel_rfl) (fun _ _ _ h => h) ?_ ?_ (by assumption) ?_
      case refine_2 => (simp only [List.getElem?_cons_succ, List.getElem?_cons_zero]; rfl)
      case refine_3 => rfl
      case refine_4 => rfl
      simp only [Act.put, List.setIfInBounds_toArray, List.set_cons_zero, List.set_cons_succ]
      refine take_skipL (i := 10) (d := 58) (oi := ?_) ?_ hsel (by kernel_rfl) (by kernel_rfl) (fun _ _ _ h => h) ?_ ?_ (by assumption) ?_
      case refine_2 => (simp only [List.getElem?_cons_succ, List.getElem?_cons_zero]; rfl)
      case refine_3 => rfl
      case refine_4 => rfl
      simp only [Act.put, List.setIfInBounds_toArray, List.set_cons_zero, List.set_cons_succ]
      refine take_skipL (i := 11) (d := 59) (oi := ?_) ?_ hsel (by kernel_rfl) (by kernel_rfl) (fun _ _ _ h => h) ?_ ?_ (by assumption) ?_
      case refine_2 => (simp only [List.getElem?_cons_succ, List.getElem?_cons_zero]; rfl)
      case refine_3 => rfl
      case refine_4 => rfl
      simp only [Act.put, List.setIfInBounds_toArray, List.set_cons_zero, List.set_cons_succ]
      refine take_skipL (i := 12) (d := 60) (oi := ?_) ?_ hsel (by kernel_rfl) (by kernel_rfl) (fun _ _ _ h => h) ?_ ?_ (by assumption) ?_
      case refine_2 => (simp only [List.getElem?_cons_succ, List.getElem?_cons_zero]; rfl)
      case refine_3 => rfl
      case refine_4 => rfl
      simp only [Act.put, List.setIfInBounds_toArray, List.set_cons_zero, List.set_cons_succ]
      refine oneA 13 61 hsel (h := ?_)
      simp only [Act.put, List.setIfInBounds_toArray, List.set_cons_zero, List.set_cons_succ]
      refine wpAnyL_done (by kernel_rfl) (by kernel_rfl) ?_ _
      clear hsel hHeld
      go_wp2
      go_ret
      exact ⟨by rw [HZ.out, if_neg (by omega)]; rfl, on_new HO1.out HXD.out⟩
    · obtain rfl : n = 0 := by omega
      go_wp2
      go_ret
      exact ⟨by rw [HZ.out]; rfl, on_new HO1.out HO.out⟩
end Go.Proofs.Ytnjhpjpeeehagaa

/-
  settle, where it ends in its first round.
-/
set_option linter.unusedVariables false
namespace Go.Proofs.Ytnjhpjpeeehagaa
open Go.RowKit

set_option maxRecDepth 100000 in
set_option maxHeartbeats 6400000 in
theorem settle_stop (w : World) (cb : Nat) (S V : Value) (root : Int) (hc : Blk w cb 75 [S, .int .i64 root, V]) (A : Option Addr) (n c : Nat) (er side : Int) (he : er ≠ 0 ∨ n = 0) : Calls Try.prog 31 #[.pointer (some ⟨cb, 0, none⟩), .slice A n c, .int .i64 er, .int .i64 side] w fun e w' => e = .returned (.tuple #[.agg #[.slice none 0 0, .slice none 0 0, .int .i64 0, .int .i64 0], .bool false, .int .i64 er]) ∧ Blk w' cb 75 [S, .int .i64 root, .slice none 0 0] ∧ Only (fun j => j = cb ∨ w.heap.size ≤ j) w w' := by
  have HER := Lib.hid he
  clear he
  obtain ⟨w1, hw1⟩ : ∃ W0, W0 = w.alloc (.cells #[.slice none 0 0, .slice none 0 0, .int .i64 0, .int .i64 0] 39) := ⟨_, rfl⟩
  have HO1 : Hid (Only (w.heap.size ≤ ·) w w1) := Lib.hid (by rw [hw1]; exact (Only.refl _ w).alloc (fun _ h => h) _)
  have HB8 : Hid (Blk w1 w.heap.size 39 [.slice none 0 0, .slice none 0 0, .int .i64 0, .int .i64 0]) := Lib.hid (by rw [hw1]; exact Blk.new w _ _)
  have HC1 : Hid (Blk w1 cb 75 [S, .int .i64 root, V]) := Lib.hid (hc.only HO1.out (Nat.not_le.2 hc.lt))
  have HLT : Hid (cb < w.heap.size) := Lib.hid hc.lt
  obtain ⟨w2, hw2⟩ : ∃ W0, W0 = w1.setCell ⟨cb, 2, none⟩ (.slice none 0 0) := ⟨_, rfl⟩
  have HS2 : Hid (Only (fun j => j = cb) w1 w2) := Lib.hid (by rw [hw2]; exact (Only.refl (fun j => j = cb) w1).setCell (p := ⟨cb, 2, none⟩) rfl _)
  have HC2 : Hid (Blk w2 cb 75 [S, .int .i64 root, .slice none 0 0]) := Lib.hid (by rw [hw2]; exact HC1.out.set_ 2 _)
  have HB82 : Hid (Blk w2 w.heap.size 39 [.slice none 0 0, .slice none 0 0, .int .i64 0, .int .i64 0]) := Lib.hid (HB8.out.only HS2.out (fun e => by have h1 := HLT.out; have h2 : w.heap.size = cb := e; omega))
  have HE1 := Lib.hid hw1
  have HE2 := Lib.hid hw2
  have j2 : w1.cell? ⟨cb, 2, none⟩ = some V := HC1.out.cell 2
  have f2 := HC1.out.frozen 2
  clear hw1 hw2 hc
  go_enter Try.func31, Try.ntmps31
  go_upto_region 1 with (fail)
  rw [← HE1.out]
  go_upto_region 2 with (fail)
  rw [← HE2.out]
  clear j2 f2 HE1 HE2
  go_wp2
  go_loopg [1, 2, 11] 1 (fun gk pv ev lv wr => gk = 1 ∧ pv = .slice A n c ∧ ev = .int .i64 er ∧ lv = .int .i64 1 ∧ Hid (wr = w2))
  case atStart => exact ⟨rfl, rfl, rfl, rfl, Lib.hid rfl⟩
  case round =>
    obtain ⟨_, rfl, rfl, rfl, HW⟩ := hrel
    have hz := HW.out
    subst hz
    have HFIN : Hid (∀ W', Only (fun k => k = w.heap.size) wr W' → Blk W' cb 75 [S, .int .i64 root, .slice none 0 0] ∧ Only (fun j => j = cb ∨ w.heap.size ≤ j) w W') := Lib.hid (fun W' hW => ⟨HC2.out.only hW (fun e => by have h1 := HLT.out; have h2 : cb = w.heap.size := e; omega), ((HO1.out.mono fun j h => .inr h).trans (HS2.out.mono fun j h => .inl h)).trans (hW.mono fun j h => .inr (Nat.le_of_eq h.symm))⟩)
    obtain ⟨q0, q1, q2, q3⟩ := HB82.out.four
    have f0 := HB82.out.frozen 0
    have f1 := HB82.out.frozen 1
    have f2 := HB82.out.frozen 2
    have f3 := HB82.out.frozen 3
    by_cases e0 : er = 0
    · obtain rfl : n = 0 := HER.out.resolve_left (fun h => h e0)
      subst e0
      go_wp2
      have hk := it_set (a' := .slice none 0 0) (b' := .slice none 0 0) (c' := .int .i64 0) (d' := .int .i64 0) HB82.out
      refine bodyPost_ret (results_cell3 rfl rfl rfl rfl (load_item hk.1)) rfl ?_
      exact ⟨rfl, HFIN.out _ hk.2⟩
    · go_wp2
      have hk := it_set (a' := .slice none 0 0) (b' := .slice none 0 0) (c' := .int .i64 0) (d' := .int .i64 0) HB82.out
      refine bodyPost_ret (results_cell3 rfl rfl rfl rfl (load_item hk.1)) rfl ?_
      exact ⟨rfl, HFIN.out _ hk.2⟩
end Go.Proofs.Ytnjhpjpeeehagaa

/-
  settle, where the way leads to an item at once.
-/
set_option linter.unusedVariables false
namespace Go.Proofs.Ytnjhpjpeeehagaa
open Go.RowKit

/-- The block in which a slice lies. -/
def AtV (v : Value) (j : Nat) : Prop := ∃ A n c ad, v = .slice A n c ∧ A = some ad ∧ ad.block = j
theorem New.atV {w : World} {b : Nat} {v : Value} {xs : Bytes} (h : New w b v xs) {j : Nat} (hj : AtV v j) : b ≤ j ∧ j < w.heap.size := by
  obtain ⟨A, c, rfl, _, _, _, _, h6⟩ := h
  obtain ⟨A', n', c', ad, e, e2, e3⟩ := hj
  cases e
  rw [← e3]
  exact h6 ad e2
set_option maxRecDepth 100000 in
set_option maxHeartbeats 6400000 in
theorem settle_in (w : World) (D : Nat → Prop) (B cb : Nat) (S V : Value) (root : Int) (hc : Blk w cb 75 [S, .int .i64 root, V]) (hcD : D cb) (A : Option Addr) (n c : Nat) (p : List Sp) (hp : PathO D B w A n c p) (hn2 : n ≤ 1000) (sr : Int) (x : Nd) (K : Nat) (hl : p.getLast? = some (sr, x, (K : Int))) (y : It) (hy : x.its[K]? = some y) (hs : Sml x) (side : Int) : Calls Try.prog 31 #[.pointer (some ⟨cb, 0, none⟩), .slice A n c, .int .i64 0, .int .i64 side] w fun e w' => ∃ v u, e = .returned (.tuple #[.agg #[v, u, .int .i64 y.2.2.1, .int .i64 y.2.2.2], .bool true, .int .i64 0]) ∧ New w' w.heap.size v y.1 ∧ New w' w.heap.size u y.2.1 ∧ Blk w' cb 75 [S, .int .i64 root, .slice A n c] ∧ PathO (fun j => D j ∨ AtV v j ∨ AtV u j) B w' A n c p ∧ Only (fun j => j = cb ∨ w.heap.size ≤ j) w w' := by
  have hn : n = p.length := by obtain ⟨C, h1, _⟩ := hp; exact h1
  have HP0 := Lib.hid hp
  have HCD := Lib.hid hcD
  have hpos : 0 < n := by rw [hn]; exact List.length_pos_iff.2 (fun e => by rw [e] at hl; cases hl)
  obtain ⟨ky, hky⟩ : ∃ z, z = y.1 := ⟨_, rfl⟩
  obtain ⟨vy, hvy⟩ : ∃ z, z = y.2.1 := ⟨_, rfl⟩
  obtain ⟨i2, hi2⟩ : ∃ z, z = y.2.2.1 := ⟨_, rfl⟩
  obtain ⟨i3, hi3⟩ : ∃ z, z = y.2.2.2 := ⟨_, rfl⟩
  rw [← hky, ← hvy, ← hi2, ← hi3]
  have HFY : Hid (∀ W : World, Sps W (.slice A n c) p → Calls Try.prog 42 #[.slice A n c] W fun e w' => ∃ v u, e = .returned (.tuple #[.agg #[v, u, .int .i64 i2, .int .i64 i3], .bool true]) ∧ New w' W.heap.size v ky ∧ New w' W.heap.size u vy ∧ Only (W.heap.size ≤ ·) W w') := Lib.hid (fun W hW => by rw [hky, hvy, hi2, hi3]; exact found_yes W A n c p hW hn hn2 sr x K hl y hy hs)
  clear hp hn hn2 hcD hl hy hs hky hvy hi2 hi3
  obtain ⟨w1, hw1⟩ : ∃ W0, W0 = w.alloc (.cells #[.slice none 0 0, .slice none 0 0, .int .i64 0, .int .i64 0] 39) := ⟨_, rfl⟩
  have HO1 : Hid (Only (w.heap.size ≤ ·) w w1) := Lib.hid (by rw [hw1]; exact (Only.refl _ w).alloc (fun _ h => h) _)
  have HB8 : Hid (Blk w1 w.heap.size 39 [.slice none 0 0, .slice none 0 0, .int .i64 0, .int .i64 0]) := Lib.hid (by rw [hw1]; exact Blk.new w _ _)
  have HC1 : Hid (Blk w1 cb 75 [S, .int .i64 root, V]) := Lib.hid (hc.only HO1.out (Nat.not_le.2 hc.lt))
  have HLT : Hid (cb < w.heap.size) := Lib.hid hc.lt
  obtain ⟨w2, hw2⟩ : ∃ W0, W0 = w1.setCell ⟨cb, 2, none⟩ (.slice none 0 0) := ⟨_, rfl⟩
  have HS2 : Hid (Only (fun j => j = cb) w1 w2) := Lib.hid (by rw [hw2]; exact (Only.refl (fun j => j = cb) w1).setCell (p := ⟨cb, 2, none⟩) rfl _)
  have HC2 : Hid (Blk w2 cb 75 [S, .int .i64 root, .slice none 0 0]) := Lib.hid (by rw [hw2]; exact HC1.out.set_ 2 _)
  have HB82 : Hid (Blk w2 w.heap.size 39 [.slice none 0 0, .slice none 0 0, .int .i64 0, .int .i64 0]) := Lib.hid (HB8.out.only HS2.out (fun e => by have h1 := HLT.out; have h2 : w.heap.size = cb := e; omega))
  have HE1 := Lib.hid hw1
  have HE2 := Lib.hid hw2
  have j2 : w1.cell? ⟨cb, 2, none⟩ = some V := HC1.out.cell 2
  have f2 := HC1.out.frozen 2
  clear hw1 hw2 hc
  go_enter Try.func31, Try.ntmps31
  go_upto_region 1 with (fail)
  rw [← HE1.out]
  go_upto_region 2 with (fail)
  rw [← HE2.out]
  clear j2 f2 HE1 HE2
  have HP2 : Hid (PathO (fun j => D j ∨ j = w.heap.size) B w2 A n c p) := Lib.hid ((HP0.out.step (D' := fun j => D j ∨ j = w.heap.size) (HO1.out.mono fun j h => .inr h) (fun j h => h.imp id fun h => Nat.le_of_eq h.symm)).step (HS2.out.mono fun j h => .inl (.inl (h ▸ HCD.out))) fun j h => .inl h)
  have HOW : Hid (Only (fun j => j = cb ∨ w.heap.size ≤ j) w w2) := Lib.hid ((HO1.out.mono fun j h => .inr h).trans (HS2.out.mono fun j h => .inl h))
  have HSZ0 : Hid (w.heap.size ≤ w2.heap.size) := Lib.hid HOW.out.size
  go_wp2
  go_loopg [1, 2, 11] 1 (fun gk pv ev lv wr => gk = 1 ∧ pv = .slice A n c ∧ ev = .int .i64 0 ∧ lv = .int .i64 1 ∧ Hid (wr = w2))
  case atStart => exact ⟨rfl, rfl, rfl, rfl, Lib.hid rfl⟩
  case round =>
    obtain ⟨_, rfl, rfl, rfl, HW⟩ := hrel
    have hz := HW.out
    subst hz
    clear HW
    have hpos' : (0 : Int) < (n : Int) := by omega
    go_upto_region 7 with (go_at_call 42; (with_reducible refine (HFY.out _ HP2.out.sps).mono ?_); rintro e w3 ⟨v, u, rfl, hv, hu, ho⟩; (obtain ⟨P, pc, rfl, hvr⟩ := hv); (obtain ⟨U, uc, rfl, hur⟩ := hu); have HV : Hid (New w3 wr.heap.size (.slice P ky.length pc) ky) := Lib.hid ⟨P, pc, rfl, hvr⟩; have HU : Hid (New w3 wr.heap.size (.slice U vy.length uc) vy) := Lib.hid ⟨U, uc, rfl, hur⟩; have HO3 := Lib.hid ho; clear hvr hur ho)
    obtain ⟨w4, hw4⟩ : ∃ W0, W0 = w3.alloc (.cells #[.slice P ky.length pc, .slice U vy.length uc, .int .i64 i2, .int .i64 i3] 39) := ⟨_, rfl⟩
    have HO4 : Hid (Only (w3.heap.size ≤ ·) w3 w4) := Lib.hid (by rw [hw4]; exact (Only.refl _ w3).alloc (fun _ h => h) _)
    have HB12 : Hid (Blk w4 w3.heap.size 39 [.slice P ky.length pc, .slice U vy.length uc, .int .i64 i2, .int .i64 i3]) := Lib.hid (by rw [hw4]; exact Blk.new w3 _ _)
    rw [← hw4]
    clear hw4
    have HX4 := Lib.hid (on_new HO3.out HO4.out)
    have HC4 := Lib.hid (HC2.out.only HX4.out (Nat.not_le.2 HC2.out.lt))
    have HB84 := Lib.hid (HB82.out.only HX4.out (Nat.not_le.2 HB82.out.lt))
    have HSZ := Lib.hid (And.intro HO3.out.size HSZ0.out)
    obtain ⟨w5, hw5⟩ : ∃ W0, W0 = w4.setCell ⟨cb, 2, none⟩ (.slice A n c) := ⟨_, rfl⟩
    have HS5 : Hid (Only (fun j => j = cb) w4 w5) := Lib.hid (by rw [hw5]; exact (Only.refl (fun j => j = cb) w4).setCell (p := ⟨cb, 2, none⟩) rfl _)
    have HC5 : Hid (Blk w5 cb 75 [S, .int .i64 root, .slice A n c]) := Lib.hid (by rw [hw5]; exact HC4.out.set_ 2 _)
    have HE5 := Lib.hid hw5
    clear hw5
    generalize hb12 : w3.heap.size = b12 at HB12 ⊢
    have HBN : Hid (w3.heap.size = b12) := Lib.hid hb12
    clear hb12
    have j2 : w4.cell? ⟨cb, 2, none⟩ = some (.slice none 0 0) := HC4.out.cell 2
    have f2 := HC4.out.frozen 2
    go_upto_region 9 with (fail)
    rw [← HE5.out]
    clear HE5 j2 f2
    have hne : ∀ k, w.heap.size ≤ k → k ≠ cb := fun k hk e => by have h1 := HLT.out; omega
    have HB125 := Lib.hid (HB12.out.only HS5.out (hne _ (by have h1 := HSZ.out; have h2 := HBN.out; omega)))
    have HB85 := Lib.hid (HB84.out.only HS5.out (hne _ (Nat.le_refl _)))
    obtain ⟨r0, r1, r2, r3⟩ := HB125.out.four
    obtain ⟨q0, q1, q2, q3⟩ := HB85.out.four
    have f0 := HB85.out.frozen 0
    have f1 := HB85.out.frozen 1
    have f2 := HB85.out.frozen 2
    have f3 := HB85.out.frozen 3
    clear hne
    go_wp2
    have hk := it_set (a' := .slice P ky.length pc) (b' := .slice U vy.length uc) (c' := .int .i64 i2) (d' := .int .i64 i3) HB85.out
    refine bodyPost_ret (results_cell3 rfl rfl rfl rfl (load_item hk.1)) rfl ?_
    have hwr : w.heap.size < wr.heap.size := HB82.out.lt
    have hcw := HLT.out
    have hON : Only (fun j => j = cb ∨ j = w.heap.size) w4 _ := (HS5.out.mono fun j h => .inl h).trans (hk.2.mono fun j h => .inr h)
    have hALL := (HOW.out.trans (HX4.out.mono (G := fun j => j = cb ∨ w.heap.size ≤ j) fun j h => .inr (by omega))).trans (hON.mono (G := fun j => j = cb ∨ w.heap.size ≤ j) fun j h => h.elim (fun h => .inl h) fun h => .inr (Nat.le_of_eq h.symm))
    have hAV : ∀ j, AtV (.slice P ky.length pc) j ∨ AtV (.slice U vy.length uc) j → wr.heap.size ≤ j := fun j hj => hj.elim (fun h => (HV.out.atV h).1) fun h => (HU.out.atV h).1
    have hPT := ((HP2.out.step (D' := fun j => (D j ∨ j = w.heap.size) ∨ AtV (.slice P ky.length pc) j ∨ AtV (.slice U vy.length uc) j) (HX4.out.mono fun j hj => .inr hj) (fun j hj => hj.imp id (hAV j)))).step (D' := fun j => D j ∨ AtV (.slice P ky.length pc) j ∨ AtV (.slice U vy.length uc) j) (hON.mono fun j h => .inl (.inl (h.elim (fun h => .inl (h ▸ HCD.out)) fun h => .inr h))) (fun j h => .inl (h.imp .inl id))
    have hNV := ((HV.out.later HO4.out).keep hON (fun k h1 _ e => by omega)).mono (Nat.le_of_lt hwr)
    have hNU := ((HU.out.later HO4.out).keep hON (fun k h1 _ e => by omega)).mono (Nat.le_of_lt hwr)
    have hCE := HC5.out.only hk.2 (fun e => by have h2 : cb = w.heap.size := e; omega)
    exact ⟨_, _, rfl, hNV, hNU, hCE, hPT, hALL⟩
end Go.Proofs.Ytnjhpjpeeehagaa

/-
  settle, where the way leads beside its leaf.
-/
set_option linter.unusedVariables false
namespace Go.Proofs.Ytnjhpjpeeehagaa
open Go.RowKit

/-- What aside leaves. -/
def Fin3 (D : Nat → Prop) (B : Nat) (w : World) (o : Option (Int × List Sp)) (A : Option Addr) (n c : Nat) (er : Int) : Prop := (n = 0 ∧ er = 0 ∧ o = none) ∨ (er ≠ 0 ∧ ∃ q, o = some (er, q)) ∨ (er = 0 ∧ ∃ q, o = some (0, q) ∧ PathO D B w A n c q)
theorem aside_fin {D : Nat → Prop} {B g : Nat} {w w' : World} {o : Option (Int × List Sp)} {e : Ending} (h : AsideSays D B w g o e w') (h12 : ∀ q, o = some (0, q) → q.length ≤ 12) : ∃ A n c er, e = .returned (.tuple #[.slice A n c, .int .i64 er]) ∧ Only (fun j => j = g ∨ w.heap.size ≤ j) w w' ∧ Fin3 D B w' o A n c er := by
  obtain ⟨ho, ⟨h1, h2⟩ | ⟨er, q, A, n, c, h1, h2, h3⟩⟩ := h
  · exact ⟨_, _, _, _, h2, ho, .inl ⟨rfl, rfl, h1⟩⟩
  · by_cases he : er = 0
    · subst he
      have h4 := h12 q h1
      rw [if_neg (fun h => by omega)] at h2
      exact ⟨_, _, _, _, h2, ho, .inr (.inr ⟨rfl, q, h1, h3 rfl⟩)⟩
    · rw [if_neg (fun h => he h.1)] at h2
      exact ⟨_, _, _, _, h2, ho, .inr (.inl ⟨he, q, h1⟩)⟩
def FarSays (D : Nat → Prop) (B : Nat) (w : World) (cb g : Nat) (S : Value) (root : Int) (o : Option (Int × List Sp)) (e : Ending) (w' : World) : Prop :=
  Only (fun j => j = cb ∨ j = g ∨ w.heap.size ≤ j) w w' ∧ ((∃ er, (er = 0 ∧ o = none ∨ er ≠ 0 ∧ ∃ q, o = some (er, q)) ∧ e = .returned (.tuple #[.agg #[.slice none 0 0, .slice none 0 0, .int .i64 0, .int .i64 0], .bool false, .int .i64 er]) ∧ Blk w' cb 75 [S, .int .i64 root, .slice none 0 0]) ∨
    ∃ (q : List Sp) (sr : Int) (x : Nd) (K : Nat) (y : It) (v u : Value) (A : Option Addr) (n c : Nat), o = some (0, q) ∧ q.getLast? = some (sr, x, (K : Int)) ∧ x.its[K]? = some y ∧ e = .returned (.tuple #[.agg #[v, u, .int .i64 y.2.2.1, .int .i64 y.2.2.2], .bool true, .int .i64 0]) ∧ New w' w.heap.size v y.1 ∧ New w' w.heap.size u y.2.1 ∧ Blk w' cb 75 [S, .int .i64 root, .slice A n c] ∧ PathO (fun j => D j ∨ AtV v j ∨ AtV u j) B w' A n c q)
set_option maxRecDepth 100000 in
set_option maxHeartbeats 12800000 in
theorem settle_far (Ex : Nat → Prop) (w0 w : World) (B cb : Nat) (S : Value) (ed : Bool → Int → Int × List Sp) (hED : ∀ W, Lat Ex w0 W → ∀ lb ref, Calls Try.prog 30 #[S, .int .i64 ref, .bool lb] W (DownOwn W (ed lb ref))) (hel : ∀ lb ref, (ed lb ref).2.length ≤ 12) (root : Int) (V : Value) (h00 : Lat Ex w0 w) (hc : Blk w cb 75 [S, .int .i64 root, V]) (D : Nat → Prop) (hD : ∀ j, D j → j < w.heap.size) (hcD : D cb) (hB : w0.heap.size ≤ B) (hcw0 : w0.heap.size ≤ cb) (g n c : Nat) (p : List Sp) (hp : PathO D B w (some ⟨g, 0, none⟩) n c p) (hn0 : 0 < n) (hn : n ≤ 12) (side : Int) (hs : side = 1 ∨ side = -1) (hbr : ∀ (k : Nat) (s : Sp), p[k]? = some s → k + 1 < p.length → 0 ≤ s.2.2 ∧ s.2.2 < s.2.1.kds.length ∧ Sml s.2.1) (sr : Int) (x : Nd) (KX : Int) (hl : p.getLast? = some (sr, x, KX)) (hK : KX < 0 ∨ (x.its.length : Int) ≤ KX) (hres : ∀ q, asideG ed side p = some (0, q) → q.length ≤ 12 ∧ ∃ (sr : Int) (x : Nd) (K : Nat) (y : It), q.getLast? = some (sr, x, (K : Int)) ∧ x.its[K]? = some y ∧ Sml x) : Calls Try.prog 31 #[.pointer (some ⟨cb, 0, none⟩), .slice (some ⟨g, 0, none⟩) n c, .int .i64 0, .int .i64 side] w (FarSays D B w cb g S root (asideG ed side p)) := by
  have hnp : n = p.length := by obtain ⟨C, h1, _⟩ := hp; exact h1
  have HP0 := Lib.hid hp
  have HCD := Lib.hid hcD
  have HRS := Lib.hid hres
  have HFN : Hid (∀ W : World, Sps W (.slice (some ⟨g, 0, none⟩) n c) p → Calls Try.prog 42 #[.slice (some ⟨g, 0, none⟩) n c] W (Told W (.tuple #[.agg #[.slice none 0 0, .slice none 0 0, .int .i64 0, .int .i64 0], .bool false]))) := Lib.hid (fun W hW => found_no W _ n c p hW hnp (by omega) sr x KX hl hK)
  have HNN := Lib.hid (And.intro hn0 hn)
  have HAS : Hid (∀ (V : Value) (W : World), Lat Ex w0 W → Blk W cb 75 [S, .int .i64 root, V] → ∀ D1 : Nat → Prop, (∀ j, D1 j → j < W.heap.size) → D1 cb → PathO D1 B W (some ⟨g, 0, none⟩) n c p → Calls Try.prog 43 #[.pointer (some ⟨cb, 0, none⟩), .slice (some ⟨g, 0, none⟩) n c, .int .i64 side] W (AsideSays D1 B W g (asideG ed side p))) := Lib.hid (fun V W hW hC D1 h1 h2 h3 => aside_c Ex w0 W B cb S ed hED hel root V hW hC D1 h1 h2 hB g n c p h3 hn0 hn side hs hbr)
  have HSD := Lib.hid (And.intro hD (And.intro h00 hcw0))
  have HGC : Hid (g < w.heap.size ∧ cb ≠ g) := Lib.hid (by obtain ⟨g', e, _, h1, h2⟩ := hp.at_ hn0; cases e; exact ⟨h1, fun e => h2 (e ▸ hcD)⟩)
  obtain ⟨o, ho⟩ : ∃ o, o = asideG ed side p := ⟨_, rfl⟩
  rw [← ho] at HAS HRS ⊢
  clear hp hn0 hn hnp hcD hres hl hK hs hbr hED hel hD h00 hB ho hcw0
  obtain ⟨w1, hw1⟩ : ∃ W0, W0 = w.alloc (.cells #[.slice none 0 0, .slice none 0 0, .int .i64 0, .int .i64 0] 39) := ⟨_, rfl⟩
  have HO1 : Hid (Only (w.heap.size ≤ ·) w w1) := Lib.hid (by rw [hw1]; exact (Only.refl _ w).alloc (fun _ h => h) _)
  have HB8 : Hid (Blk w1 w.heap.size 39 [.slice none 0 0, .slice none 0 0, .int .i64 0, .int .i64 0]) := Lib.hid (by rw [hw1]; exact Blk.new w _ _)
  have HC1 : Hid (Blk w1 cb 75 [S, .int .i64 root, V]) := Lib.hid (hc.only HO1.out (Nat.not_le.2 hc.lt))
  have HLT : Hid (cb < w.heap.size) := Lib.hid hc.lt
  obtain ⟨w2, hw2⟩ : ∃ W0, W0 = w1.setCell ⟨cb, 2, none⟩ (.slice none 0 0) := ⟨_, rfl⟩
  have HS2 : Hid (Only (fun j => j = cb) w1 w2) := Lib.hid (by rw [hw2]; exact (Only.refl (fun j => j = cb) w1).setCell (p := ⟨cb, 2, none⟩) rfl _)
  have HC2 : Hid (Blk w2 cb 75 [S, .int .i64 root, .slice none 0 0]) := Lib.hid (by rw [hw2]; exact HC1.out.set_ 2 _)
  have HB82 : Hid (Blk w2 w.heap.size 39 [.slice none 0 0, .slice none 0 0, .int .i64 0, .int .i64 0]) := Lib.hid (HB8.out.only HS2.out (fun e => by have h1 := HLT.out; have h2 : w.heap.size = cb := e; omega))
  have HE1 := Lib.hid hw1
  have HE2 := Lib.hid hw2
  have j2 : w1.cell? ⟨cb, 2, none⟩ = some V := HC1.out.cell 2
  have f2 := HC1.out.frozen 2
  clear hw1 hw2 hc
  go_enter Try.func31, Try.ntmps31
  go_upto_region 1 with (fail)
  rw [← HE1.out]
  go_upto_region 2 with (fail)
  rw [← HE2.out]
  clear j2 f2 HE1 HE2
  have HD1 : Hid (∀ j, (D j ∨ j = w.heap.size) → j < w2.heap.size) := Lib.hid (fun j hj => by have h1 := HSD.out.1 j; have h2 := HS2.out.size; have h3 := HO1.out.size; have h4 := HB82.out.lt; rcases hj with hj | hj; exact Nat.lt_of_lt_of_le (h1 hj) (Nat.le_trans h3 h2); omega)
  have HP2 : Hid (PathO (fun j => D j ∨ j = w.heap.size) B w2 (some ⟨g, 0, none⟩) n c p) := Lib.hid ((HP0.out.step (D' := fun j => D j ∨ j = w.heap.size) (HO1.out.mono fun j h => .inr h) (fun j h => h.imp id fun h => Nat.le_of_eq h.symm)).step (HS2.out.mono fun j h => .inl (.inl (h ▸ HCD.out))) fun j h => .inl h)
  have HOW2 : Hid (Only (fun j => j = cb ∨ j = g ∨ w.heap.size ≤ j) w w2) := Lib.hid ((HO1.out.mono fun j h => .inr (.inr h)).trans (HS2.out.mono fun j h => .inl h))
  have H02 : Hid (Lat Ex w0 w2) := Lib.hid ((lat_new HSD.out.2.1 HO1.out).trans (HS2.out.mono fun j h => .inr (by have h1 := HSD.out.2.2; have h2 : j = cb := h; omega)))
  go_wp2
  go_loopg [1, 2, 11] 2 (fun gk pv ev lv wr => ∃ (st : Nat) (A5 : Option Addr) (n5 c5 : Nat) (er5 z5 : Int), gk = 2 - st ∧ pv = .slice A5 n5 c5 ∧ ev = .int .i64 er5 ∧ lv = .int .i64 z5 ∧ Hid (st = 0 → w2 = wr ∧ some ⟨g, 0, none⟩ = A5 ∧ n = n5 ∧ c = c5 ∧ (0 : Int) = er5 ∧ (1 : Int) = z5) ∧ Hid (st ≠ 0 → Blk wr cb 75 [S, .int .i64 root, .slice none 0 0] ∧ Blk wr w.heap.size 39 [.slice none 0 0, .slice none 0 0, .int .i64 0, .int .i64 0] ∧ Only (fun j => j = cb ∨ j = g ∨ w.heap.size ≤ j) w wr ∧ Fin3 (fun j => D j ∨ j = w.heap.size) B wr o A5 n5 c5 er5))
  case atStart => exact ⟨0, some ⟨g, 0, none⟩, n, c, 0, 1, rfl, rfl, rfl, rfl, Lib.hid (fun _ => ⟨rfl, rfl, rfl, rfl, rfl, rfl⟩), Lib.hid (fun h => absurd rfl h)⟩
  case round =>
    obtain ⟨st, A5, n5, c5, er5, z5, rfl, rfl, rfl, rfl, HR0, HR1⟩ := hrel
    by_cases hst : st = 0
    · subst hst
      obtain ⟨rfl, rfl, rfl, rfl, rfl, rfl⟩ := HR0.out rfl
      clear HR0 HR1
      have hpos' : (0 : Int) < (n : Int) := by have h1 := HNN.out.1; omega
      go_upto_region 7 with (go_at_call 42; (with_reducible refine (HFN.out _ HP2.out.sps).mono ?_); rintro e w3 ⟨rfl, ho⟩; have HO3 := Lib.hid ho; clear ho)
      obtain ⟨w4, hw4⟩ : ∃ W0, W0 = w3.alloc (.cells #[.slice none 0 0, .slice none 0 0, .int .i64 0, .int .i64 0] 39) := ⟨_, rfl⟩
      have HO4 : Hid (Only (w3.heap.size ≤ ·) w3 w4) := Lib.hid (by rw [hw4]; exact (Only.refl _ w3).alloc (fun _ h => h) _)
      rw [← hw4]
      clear hw4
      have HX4 := Lib.hid (on_new HO3.out HO4.out)
      have HC4 := Lib.hid (HC2.out.later HX4.out)
      have HA4 := Lib.hid (HAS.out _ w4 (lat_new H02.out HX4.out) HC4.out _ (fun j hj => Nat.lt_of_lt_of_le (HD1.out j hj) HX4.out.size) (.inl HCD.out) (HP2.out.later HX4.out))
      go_wp2_with (go_at_call 43; (with_reducible refine HA4.out.mono ?_); rintro e w5 hsay; (obtain ⟨A5, n5, c5, er5, rfl, ho5, hf5⟩ := aside_fin hsay (fun q hq => (HRS.out q hq).1)); have HO5 := Lib.hid ho5; have HF5 := Lib.hid hf5; clear ho5 hf5 hsay)
      go_roundg (2 - 1)
      case measure => omega
      case rel =>
        have hg := HGC.out
        have h82 := HB82.out.lt
        have hsz := HX4.out.size
        refine ⟨1, A5, n5, c5, er5, 2, rfl, rfl, rfl, rfl, Lib.hid (fun h => nomatch h), Lib.hid (fun _ => ⟨HC4.out.only HO5.out (fun e => ?_), (HB82.out.later HX4.out).only HO5.out (fun e => ?_), (HOW2.out.trans (HX4.out.mono fun j h => .inr (.inr (by omega)))).trans (HO5.out.mono fun j h => h.elim (fun h => .inr (.inl h)) fun h => .inr (.inr (by omega))), HF5.out⟩)⟩
        · rcases e with e | e
          · exact hg.2 e
          · have h1 := HC4.out.lt
            omega
        · rcases e with e | e
          · omega
          · omega
    · obtain ⟨h1, h2, h3, h4⟩ := HR1.out hst
      have HC2 := Lib.hid h1
      have HB82 := Lib.hid h2
      have HOW := Lib.hid h3
      clear h1 h2 h3 HR0 HR1 HP2 HOW2 H02 HD1
      have HSZ0 : Hid (w.heap.size ≤ wr.heap.size) := Lib.hid HOW.out.size
      rcases h4 with ⟨h5, h6, h7⟩ | ⟨h5, q, h7⟩ | ⟨h5, q, h7, h8⟩
      · subst h5 h6
        have HOO : Hid (o = none) := Lib.hid h7
        clear h7
        obtain ⟨q0, q1, q2, q3⟩ := HB82.out.four
        have f0 := HB82.out.frozen 0
        have f1 := HB82.out.frozen 1
        have f2 := HB82.out.frozen 2
        have f3 := HB82.out.frozen 3
        go_wp2
        have hk := it_set (a' := .slice none 0 0) (b' := .slice none 0 0) (c' := .int .i64 0) (d' := .int .i64 0) HB82.out
        refine bodyPost_ret (results_cell3 rfl rfl rfl rfl (load_item hk.1)) rfl ?_
        refine ⟨HOW.out.trans (hk.2.mono fun j h => .inr (.inr (Nat.le_of_eq h.symm))), .inl ⟨_, .inl ⟨rfl, HOO.out⟩, rfl, HC2.out.only hk.2 (fun e => by have h1 := HLT.out; have h2 : cb = w.heap.size := e; omega)⟩⟩
      · have HOO : Hid (er5 = 0 ∧ o = none ∨ er5 ≠ 0 ∧ ∃ q, o = some (er5, q)) := Lib.hid (.inr ⟨h5, q, h7⟩)
        clear h7
        obtain ⟨q0, q1, q2, q3⟩ := HB82.out.four
        have f0 := HB82.out.frozen 0
        have f1 := HB82.out.frozen 1
        have f2 := HB82.out.frozen 2
        have f3 := HB82.out.frozen 3
        go_wp2
        have hk := it_set (a' := .slice none 0 0) (b' := .slice none 0 0) (c' := .int .i64 0) (d' := .int .i64 0) HB82.out
        refine bodyPost_ret (results_cell3 rfl rfl rfl rfl (load_item hk.1)) rfl ?_
        refine ⟨HOW.out.trans (hk.2.mono fun j h => .inr (.inr (Nat.le_of_eq h.symm))), .inl ⟨_, HOO.out, rfl, HC2.out.only hk.2 (fun e => by have h1 := HLT.out; have h2 : cb = w.heap.size := e; omega)⟩⟩
      · subst h5
        obtain ⟨h12, sr2, x2, K2, y, hl2, hy2, hs2⟩ := HRS.out q h7
        have HOO := Lib.hid (And.intro h7 (And.intro hl2 hy2))
        have HP2 := Lib.hid h8
        have hn5 : n5 = q.length := by obtain ⟨C, h1, _⟩ := h8; exact h1
        have hpos : 0 < n5 := by rw [hn5]; exact List.length_pos_iff.2 (fun e => by rw [e] at hl2; cases hl2)
        obtain ⟨ky, hky⟩ : ∃ z, z = y.1 := ⟨_, rfl⟩
        obtain ⟨vy, hvy⟩ : ∃ z, z = y.2.1 := ⟨_, rfl⟩
        obtain ⟨i2, hi2⟩ : ∃ z, z = y.2.2.1 := ⟨_, rfl⟩
        obtain ⟨i3, hi3⟩ : ∃ z, z = y.2.2.2 := ⟨_, rfl⟩
        have HFY : Hid (∀ W : World, Sps W (.slice A5 n5 c5) q → Calls Try.prog 42 #[.slice A5 n5 c5] W fun e w' => ∃ v u, e = .returned (.tuple #[.agg #[v, u, .int .i64 i2, .int .i64 i3], .bool true]) ∧ New w' W.heap.size v ky ∧ New w' W.heap.size u vy ∧ Only (W.heap.size ≤ ·) W w') := Lib.hid (fun W hW => by rw [hky, hvy, hi2, hi3]; exact found_yes W A5 n5 c5 q hW hn5 (by omega) sr2 x2 K2 hl2 y hy2 hs2)
        have HY := Lib.hid (And.intro hky (And.intro hvy (And.intro hi2 hi3)))
        clear h7 h8 h12 hl2 hy2 hs2 hn5 hky hvy hi2 hi3
        have hpos' : (0 : Int) < (n5 : Int) := by omega
        go_upto_region 7 with (go_at_call 42; (with_reducible refine (HFY.out _ HP2.out.sps).mono ?_); rintro e w3 ⟨v, u, rfl, hv, hu, ho⟩; (obtain ⟨P, pc, rfl, hvr⟩ := hv); (obtain ⟨U, uc, rfl, hur⟩ := hu); have HV : Hid (New w3 wr.heap.size (.slice P ky.length pc) ky) := Lib.hid ⟨P, pc, rfl, hvr⟩; have HU : Hid (New w3 wr.heap.size (.slice U vy.length uc) vy) := Lib.hid ⟨U, uc, rfl, hur⟩; have HO3 := Lib.hid ho; clear hvr hur ho)
        obtain ⟨w4, hw4⟩ : ∃ W0, W0 = w3.alloc (.cells #[.slice P ky.length pc, .slice U vy.length uc, .int .i64 i2, .int .i64 i3] 39) := ⟨_, rfl⟩
        have HO4 : Hid (Only (w3.heap.size ≤ ·) w3 w4) := Lib.hid (by rw [hw4]; exact (Only.refl _ w3).alloc (fun _ h => h) _)
        have HB12 : Hid (Blk w4 w3.heap.size 39 [.slice P ky.length pc, .slice U vy.length uc, .int .i64 i2, .int .i64 i3]) := Lib.hid (by rw [hw4]; exact Blk.new w3 _ _)
        rw [← hw4]
        clear hw4
        have HX4 := Lib.hid (on_new HO3.out HO4.out)
        have HC4 := Lib.hid (HC2.out.only HX4.out (Nat.not_le.2 HC2.out.lt))
        have HB84 := Lib.hid (HB82.out.only HX4.out (Nat.not_le.2 HB82.out.lt))
        have HSZ := Lib.hid (And.intro HO3.out.size HSZ0.out)
        obtain ⟨w5, hw5⟩ : ∃ W0, W0 = w4.setCell ⟨cb, 2, none⟩ (.slice A5 n5 c5) := ⟨_, rfl⟩
        have HS5 : Hid (Only (fun j => j = cb) w4 w5) := Lib.hid (by rw [hw5]; exact (Only.refl (fun j => j = cb) w4).setCell (p := ⟨cb, 2, none⟩) rfl _)
        have HC5 : Hid (Blk w5 cb 75 [S, .int .i64 root, .slice A5 n5 c5]) := Lib.hid (by rw [hw5]; exact HC4.out.set_ 2 _)
        have HE5 := Lib.hid hw5
        clear hw5
        generalize hb12 : w3.heap.size = b12 at HB12 ⊢
        have HBN : Hid (w3.heap.size = b12) := Lib.hid hb12
        clear hb12
        have j2 : w4.cell? ⟨cb, 2, none⟩ = some (.slice none 0 0) := HC4.out.cell 2
        have f2 := HC4.out.frozen 2
        go_upto_region 9 with (fail)
        rw [← HE5.out]
        clear HE5 j2 f2
        have hne : ∀ k, w.heap.size ≤ k → k ≠ cb := fun k hk e => by have h1 := HLT.out; omega
        have HB125 := Lib.hid (HB12.out.only HS5.out (hne _ (by have h1 := HSZ.out; have h2 := HBN.out; omega)))
        have HB85 := Lib.hid (HB84.out.only HS5.out (hne _ (Nat.le_refl _)))
        obtain ⟨r0, r1, r2, r3⟩ := HB125.out.four
        obtain ⟨q0, q1, q2, q3⟩ := HB85.out.four
        have f0 := HB85.out.frozen 0
        have f1 := HB85.out.frozen 1
        have f2 := HB85.out.frozen 2
        have f3 := HB85.out.frozen 3
        clear hne
        go_wp2
        have hk := it_set (a' := .slice P ky.length pc) (b' := .slice U vy.length uc) (c' := .int .i64 i2) (d' := .int .i64 i3) HB85.out
        refine bodyPost_ret (results_cell3 rfl rfl rfl rfl (load_item hk.1)) rfl ?_
        have hwr : w.heap.size < wr.heap.size := HB82.out.lt
        have hcw := HLT.out
        have hON : Only (fun j => j = cb ∨ j = w.heap.size) w4 _ := (HS5.out.mono fun j h => .inl h).trans (hk.2.mono fun j h => .inr h)
        have hALL := (HOW.out.trans (HX4.out.mono (G := fun j => j = cb ∨ j = g ∨ w.heap.size ≤ j) fun j h => .inr (.inr (by omega)))).trans (hON.mono (G := fun j => j = cb ∨ j = g ∨ w.heap.size ≤ j) fun j h => h.elim (fun h => .inl h) fun h => .inr (.inr (Nat.le_of_eq h.symm)))
        have hAV : ∀ j, AtV (.slice P ky.length pc) j ∨ AtV (.slice U vy.length uc) j → wr.heap.size ≤ j := fun j hj => hj.elim (fun h => (HV.out.atV h).1) fun h => (HU.out.atV h).1
        have hPT := ((HP2.out.step (D' := fun j => (D j ∨ j = w.heap.size) ∨ AtV (.slice P ky.length pc) j ∨ AtV (.slice U vy.length uc) j) (HX4.out.mono fun j hj => .inr hj) (fun j hj => hj.imp id (hAV j)))).step (D' := fun j => D j ∨ AtV (.slice P ky.length pc) j ∨ AtV (.slice U vy.length uc) j) (hON.mono fun j h => .inl (.inl (h.elim (fun h => .inl (h ▸ HCD.out)) fun h => .inr h))) (fun j h => .inl (h.imp .inl id))
        have hNV := ((HV.out.later HO4.out).keep hON (fun k h1 _ e => by omega)).mono (Nat.le_of_lt hwr)
        have hNU := ((HU.out.later HO4.out).keep hON (fun k h1 _ e => by omega)).mono (Nat.le_of_lt hwr)
        have hCE := HC5.out.only hk.2 (fun e => by have h2 : cb = w.heap.size := e; omega)
        exact ⟨hALL, .inr ⟨q, sr2, x2, K2, y, .slice P ky.length pc, .slice U vy.length uc, A5, n5, c5, HOO.out.1, HOO.out.2.1, HOO.out.2.2, by rw [← HY.out.2.2.1, ← HY.out.2.2.2]; rfl, by rw [← HY.out.1]; exact hNV, by rw [← HY.out.2.1]; exact hNU, hCE, hPT⟩⟩
end Go.Proofs.Ytnjhpjpeeehagaa

/-
  Ways that lead to an item; what a cursor's call tells: plain data, and the state.
-/
set_option linter.unusedVariables false
namespace Go.Proofs.Ytnjhpjpeeehagaa
open Go.RowKit

/-- A way leads to an item. -/
def InP (p : List Sp) : Prop := ∃ (r : Int) (x : Nd) (K : Nat), p.getLast? = some (r, x, (K : Int)) ∧ K < x.its.length
theorem InP.cons {s : Sp} {p : List Sp} (h : InP p) : InP (s :: p) := by
  obtain ⟨r, x, K, h1, h2⟩ := h
  exact ⟨r, x, K, by rw [List.getLast?_cons, h1]; rfl, h2⟩
theorem SubT.edge_inp {l : List Nm} (last : Bool) : ∀ {h : Nat} {ne : Bool} {ref : Int} {sp : Sn} {seg : List It} {refs : List Int} {left : Nat}, SubT l ne h ref sp seg refs → seg ≠ [] → h ≤ left → InP (downP l (chE last) left ref).2
  | 0, _, _, _, _, _, _, h, _, _ => h.elim
  | h + 1, ne, ref, sp, seg, refs, left, hT, hs, hl => by
    obtain ⟨left, rfl⟩ : ∃ k, left = k + 1 := ⟨left - 1, by omega⟩
    obtain ⟨x, hx, ⟨h0, h1, h2, h3, h4, e1, _⟩ | ⟨h1, h2, h3, h4, rs, h5, _⟩⟩ := hT
    · subst e1 h0
      rw [down_leaf hx h1]
      refine ⟨ref, x, _, rfl, ?_⟩
      have hp : 0 < x.its.length := List.length_pos_iff.2 hs
      unfold chE
      cases last
      · rw [if_pos rfl]
        exact hp
      · rw [if_neg (by decide), if_pos h1]
        omega
    · obtain ⟨segs, hK⟩ := kids_ks h5
      obtain ⟨k, hk, hke⟩ : ∃ k, k < x.kds.length ∧ chE last x = k := by
        refine ⟨chE last x, ?_, rfl⟩
        unfold chE
        cases last
        · rw [if_pos rfl]; omega
        · rw [if_neg (by decide), if_neg (by rw [h1]; decide)]; omega
      obtain ⟨s, hsk⟩ : ∃ s, segs[k]? = some s := ⟨_, List.getElem?_eq_getElem (by rw [hK.1]; exact hk)⟩
      obtain ⟨r, hr⟩ := hK.2.2 k s hsk
      obtain ⟨path, d1, d2⟩ := SubT.edge_at last hr (show h ≤ left by omega)
      have hin := SubT.edge_inp last hr (SubT.some_ hr) (show h ≤ left by omega)
      have hkr : kidRef x (chE last x) = (kd x.kds k).2 := by unfold kidRef; rw [hke, kd_get hk]; rfl
      rw [downP, hx]
      simp only
      rw [if_neg (fun e => by rw [e.2] at h3; simp at h3), if_neg (by rw [h1]; decide), hkr, d1, if_pos rfl]
      rw [d1] at hin
      exact hin.cons
theorem PthT.aside_in {l : List Nm} {side : Int} : ∀ {h : Nat} {ref : Int} {sp : Sn} {seg : List It} {p p' : List Sp} {n er : Int}, PthT l h ref sp seg p n → h ≤ 12 → asideP l side p = some (er, p') → InP p'
  | 0, _, _, _, _, _, _, _, h, _, _ => h.elim
  | h + 1, ref, sp, seg, p, p', n, er, ⟨x, hx, .inl ⟨h0, h1, e1, e⟩⟩, hh, ha => by
    rw [e] at ha
    cases ha
  | h + 1, ref, sp, seg, p, p', n, er, ⟨x, hx, .inr ⟨h1, segs, k, s, rest, m, hK, hs, e, hr, en⟩⟩, hh, ha => by
    rw [e, aside_cons hr.ne] at ha
    cases hq : asideP l side rest with
    | some q =>
      rw [hq] at ha
      simp only [Option.some.injEq, Prod.mk.injEq] at ha
      rw [← ha.2]
      exact (PthT.aside_in hr (by omega) (p' := q.2) (er := q.1) hq).cons
    | none =>
      rw [hq] at ha
      simp only at ha
      by_cases hin : 0 ≤ (k : Int) + side ∧ (k : Int) + side < x.kds.length
      · rw [if_pos hin] at ha
        simp only [Option.some.injEq, Prod.mk.injEq] at ha
        obtain ⟨j, hj⟩ : ∃ j : Nat, (k : Int) + side = (j : Int) := ⟨((k : Int) + side).toNat, by omega⟩
        obtain ⟨t, ht⟩ : ∃ t, segs[j]? = some t := ⟨_, List.getElem?_eq_getElem (by rw [hK.1]; omega)⟩
        obtain ⟨r, hT⟩ := hK.2.2 j t ht
        have hkr : kidRef x ((k : Int) + side).toNat = (kd x.kds j).2 := by unfold kidRef; rw [hj, Int.toNat_natCast, kd_get (by omega)]; rfl
        rw [← ha.2, hkr]
        exact (SubT.edge_inp (decide (side = -1)) hT (SubT.some_ hT) (show h ≤ 12 by omega)).cons
      · rw [if_neg hin] at ha
        cases ha
/-- A way's branches lead to kids; its nodes are small. -/
theorem PthT.br {l : List Nm} (hf : FewN l) : ∀ {h : Nat} {ref : Int} {sp : Sn} {seg : List It} {p : List Sp} {n : Int}, PthT l h ref sp seg p n → ∀ (k : Nat) (s : Sp), p[k]? = some s → Sml s.2.1 ∧ (k + 1 < p.length → 0 ≤ s.2.2 ∧ s.2.2 < s.2.1.kds.length)
  | 0, _, _, _, _, _, h => h.elim
  | h + 1, ref, sp, seg, p, n, ⟨x, hx, .inl ⟨h0, h1, e1, e⟩⟩ => fun k s hk => by
    have hs : Sml x := by have h2 := hf.get ref; rw [hx] at h2; exact h2
    subst e
    cases k with
    | zero =>
      cases hk
      exact ⟨hs, fun h => by simp at h⟩
    | succ k => simp at hk
  | h + 1, ref, sp, seg, p, n, ⟨x, hx, .inr ⟨h1, segs, k0, s0, rest, m, hK, hs0, e, hr, en⟩⟩ => fun k s hk => by
    have hs : Sml x := by have h2 := hf.get ref; rw [hx] at h2; exact h2
    subst e
    cases k with
    | zero =>
      cases hk
      have hks : k0 < x.kds.length := by have := (List.getElem?_eq_some_iff.1 hs0).1; rw [hK.1] at this; exact this
      exact ⟨hs, fun _ => ⟨by show (0 : Int) ≤ (k0 : Int); omega, by show (k0 : Int) < (x.kds.length : Int); omega⟩⟩
    | succ k =>
      have h2 := PthT.br hf hr k s (by simpa using hk)
      exact ⟨h2.1, fun h3 => h2.2 (by simp at h3; exact h3)⟩
theorem shift_set {d : Int} : ∀ {p : List Sp} {r : Int} {x : Nd} {K : Int}, p.getLast? = some (r, x, K) → shift d p = p.set (p.length - 1) (r, x, K + d)
  | [], _, _, _, h => by cases h
  | [s], _, _, _, h => by cases h; rfl
  | s :: t :: u, r, x, K, h => by
    rw [shift_cons (by simp), shift_set (p := t :: u) (by rw [List.getLast?_cons_cons] at h; exact h)]
    rfl
theorem shift_last {d : Int} {p : List Sp} {r : Int} {x : Nd} {K : Int} (h : p.getLast? = some (r, x, K)) : (shift d p).getLast? = some (r, x, K + d) := by
  have h0 : 0 < p.length := List.length_pos_iff.2 (fun e => by rw [e] at h; cases h)
  rw [shift_set h, List.getLast?_eq_getElem?, List.length_set]
  exact List.getElem?_set_self (by omega)
/-- Where a way leads, as settle goes on from it. -/
def Lead (l : List Nm) (root : Int) (h : Nat) (seg : List It) (side : Int) (p : List Sp) (n : Int) : Prop := InP p ∨
  ((∃ (r : Int) (x : Nd) (K : Int), p.getLast? = some (r, x, K) ∧ (K < 0 ∨ (x.its.length : Int) ≤ K)) ∧ ((asideP l side p = none ∧ ¬ (0 ≤ n ∧ n < seg.length)) ∨ ∃ p', asideP l side p = some (0, p') ∧ PthT l h root ([], none) seg p' n))
theorem lead_off {l : List Nm} {root : Int} {h : Nat} {seg : List It} {side : Int} {p : List Sp} {n : Int} (hs : side = 1 ∨ side = -1) (hp : PthT l h root ([], none) seg p n) (ho : Off side p) (hh : h ≤ 12) : Lead l root h seg side p n := by
  refine .inr ⟨?_, ?_⟩
  · obtain ⟨r, x, K, h1, h2⟩ := ho
    refine ⟨r, x, K, h1, ?_⟩
    rcases hs with rfl | rfl
    · rw [if_pos rfl] at h2
      omega
    · rw [if_neg (by decide)] at h2
      omega
  · rcases hp.aside side hs ho hh with ⟨h1, h2⟩ | ⟨p', h1, h2, _⟩
    · refine .inl ⟨h1, ?_⟩
      rcases hs with rfl | rfl
      · rw [if_pos rfl] at h2
        omega
      · rw [if_neg (by decide)] at h2
        omega
    · exact .inr ⟨p', h1, h2⟩
/-- What a cursor stands on: a place of a tree's items, or nowhere. -/
def CurAt (l : List Nm) (root : Int) (h : Nat) (seg : List It) (S : Value) (D : Nat → Prop) (B cb : Nat) (w : World) : Option Nat → Prop
  | none => Blk w cb 75 [S, .int .i64 root, .slice none 0 0]
  | some n => ∃ g m c p, Blk w cb 75 [S, .int .i64 root, .slice (some ⟨g, 0, none⟩) m c] ∧ PathO D B w (some ⟨g, 0, none⟩) m c p ∧ PthT l h root ([], none) seg p (n : Nat) ∧ InP p
theorem CurAt.step {l : List Nm} {root : Int} {h : Nat} {seg : List It} {S : Value} {D D' : Nat → Prop} {B cb : Nat} {w w' : World} {o : Option Nat} (hc : CurAt l root h seg S D B cb w o) (ho : Only (fun k => (D k ∧ k ≠ cb) ∨ w.heap.size ≤ k) w w') (hD : ∀ j, D' j → D j ∨ w.heap.size ≤ j) : CurAt l root h seg S D' B cb w' o := by
  have hb : ∀ V, Blk w cb 75 [S, .int .i64 root, V] → Blk w' cb 75 [S, .int .i64 root, V] := fun V h => h.only ho (fun e => by
    rcases e with e | e
    · exact e.2 rfl
    · exact absurd h.lt (Nat.not_lt.2 e))
  cases o with
  | none => exact hb _ hc
  | some n =>
    obtain ⟨g, m, c, p, h1, h2, h3, h4⟩ := hc
    exact ⟨g, m, c, p, hb _ h1, h2.step (ho.mono fun j h => h.imp (fun h => h.1) id) hD, h3, h4⟩
/-- What a call tells that comes to the place n: an item, or none; or an error, where that may be. -/
def Got (H : Prop) (l : List Nm) (root : Int) (h : Nat) (seg : List It) (S : Value) (D : Nat → Prop) (B cb : Nat) (b : Nat) (w : World) (n : Int) (P : Option Addr) (pn pc : Nat) (U : Option Addr) (un uc : Nat) (i2 i3 : Int) (t : Bool) (er : Int) : Prop :=
  (∃ y : It, 0 ≤ n ∧ seg[n.toNat]? = some y ∧ New w b (.slice P pn pc) y.1 ∧ New w b (.slice U un uc) y.2.1 ∧ i2 = y.2.2.1 ∧ i3 = y.2.2.2 ∧ t = true ∧ er = 0 ∧ CurAt l root h seg S (fun j => D j ∨ AtV (.slice P pn pc) j ∨ AtV (.slice U un uc) j) B cb w (some n.toNat)) ∨
  ((((n < 0 ∨ (seg.length : Int) ≤ n) ∧ er = 0) ∨ (H ∧ er = 10)) ∧ P = none ∧ pn = 0 ∧ pc = 0 ∧ U = none ∧ un = 0 ∧ uc = 0 ∧ i2 = 0 ∧ i3 = 0 ∧ t = false ∧ CurAt l root h seg S D B cb w none)
def GotSays (H : Prop) (l : List Nm) (root : Int) (h : Nat) (seg : List It) (S : Value) (D : Nat → Prop) (B cb : Nat) (F : Nat → Prop) (w : World) (n : Int) (e : Ending) (w' : World) : Prop :=
  ∃ P pn pc U un uc i2 i3 t er, e = .returned (.tuple #[.agg #[.slice P pn pc, .slice U un uc, .int .i64 i2, .int .i64 i3], .bool t, .int .i64 er]) ∧ Only F w w' ∧ Got H l root h seg S D B cb w.heap.size w' n P pn pc U un uc i2 i3 t er
section
variable {H : Prop} {l : List Nm} {root : Int} {h : Nat} {seg : List It} {S : Value} {D D' : Nat → Prop} {B cb b b' : Nat} {w w' : World} {n : Int} {P U : Option Addr} {pn pc un uc : Nat} {i2 i3 : Int} {t : Bool} {er : Int}
theorem Got.step (hg : Got H l root h seg S D B cb b w n P pn pc U un uc i2 i3 t er) (ho : Only (fun k => (D k ∧ k ≠ cb) ∨ w.heap.size ≤ k) w w') (hD : ∀ j, D' j → D j ∨ w.heap.size ≤ j) (hb : ∀ j, D j → j < b) (hb' : b' ≤ b) : Got H l root h seg S D' B cb b' w' n P pn pc U un uc i2 i3 t er := by
  have hn : ∀ v xs, New w b v xs → New w' b' v xs := fun v xs h => (h.keep ho (fun k h1 h2 h3 => by
    rcases h3 with h3 | h3
    · have := hb k h3.1
      omega
    · omega)).mono hb'
  rcases hg with ⟨y, a1, a2, a3, a4, a5, a6, a7, a8, a9⟩ | ⟨a1, a2, a3, a4, a5, a6, a7, a8, a9, a10, a11⟩
  · exact .inl ⟨y, a1, a2, hn _ _ a3, hn _ _ a4, a5, a6, a7, a8, a9.step (ho.mono fun k hk => hk.imp (fun h => ⟨.inl h.1, h.2⟩) id) (fun j hj => hj.elim (fun h => (hD j h).imp .inl id) fun h => .inl (.inr h))⟩
  · exact .inr ⟨a1, a2, a3, a4, a5, a6, a7, a8, a9, a10, a11.step ho hD⟩
end
end Go.Proofs.Ytnjhpjpeeehagaa

/-
  settle, of a tree that is told whole.
-/
set_option linter.unusedVariables false
namespace Go.Proofs.Ytnjhpjpeeehagaa
open Go.RowKit

/-- A tree that is told whole, and what a cursor's reader makes of it: where H, it may tell an error. -/
structure Tr (Ex : Nat → Prop) (w0 : World) (S : Value) (ed : Bool → Int → Int × List Sp) (sk : Bytes → Int × List Sp) (H : Prop) (l : List Nm) (root : Int) (h : Nat) (seg : List It) : Prop where
  edge : ∀ W, Lat Ex w0 W → ∀ lb ref, Calls Try.prog 30 #[S, .int .i64 ref, .bool lb] W (DownOwn W (ed lb ref))
  elen : ∀ lb ref, (ed lb ref).2.length ≤ 12
  path : ∀ W, Lat Ex w0 W → ∀ K kn kc key, Src W (.slice K kn kc) key → Calls Try.prog 33 #[S, .int .i64 root, .slice K kn kc] W (DownOwn W (sk key))
  hole : ∀ lb r, (downP l (chE lb) 12 r).1 = 0 → ed lb r = downP l (chE lb) 12 r ∨ (H ∧ ed lb r = (10, []))
  holeS : ∀ key, (downP l (chP key) 12 root).1 = 0 → sk key = downP l (chP key) 12 root ∨ (H ∧ sk key = (10, []))
  sub : ∃ refs, SubT l false h root ([], none) seg refs
  hh : h ≤ 12
  few : FewN l
section
variable {Ex : Nat → Prop} {w0 : World} {S : Value} {ed : Bool → Int → Int × List Sp} {sk : Bytes → Int × List Sp} {H : Prop} {l : List Nm} {root : Int} {h : Nat} {seg : List It}
theorem got_item {D : Nat → Prop} {B cb b g m c : Nat} {w : World} {p : List Sp} {n : Int} {v u : Value} {y : It} {r : Int} {x : Nd} {K : Nat} (hc : Blk w cb 75 [S, .int .i64 root, .slice (some ⟨g, 0, none⟩) m c]) (hp : PathO (fun j => D j ∨ AtV v j ∨ AtV u j) B w (some ⟨g, 0, none⟩) m c p) (hP : PthT l h root ([], none) seg p n) (hl : p.getLast? = some (r, x, (K : Int))) (hy : x.its[K]? = some y) (hv : New w b v y.1) (hu : New w b u y.2.1) :
    ∃ P pn pc U un uc, v = .slice P pn pc ∧ u = .slice U un uc ∧ Got H l root h seg S D B cb b w n P pn pc U un uc y.2.2.1 y.2.2.2 true 0 := by
  obtain ⟨r', x', K', e1, e2, e3⟩ := hP.item
  rw [hl] at e1
  cases e1
  have hk := (List.getElem?_eq_some_iff.1 hy).1
  obtain ⟨a1, a2, a3⟩ := e3 ⟨by omega, by omega⟩
  rw [Int.toNat_natCast, hy] at a3
  have hv' := hv
  have hu' := hu
  obtain ⟨P, pc, rfl, _⟩ := hv'
  obtain ⟨U, uc, rfl, _⟩ := hu'
  refine ⟨P, _, pc, U, _, uc, rfl, rfl, .inl ⟨y, a1, a3, hv, hu, rfl, rfl, rfl, rfl, g, m, c, p, hc, hp, ?_, r, x, K, hl, hk⟩⟩
  rw [Int.toNat_of_nonneg a1]
  exact hP
theorem settle_t (T : Tr Ex w0 S ed sk H l root h seg) (w : World) (h00 : Lat Ex w0 w) (cb : Nat) (V : Value) (hc : Blk w cb 75 [S, .int .i64 root, V]) (D : Nat → Prop) (hD : ∀ j, D j → j < w.heap.size) (hcD : D cb) (hcw0 : w0.heap.size ≤ cb) (g m c : Nat) (p : List Sp) (n : Int) (hp : PathO D w0.heap.size w (some ⟨g, 0, none⟩) m c p) (hP : PthT l h root ([], none) seg p n) (side : Int) (hs : side = 1 ∨ side = -1) (hL : Lead l root h seg side p n) :
    Calls Try.prog 31 #[.pointer (some ⟨cb, 0, none⟩), .slice (some ⟨g, 0, none⟩) m c, .int .i64 0, .int .i64 side] w (GotSays H l root h seg S D w0.heap.size cb (fun j => j = cb ∨ j = g ∨ w.heap.size ≤ j) w n) := by
  have hm : m = p.length := by obtain ⟨C, h1, _⟩ := hp; exact h1
  have hlen := hP.len
  have hpos : 0 < p.length := List.length_pos_iff.2 hP.ne
  have hh := T.hh
  have hsml : ∀ {q : List Sp} {n' : Int} {r : Int} {x : Nd} {K : Int}, PthT l h root ([], none) seg q n' → q.getLast? = some (r, x, K) → Sml x := fun hq hl => (hq.br T.few _ _ (by rw [List.getLast?_eq_getElem?] at hl; exact hl)).1
  rcases hL with ⟨r, x, K, hl, hk⟩ | ⟨⟨r, x, K, hl, hk⟩, hA⟩
  · obtain ⟨y, hy⟩ : ∃ y, x.its[K]? = some y := ⟨_, List.getElem?_eq_getElem hk⟩
    refine (settle_in w D w0.heap.size cb S V root hc hcD _ m c p hp (by omega) r x K hl y hy (hsml hP hl) side).mono ?_
    rintro e w' ⟨v, u, rfl, hv, hu, hc', hp', ho⟩
    obtain ⟨P, pn, pc, U, un, uc, rfl, rfl, hg⟩ := got_item (H := H) hc' hp' hP hl hy hv hu
    exact ⟨P, pn, pc, U, un, uc, _, _, _, _, rfl, ho.mono fun j hj => hj.imp id .inr, hg⟩
  · have hole := aside_hole (side := side) T.hole p
    have hq : ∀ q, asideG ed side p = some (0, q) → PthT l h root ([], none) seg q n ∧ InP q := fun q hq => by
      rcases hA with ⟨a1, _⟩ | ⟨p', a1, a2⟩
      · rw [hole.1 a1] at hq
        cases hq
      · rcases hole.2 p' a1 with b1 | ⟨_, z, b1⟩
        · rw [b1] at hq
          cases hq
          exact ⟨a2, hP.aside_in hh a1⟩
        · rw [b1] at hq
          simp at hq
    refine (settle_far Ex w0 w w0.heap.size cb S ed T.edge T.elen root V h00 hc D hD hcD (Nat.le_refl _) hcw0 g m c p hp (by omega) (by omega) side hs (fun k s hk hkl => by
      have h1 := hP.br T.few k s hk
      exact ⟨(h1.2 hkl).1, (h1.2 hkl).2, h1.1⟩) r x K hl hk (fun q h1 => by
      obtain ⟨h2, r', x', K', h3, h4⟩ := hq q h1
      exact ⟨by rw [h2.len]; exact hh, r', x', K', _, h3, List.getElem?_eq_getElem h4, hsml h2 h3⟩)).mono ?_
    rintro e w' ⟨ho, ⟨er, h1, rfl, hc'⟩ | ⟨q, r', x', K', y, v, u, A, n', c', h1, hl', hy, rfl, hv, hu, hc', hp'⟩⟩
    · refine ⟨none, 0, 0, none, 0, 0, 0, 0, false, er, rfl, ho, .inr ⟨?_, rfl, rfl, rfl, rfl, rfl, rfl, rfl, rfl, rfl, hc'⟩⟩
      rcases hA with ⟨a1, a2⟩ | ⟨p', a1, a2⟩
      · rcases h1 with ⟨rfl, _⟩ | ⟨_, z, h1⟩
        · exact .inl ⟨by omega, rfl⟩
        · rw [hole.1 a1] at h1
          cases h1
      · rcases hole.2 p' a1 with b1 | ⟨hH, z, b1⟩
        · rcases h1 with ⟨rfl, h1⟩ | ⟨h0, z, h1⟩
          · rw [b1] at h1
            cases h1
          · rw [b1] at h1
            cases h1
            exact absurd rfl h0
        · rcases h1 with ⟨rfl, h1⟩ | ⟨h0, z', h1⟩
          · rw [b1] at h1
            cases h1
          · rw [b1] at h1
            cases h1
            exact .inr ⟨hH, rfl⟩
    · obtain ⟨a1, _⟩ := hq q h1
      have hn' : 0 < n' := by
        obtain ⟨C, h2, _⟩ := hp'
        rw [h2]
        exact List.length_pos_iff.2 a1.ne
      obtain ⟨g', rfl, _⟩ := hp'.at_ hn'
      obtain ⟨P, pn, pc, U, un, uc, rfl, rfl, hg⟩ := got_item (H := H) hc' hp' a1 hl' hy hv hu
      exact ⟨P, pn, pc, U, un, uc, _, _, _, _, rfl, ho, hg⟩
theorem settle_edge (T : Tr Ex w0 S ed sk H l root h seg) (w : World) (h00 : Lat Ex w0 w) (cb : Nat) (V : Value) (hc : Blk w cb 75 [S, .int .i64 root, V]) (D : Nat → Prop) (hD : ∀ j, D j → j < w.heap.size) (hcD : D cb) (hcw0 : w0.heap.size ≤ cb) (A : Option Addr) (m c B7 : Nat) (er : Int) (p : List Sp) (q : Int × List Sp) (hq : (er, p) = q) (hpk : PathK B7 w A m c p) (hB7 : ∀ j, D j → j < B7) (h07 : w0.heap.size ≤ B7) (side n : Int) (hs : side = 1 ∨ side = -1) (hcase : (q.1 = 0 ∧ PthT l h root ([], none) seg q.2 n ∧ Lead l root h seg side q.2 n) ∨ (H ∧ q = (10, []))) :
    Calls Try.prog 31 #[.pointer (some ⟨cb, 0, none⟩), .slice A m c, .int .i64 er, .int .i64 side] w (GotSays H l root h seg S D w0.heap.size cb (fun j => j = cb ∨ (w0.heap.size ≤ j ∧ ¬ D j)) w n) := by
  subst hq
  have hsz := h00.size
  rcases hcase with ⟨h1, h2, h3⟩ | ⟨hH, h1⟩
  · simp only at h1 h2 h3
    subst h1
    have hp := hpk.d h07 hB7
    have hm : 0 < m := by
      obtain ⟨C, e, _⟩ := hp
      rw [e]
      exact List.length_pos_iff.2 h2.ne
    obtain ⟨g, rfl, h4, h5, h6⟩ := hp.at_ hm
    refine (settle_t T w h00 cb V hc D hD hcD hcw0 g m c p n hp h2 side hs h3).mono ?_
    rintro e w' ⟨P, pn, pc, U, un, uc, i2, i3, t, er, he, ho, hg⟩
    refine ⟨P, pn, pc, U, un, uc, i2, i3, t, er, he, ho.mono fun j hj => ?_, hg⟩
    rcases hj with hj | hj | hj
    · exact .inl hj
    · subst hj
      exact .inr ⟨h4, h6⟩
    · exact .inr ⟨by omega, fun e => by have := hD j e; omega⟩
  · cases h1
    refine (settle_stop w cb S V root hc A m c 10 side (.inl (by decide))).mono ?_
    rintro e w' ⟨rfl, hc', ho⟩
    refine ⟨none, 0, 0, none, 0, 0, 0, 0, false, 10, rfl, ho.mono fun j hj => ?_, .inr ⟨.inr ⟨hH, rfl⟩, rfl, rfl, rfl, rfl, rfl, rfl, rfl, rfl, rfl, hc'⟩⟩
    rcases hj with hj | hj
    · exact .inl hj
    · exact .inr ⟨by omega, fun e => by have := hD j e; omega⟩
end
end Go.Proofs.Ytnjhpjpeeehagaa

/-
  Where First, Last and Seek lead: plain data.
-/
set_option linter.unusedVariables false
namespace Go.Proofs.Ytnjhpjpeeehagaa

theorem down_end {l : List Nm} {ch : Nd → Nat} : ∀ (k : Nat) (r : Int), (downP l ch k r).1 = 0 → ∃ (q : Int) (x : Nd), (downP l ch k r).2.getLast? = some (q, x, (ch x : Int)) ∧ x.leaf = true
  | 0, r, h => absurd h (by show ¬ (130 : Int) = 0; decide)
  | k + 1, r, h => by
    rw [downP] at h ⊢
    cases hx : nodeP l r with
    | none =>
      rw [hx] at h
      exact absurd h (by show ¬ (11 : Int) = 0; decide)
    | some x =>
      rw [hx] at h
      simp only at h ⊢
      by_cases c1 : x.leaf = false ∧ x.kds = []
      · rw [if_pos c1] at h
        exact absurd h (by show ¬ (131 : Int) = 0; decide)
      · rw [if_neg c1] at h ⊢
        by_cases c2 : x.leaf = true
        · rw [if_pos c2]
          exact ⟨r, x, rfl, c2⟩
        · rw [if_neg c2] at h ⊢
          by_cases c3 : (downP l ch k (kidRef x (ch x))).1 = 0
          · rw [if_pos c3]
            obtain ⟨q, y, h1, h2⟩ := down_end k _ c3
            exact ⟨q, y, by simp only; rw [List.getLast?_cons, h1]; rfl, h2⟩
          · rw [if_neg c3] at h
            exact absurd h c3
theorem in_all (key : Bytes) : InS ([], none) key := ⟨by have := cmp_nil key; have := cmp_flip key []; simp only at this ⊢; omega, fun h e => nomatch e⟩
section
variable {Ex : Nat → Prop} {w0 : World} {S : Value} {ed : Bool → Int → Int × List Sp} {sk : Bytes → Int × List Sp} {H : Prop} {l : List Nm} {root : Int} {h : Nat} {seg : List It}
/-- To which side a cursor goes on from the first, or the last. -/
def sideE (last : Bool) : Int := if last = true then -1 else 1
theorem sideE_or (last : Bool) : sideE last = 1 ∨ sideE last = -1 := by cases last; exact .inl rfl; exact .inr rfl
theorem edge_case (T : Tr Ex w0 S ed sk H l root h seg) (last : Bool) : ((ed last root).1 = 0 ∧ PthT l h root ([], none) seg (ed last root).2 ((if last = true then seg.length - 1 else 0 : Nat) : Int) ∧ Lead l root h seg (sideE last) (ed last root).2 ((if last = true then seg.length - 1 else 0 : Nat) : Int)) ∨ (H ∧ ed last root = (10, [])) := by
  obtain ⟨refs, hT⟩ := T.sub
  obtain ⟨path, h1, h2⟩ := SubT.edge_at last hT T.hh
  rcases T.hole last root (by rw [h1]) with h3 | h3
  · rw [h3, h1]
    refine .inl ⟨rfl, h2, ?_⟩
    by_cases hs : seg = []
    · subst hs
      obtain ⟨q, x, h4, h5⟩ := down_end 12 root (show (downP l (chE last) 12 root).1 = 0 by rw [h1])
      rw [h1] at h4
      simp only at h4
      have hl : ∀ (y : Nd), path = [(root, y, (chE last y : Int))] → y.its = [] → Lead l root h [] (sideE last) path ((if last = true then ([] : List It).length - 1 else 0 : Nat) : Int) := fun y e1 e2 => by
        refine .inr ⟨⟨root, y, _, by rw [e1]; rfl, .inr (by rw [e2]; simp)⟩, .inl ⟨by rw [e1]; rfl, by simp⟩⟩
      cases h with
      | zero => exact hT.elim
      | succ h =>
        obtain ⟨y, hy, ⟨e0, e1, e2, e3, e4, e5, _⟩ | ⟨e1, e2, e3, e4, rs, e5, _⟩⟩ := hT
        · rw [down_leaf hy e1] at h1
          refine hl y ?_ e5.symm
          have := congrArg Prod.snd h1
          exact this.symm
        · exfalso
          obtain ⟨segs, hK⟩ := kids_ks e5
          obtain ⟨s, hs⟩ : ∃ s, segs[0]? = some s := ⟨_, List.getElem?_eq_getElem (by rw [hK.1]; omega)⟩
          obtain ⟨r, hr⟩ := hK.2.2 0 s hs
          have hne := SubT.some_ hr
          have hle := flats_len hs
          rw [← hK.2.1] at hle
          exact hne (by simpa using hle)
    · have hin := SubT.edge_inp last hT hs T.hh
      rw [h1] at hin
      exact .inl hin
  · exact .inr h3
theorem seek_case (T : Tr Ex w0 S ed sk H l root h seg) (key : Bytes) : ((sk key).1 = 0 ∧ PthT l h root ([], none) seg (sk key).2 (findP seg key : Nat) ∧ Lead l root h seg 1 (sk key).2 (findP seg key : Nat)) ∨ (H ∧ sk key = (10, [])) := by
  obtain ⟨refs, hT⟩ := T.sub
  obtain ⟨path, h1, h2⟩ := SubT.seek (key := key) hT (in_all key) T.hh
  rcases T.holeS key (by rw [h1]) with h3 | h3
  · rw [h3, h1]
    refine .inl ⟨rfl, h2, ?_⟩
    obtain ⟨q, x, h4, h5⟩ := down_end 12 root (show (downP l (chP key) 12 root).1 = 0 by rw [h1])
    rw [h1] at h4
    simp only at h4
    have hle : chP key x ≤ x.its.length := by
      unfold chP
      rw [if_pos h5]
      unfold findP
      exact List.countP_le_length
    by_cases hlt : chP key x < x.its.length
    · exact .inl ⟨q, x, _, h4, hlt⟩
    · exact lead_off (.inl rfl) h2 ⟨q, x, _, h4, by rw [if_pos rfl]; omega⟩ T.hh
  · exact .inr h3
/-- Where the next place of one side is. -/
theorem step_case (T : Tr Ex w0 S ed sk H l root h seg) {p : List Sp} {n : Nat} (hp : PthT l h root ([], none) seg p (n : Nat)) (hi : InP p) (side : Int) (hs : side = 1 ∨ side = -1) : PthT l h root ([], none) seg (shift side p) (n + side) ∧ Lead l root h seg side (shift side p) (n + side) := by
  have h1 := hp.shift side
  refine ⟨h1, ?_⟩
  obtain ⟨r, x, K, h2, h3⟩ := hi
  have h4 := shift_last (d := side) h2
  by_cases hin : 0 ≤ (K : Int) + side ∧ (K : Int) + side < x.its.length
  · exact .inl ⟨r, x, ((K : Int) + side).toNat, by rw [h4, Int.toNat_of_nonneg hin.1], by omega⟩
  · refine lead_off hs h1 ⟨r, x, _, h4, ?_⟩ T.hh
    rcases hs with rfl | rfl
    · rw [if_pos rfl]
      omega
    · rw [if_neg (by decide)]
      omega
/-- The items rise. -/
theorem Tr.srt (T : Tr Ex w0 S ed sk H l root h seg) : Srt seg := by
  obtain ⟨refs, hT⟩ := T.sub
  exact hT.sorted.2
theorem cmp_side (T : Tr Ex w0 S ed sk H l root h seg) {n : Nat} {side : Int} (hs : side = 1 ∨ side = -1) {y z : It} (hy : seg[n]? = some y) (h0 : 0 ≤ (n : Int) + side) (hz : seg[((n : Int) + side).toNat]? = some z) : cmp z.1 y.1 = side := by
  have hr := T.srt
  have hpw : ∀ (i j : Nat) (a b : It), i < j → seg[i]? = some a → seg[j]? = some b → cmp a.1 b.1 < 0 := fun i j a b hij ha hb => by
    obtain ⟨hi, rfl⟩ := List.getElem?_eq_some_iff.1 ha
    obtain ⟨hj, rfl⟩ := List.getElem?_eq_some_iff.1 hb
    exact List.pairwise_iff_getElem.1 hr i j hi hj hij
  rcases hs with rfl | rfl
  · have h1 := hpw n _ y z (by omega) hy hz
    have h2 := cmp_flip y.1 z.1
    have h3 := cmp_range z.1 y.1
    omega
  · have h1 := hpw _ n z y (by omega) hz hy
    have h3 := cmp_range z.1 y.1
    omega
end
end Go.Proofs.Ytnjhpjpeeehagaa
