/-
  few, rises.
-/
import Derived.Test.YtdpdlhfjemehcaaTnm
import Derived.Test.YtdpdlhfjemehcaaSame
import Derived.Test.YtdpdlhfjemehcaaStp
import Derived.WalkSmall
set_option linter.unusedVariables false
namespace Go.Proofs.Ytdpdlhfjemehcaa
open Go.RowKit

def szN (x : Nm) : Nat := x.2.its.length + x.2.kds.length
def sumN (l : List Nm) : Nat := (l.map szN).sum
def fewB (l : List Nm) : Bool := decide (l.length ≤ 40) && decide (sumN l ≤ 200)
theorem sumN_take {l : List Nm} {k : Nat} {x : Nm} (h : l[k]? = some x) : sumN (l.take (k + 1)) = sumN (l.take k) + szN x := by
  rw [List.take_add_one, h]
  simp [sumN]
theorem sumN_le (l : List Nm) (k : Nat) : sumN (l.take k) ≤ sumN l := by
  have h : sumN l = sumN (l.take k) + sumN (l.drop k) := by
    conv => lhs; rw [← List.take_append_drop k l]
    simp [sumN, -List.take_append_drop]
  omega
set_option maxRecDepth 100000 in
set_option maxHeartbeats 6400000 in
theorem few_c (w : World) (A : Option Addr) (n c : Nat) (l : List Nm) (h : Nms w (.slice A n c) l) (hn : n ≤ 1000000) (hs : sumN l ≤ 4611686018427387904) :
    Calls Try.prog 8 #[.slice A n c] w (Told w (.bool (fewB l))) := by
  have HNL : Hid (n = l.length) := Lib.hid h.len
  have HN := Lib.hid h
  have HS := Lib.hid hs
  clear h hs
  go_enter Try.func8, Try.ntmps8
  go_wp2
  go_loopg [3, 8] n (fun gk s i wr => ∃ k : Nat, gk = n - k ∧ k ≤ n ∧ s = .int .i64 ((sumN (l.take k) : Nat) : Int) ∧ i = .int .i64 (k : Int) ∧ Hid (Only (w.heap.size ≤ ·) w wr))
  case atStart => exact ⟨0, rfl, Nat.zero_le _, rfl, rfl, Lib.hid (Only.refl _ _)⟩
  case round =>
    obtain ⟨k, rfl, hk, rfl, rfl, HO⟩ := hrel
    by_cases hlt : k < n
    · obtain ⟨b, off, x, Q, R, s, q, t, u, rfl, hb, hx, q0, q1, q2, q3, hnd⟩ := nms_at (HN.out.later HO.out) hlt
      have hlt' : (k : Int) < (n : Int) := by omega
      have hsz : sumN (l.take (k + 1)) = sumN (l.take k) + (s + t) := by
        rw [sumN_take hx]
        obtain ⟨_, h2, h3⟩ := hnd
        rw [szN, ← h2.len, ← h3.len]
      have hle := sumN_le l (k + 1)
      have HSZ := Lib.hid hsz
      have hb1 : sumN (l.take k) + (s + t) ≤ 4611686018427387904 := by
        have := HS.out
        omega
      obtain ⟨z, hz⟩ : ∃ z, z = sumN (l.take k) := ⟨_, rfl⟩
      rw [← hz] at hb1 HSZ ⊢
      clear hsz hle hnd hz
      go_wp2
      go_roundg (n - (k + 1))
      case measure => omega
      case rel => exact ⟨k + 1, rfl, by omega, by rw [HSZ.out]; congr 1, by go_num, Lib.hid (HO.out.alloc (fun _ h => h) _)⟩
    · obtain rfl : k = n := by omega
      have hkm : ¬ (k : Int) < (k : Int) := by omega
      have ht : l.take k = l := by rw [HNL.out, List.take_length]
      rw [ht]
      have HF : Hid (fewB l = (decide ((k : Int) ≤ 40) && decide (((sumN l : Nat) : Int) ≤ 200))) := Lib.hid (by
        unfold fewB
        rw [← HNL.out]
        congr 1 <;> exact decide_eq_decide.2 (by omega))
      by_cases h1 : (k : Int) ≤ 40
      · go_wp2
        go_ret
        exact ⟨by rw [HF.out]; simp [h1], HO.out⟩
      · go_wp2
        go_ret
        exact ⟨by rw [HF.out, decide_eq_false (p := (k : Int) ≤ 40) (by omega)]; rfl, HO.out⟩
set_option maxRecDepth 100000 in
set_option maxHeartbeats 6400000 in
theorem few_far (w : World) (A : Option Addr) (n c : Nat) (l : List Nm) (h : Nms w (.slice A n c) l) (hn : 40 < n) (hc : n ≤ 9223372036854775807) :
    Calls Try.prog 8 #[.slice A n c] w (Told w (.bool false)) := by
  have HN := Lib.hid h
  clear h
  go_enter Try.func8, Try.ntmps8
  go_wp2
  go_loopg [3, 8] n (fun gk s i wr => ∃ (k : Nat) (z : Int), gk = n - k ∧ k ≤ n ∧ s = .int .i64 z ∧ i = .int .i64 (k : Int) ∧ Hid (Only (w.heap.size ≤ ·) w wr))
  case atStart => exact ⟨0, 0, rfl, Nat.zero_le _, rfl, rfl, Lib.hid (Only.refl _ _)⟩
  case round =>
    obtain ⟨k, z, rfl, hk, rfl, rfl, HO⟩ := hrel
    by_cases hlt : k < n
    · obtain ⟨b, off, x, Q, R, s, q, t, u, rfl, hb, hx, q0, q1, q2, q3, hnd⟩ := nms_at (HN.out.later HO.out) hlt
      have hlt' : (k : Int) < (n : Int) := by omega
      clear hnd hx
      go_wp2
      go_roundg (n - (k + 1))
      case measure => omega
      case rel => exact ⟨k + 1, _, rfl, by omega, rfl, by go_num, Lib.hid (HO.out.alloc (fun _ h => h) _)⟩
    · obtain rfl : k = n := by omega
      have hkm : ¬ (k : Int) < (k : Int) := by omega
      have h1 : ¬ (k : Int) ≤ 40 := by omega
      go_wp2
      go_ret
      exact ⟨rfl, HO.out⟩
theorem few_w (w : World) (A : Option Addr) (n c : Nat) (l : List Nm) (h : Nms w (.slice A n c) l) (hz : ∀ x ∈ l, x.2.its.length ≤ 70368744177664 ∧ x.2.kds.length ≤ 70368744177664) :
    Calls Try.prog 8 #[.slice A n c] w (Told w (.bool (fewB l))) := by
  have hcap := h.cap
  have hl := h.len
  by_cases hn : n ≤ 40
  · refine few_c w A n c l h (by omega) ?_
    have hs : ∀ m : List Nm, (∀ x ∈ m, x.2.its.length ≤ 70368744177664 ∧ x.2.kds.length ≤ 70368744177664) → sumN m ≤ m.length * 140737488355328 := by
      intro m
      induction m with
      | nil => intro _; exact Nat.zero_le _
      | cons x m ih =>
        intro hm
        have h1 := ih fun y hy => hm y (List.mem_cons_of_mem _ hy)
        have h2 := hm x List.mem_cons_self
        have h3 : sumN (x :: m) = szN x + sumN m := by simp [sumN]
        rw [h3, List.length_cons, Nat.succ_mul]
        unfold szN
        omega
    have h1 := hs l hz
    have h2 : l.length * 140737488355328 ≤ 40 * 140737488355328 := Nat.mul_le_mul_right _ (by omega)
    omega
  · have hf : fewB l = false := by
      unfold fewB
      rw [decide_eq_false (by omega), Bool.false_and]
    rw [hf]
    exact few_far w A n c l h (by omega) (by omega)
theorem its_key {A : Option Addr} {n c k : Nat} {w : World} {l : List It} (h : Its w (.slice A n c) l) (hk : k < n) : ∃ (b off : Nat) (x : It) (P : Option Addr) (p : Nat), A = some ⟨b, off, none⟩ ∧ l[k]? = some x ∧ w.cell? ⟨b, off + k * 4, none⟩ = some (.slice P x.1.length p) ∧ Src w (.slice P x.1.length p) x.1 := by
  obtain ⟨b, off, x, cs, e, _, hx, ⟨P, p, Q, q, rfl, h1, _⟩, hc⟩ := Rw.at_ (E := itE) (by decide) h hk
  exact ⟨b, off, x, P, p, e, hx, hc 0 _ rfl, h1⟩
theorem kds_key {A : Option Addr} {n c k : Nat} {w : World} {l : List Kd} (h : Kds w (.slice A n c) l) (hk : k < n) : ∃ (b off : Nat) (x : Kd) (P : Option Addr) (p : Nat), A = some ⟨b, off, none⟩ ∧ l[k]? = some x ∧ w.cell? ⟨b, off + k * 2, none⟩ = some (.slice P x.1.length p) ∧ Src w (.slice P x.1.length p) x.1 := by
  obtain ⟨b, off, x, P, p, e, _, hx, h1, _, h2⟩ := kds_at h hk
  exact ⟨b, off, x, P, p, e, hx, h1, h2⟩
/-- The keys rise (of a branch from the second one on). -/
def RisI (l : List It) : Prop := ∀ i a b, l[i]? = some a → l[i + 1]? = some b → cmp a.1 b.1 < 0
def RisK (l : List Kd) : Prop := ∀ i a b, 1 ≤ i → l[i]? = some a → l[i + 1]? = some b → cmp a.1 b.1 < 0
def RisN (x : Nd) : Prop := RisI x.its ∧ RisK x.kds
def RisSays (w : World) (x : Nd) (e : Ending) (w' : World) : Prop := (∃ r, e = .returned (.bool r) ∧ (r = true ↔ RisN x)) ∧ Only (w.heap.size ≤ ·) w w'
theorem cells3 {w W : World} {a b c : Addr} {x y z : Value} (h : w.cell? a = some x ∧ w.cell? b = some y ∧ w.cell? c = some z) (ho : Only (w.heap.size ≤ ·) w W) : W.cell? a = some x ∧ W.cell? b = some y ∧ W.cell? c = some z := by
  have one : ∀ {a : Addr} {x : Value}, w.cell? a = some x → W.cell? a = some x := fun {a x} h => (ho.cell (p := a) (Nat.not_le.2 (World.block_lt_of_cell? w _ h))).trans h
  exact ⟨one h.1, one h.2.1, one h.2.2⟩
set_option maxRecDepth 100000 in
set_option maxHeartbeats 12800000 in
theorem rises_c (w : World) (A B : Option Addr) (n c m d : Nat) (f : Bool) (x : Nd) (h : Nod w x f (.slice A n c) (.slice B m d)) :
    Calls Try.prog 10 #[.agg #[.bool f, .slice A n c, .slice B m d]] w (RisSays w x) := by
  have hI := h.2.1
  have hK := h.2.2
  clear h
  have hnc := hI.cap
  have hmc := hK.cap
  have HNI := Lib.hid hI.len
  have HNK := Lib.hid hK.len
  obtain ⟨w1, hw1⟩ : ∃ x, x = w.alloc (.cells #[.bool f, .slice A n c, .slice B m d] 29) := ⟨_, rfl⟩
  obtain ⟨b1, hb1⟩ : ∃ x, x = w.heap.size := ⟨_, rfl⟩
  have Hb1 : Hid (Blk w1 b1 29 [.bool f, .slice A n c, .slice B m d]) := Lib.hid (by rw [hw1, hb1]; exact Blk.new w _ [.bool f, .slice A n c, .slice B m d])
  have HXb1 : Hid (Only (w.heap.size ≤ ·) w w1) := Lib.hid (by rw [hw1]; exact (Only.refl _ w).alloc (fun _ h => h) _)
  have HEQb1 : Hid (w1 = w.alloc (.cells #[.bool f, .slice A n c, .slice B m d] 29) ∧ b1 = w.heap.size) := Lib.hid ⟨hw1, hb1⟩
  clear hw1 hb1
  have HI := Lib.hid (hI.later HXb1.out)
  have HK := Lib.hid (hK.later HXb1.out)
  clear hI hK
  go_enter Try.func10, Try.ntmps10
  go_upto_region 2 with (fail)
  rw [← HEQb1.out.1, ← HEQb1.out.2]
  go_wp2
  go_loopg [3] (n - (0 + 1)) (fun gk i wr => ∃ j : Nat, gk = n - (j + 1) ∧ i = .int .i64 ((j : Int) + 1) ∧ (j = 0 ∨ j < n) ∧ Hid (Only (w1.heap.size ≤ ·) w1 wr) ∧ Hid (∀ i a b, i < j → x.its[i]? = some a → x.its[i + 1]? = some b → cmp a.1 b.1 < 0))
  case atStart => exact ⟨0, rfl, rfl, .inl rfl, Lib.hid (Only.refl _ _), Lib.hid (fun i a b h1 => absurd h1 (Nat.not_lt_zero _))⟩
  case round =>
    obtain ⟨j, rfl, rfl, hj, HO, HP⟩ := hrel
    have HB := Lib.hid (Hb1.out.later HO.out)
    obtain ⟨c0, c1, c2⟩ := HB.out.tri
    by_cases hlt : j + 1 < n
    · have HR := Lib.hid (HI.out.later HO.out)
      obtain ⟨b, off, y, P, p, rfl, hy, y0, hys⟩ := its_key HR.out hlt
      obtain ⟨b', off', z, Q, q, e, hz, z0, hzs⟩ := its_key HR.out (Nat.lt_of_succ_lt hlt)
      cases e
      have hlt' : (j : Int) + 1 < (n : Int) := by omega
      have HY := Lib.hid hy
      have HZ := Lib.hid hz
      obtain ⟨v, hv⟩ : ∃ v, cmp z.1 y.1 = v := ⟨_, rfl⟩
      have HV := Lib.hid hv
      obtain ⟨zl, hzl⟩ : ∃ q, q = z.1.length := ⟨_, rfl⟩
      obtain ⟨yl, hyl⟩ : ∃ q, q = y.1.length := ⟨_, rfl⟩
      rw [← hzl] at z0 hzs
      rw [← hyl] at y0 hys
      have HYS := Lib.hid hys
      have HZS := Lib.hid hzs
      clear hy hz hys hzs hv hzl hyl 
      have HD := Lib.hid ((Only.refl (wr.heap.size ≤ ·) wr).drew)
      have HCS : Hid ((fun W : World => W.cell? ⟨b1, 1, none⟩ = some (.slice (some ⟨b, off, none⟩) n c) ∧ W.cell? ⟨b, off + (j + 1) * 4, none⟩ = some (.slice P yl p) ∧ W.cell? ⟨b, off + (j) * 4, none⟩ = some (.slice Q zl q)) wr.drew) := Lib.hid ⟨c1, y0, z0⟩
      go_upto_region 4 with (fail)
      clear c0 c1 c2 y0 z0
      have hjw : IntKind.i64.wrap (j : Int) = (j : Int) := IntWalk.i64_in _ (by omega)
      have hjl : (j : Int) < (n : Int) := by omega
      have hj0 : (0 : Int) ≤ (j : Int) + 1 := by omega
      by_cases hv0 : (0 : Int) ≤ v
      · refine wp_region_list (B := [false, false, false, false, false, false, false, false, false, false, false, false, false, false, false]) (S := (fun W : World => W.cell? ⟨b1, 1, none⟩ = some (.slice (some ⟨b, off, none⟩) n c) ∧ W.cell? ⟨b, off + (j + 1) * 4, none⟩ = some (.slice P yl p) ∧ W.cell? ⟨b, off + (j) * 4, none⟩ = some (.slice Q zl q))) (by kernel_rfl) (by kernel_rfl) (by kernel_rfl) HCS.out (fun hsel hHeld => ?_)
        generalize hwz : World.drew _ = wz at HD HCS hHeld ⊢
        clear hwz
        refine oneA 0 12 hsel (h := ?_)
        simp only [Act.put, List.setIfInBounds_toArray, List.set_cons_zero, List.set_cons_succ]
        refine oneA 1 13 hsel (h := ?_)
        simp only [Act.put, List.setIfInBounds_toArray, List.set_cons_zero, List.set_cons_succ]
        refine oneA 2 14 hsel (h := ?_)
        simp only [Act.put, List.setIfInBounds_toArray, List.set_cons_zero, List.set_cons_succ]
        refine oneA 3 15 hsel (h := ?_)
        simp only [Act.put, List.setIfInBounds_toArray, List.set_cons_zero, List.set_cons_succ]
        refine oneA 4 16 hsel (h := ?_)
        simp only [Act.put, List.setIfInBounds_toArray, List.set_cons_zero, List.set_cons_succ]
        refine oneA 5 17 hsel (h := ?_)
        simp only [Act.put, List.setIfInBounds_toArray, List.set_cons_zero, List.set_cons_succ]
        refine oneA 6 18 hsel (h := ?_)
        simp only [Act.put, List.setIfInBounds_toArray, List.set_cons_zero, List.set_cons_succ]
        refine oneA 7 19 hsel (h := ?_)
        simp only [Act.put, List.setIfInBounds_toArray, List.set_cons_zero, List.set_cons_succ]
        refine oneA 8 20 hsel (h := ?_)
        simp only [Act.put, List.setIfInBounds_toArray, List.set_cons_zero, List.set_cons_succ]
        refine oneA 9 21 hsel (h := ?_)
        simp only [Act.put, List.setIfInBounds_toArray, List.set_cons_zero, List.set_cons_succ]
        refine oneA 10 22 hsel (h := ?_)
        simp only [Act.put, List.setIfInBounds_toArray, List.set_cons_zero, List.set_cons_succ]
        refine oneA 11 23 hsel (h := ?_)
        simp only [Act.put, List.setIfInBounds_toArray, List.set_cons_zero, List.set_cons_succ]
        refine oneA 12 24 hsel (h := ?_)
        simp only [Act.put, List.setIfInBounds_toArray, List.set_cons_zero, List.set_cons_succ]
        refine wpAnyL_ready (rs := [13]) (by kernel_rfl) (by kernel_rfl) (by simp) ?_
        refine AllReadyL.cons (o := ?_) ?_ (fun K hK => ?_) AllReadyL.nil
        case refine_2 => (simp only [List.getElem?_cons_succ, List.getElem?_cons_zero]; rfl)
        go_simp
        (go_at_call 20; (with_reducible refine (rCompare_b _ _ _ _ _ v (HZS.out.later HD.out) (HYS.out.later HD.out) HV.out).mono ?_); rintro ee w2 ⟨rfl, ho⟩; have HO2 := Lib.hid (on_new (on_new HO.out HD.out) ho); have HCT := Lib.hid (cells3 HCS.out ho); clear ho)
        go_wp2_with (fail)
        clear hHeld
        refine hK.out _ _ HCT.out (fun hHeld => ?_)
        clear hK K
        try simp only [List.set_cons_zero, List.set_cons_succ]
        refine oneA 14 26 hsel (h := ?_)
        simp only [Act.put, List.setIfInBounds_toArray, List.set_cons_zero, List.set_cons_succ]
        refine wpAnyL_done (by kernel_rfl) (by kernel_rfl) ?_ _
        clear hsel hHeld
        go_wp2_with (fail)
        go_ret
        exact ⟨⟨false, rfl, (fun h => nomatch h), fun h => absurd (h.1 j z y HZ.out HY.out) (by rw [HV.out]; omega)⟩, HXb1.out.trans (HO2.out.mono fun k hk => Nat.le_trans HXb1.out.size hk)⟩
      · refine wp_region_list (B := [false, false, false, false, false, false, false, false, false, false, false, false, false, false, false]) (S := (fun W : World => W.cell? ⟨b1, 1, none⟩ = some (.slice (some ⟨b, off, none⟩) n c) ∧ W.cell? ⟨b, off + (j + 1) * 4, none⟩ = some (.slice P yl p) ∧ W.cell? ⟨b, off + (j) * 4, none⟩ = some (.slice Q zl q))) (by kernel_rfl) (by kernel_rfl) (by kernel_rfl) HCS.out (fun hsel hHeld => ?_)
        generalize hwz : World.drew _ = wz at HD HCS hHeld ⊢
        clear hwz
        refine oneA 0 12 hsel (h := ?_)
        simp only [Act.put, List.setIfInBounds_toArray, List.set_cons_zero, List.set_cons_succ]
        refine oneA 1 13 hsel (h := ?_)
        simp only [Act.put, List.setIfInBounds_toArray, List.set_cons_zero, List.set_cons_succ]
        refine oneA 2 14 hsel (h := ?_)
        simp only [Act.put, List.setIfInBounds_toArray, List.set_cons_zero, List.set_cons_succ]
        refine oneA 3 15 hsel (h := ?_)
        simp only [Act.put, List.setIfInBounds_toArray, List.set_cons_zero, List.set_cons_succ]
        refine oneA 4 16 hsel (h := ?_)
        simp only [Act.put, List.setIfInBounds_toArray, List.set_cons_zero, List.set_cons_succ]
        refine oneA 5 17 hsel (h := ?_)
        simp only [Act.put, List.setIfInBounds_toArray, List.set_cons_zero, List.set_cons_succ]
        refine oneA 6 18 hsel (h := ?_)
        simp only [Act.put, List.setIfInBounds_toArray, List.set_cons_zero, List.set_cons_succ]
        refine oneA 7 19 hsel (h := ?_)
        simp only [Act.put, List.setIfInBounds_toArray, List.set_cons_zero, List.set_cons_succ]
        refine oneA 8 20 hsel (h := ?_)
        simp only [Act.put, List.setIfInBounds_toArray, List.set_cons_zero, List.set_cons_succ]
        refine oneA 9 21 hsel (h := ?_)
        simp only [Act.put, List.setIfInBounds_toArray, List.set_cons_zero, List.set_cons_succ]
        refine oneA 10 22 hsel (h := ?_)
        simp only [Act.put, List.setIfInBounds_toArray, List.set_cons_zero, List.set_cons_succ]
        refine oneA 11 23 hsel (h := ?_)
        simp only [Act.put, List.setIfInBounds_toArray, List.set_cons_zero, List.set_cons_succ]
        refine oneA 12 24 hsel (h := ?_)
        simp only [Act.put, List.setIfInBounds_toArray, List.set_cons_zero, List.set_cons_succ]
        refine wpAnyL_ready (rs := [13]) (by kernel_rfl) (by kernel_rfl) (by simp) ?_
        refine AllReadyL.cons (o := ?_) ?_ (fun K hK => ?_) AllReadyL.nil
        case refine_2 => (simp only [List.getElem?_cons_succ, List.getElem?_cons_zero]; rfl)
        go_simp
        (go_at_call 20; (with_reducible refine (rCompare_b _ _ _ _ _ v (HZS.out.later HD.out) (HYS.out.later HD.out) HV.out).mono ?_); rintro ee w2 ⟨rfl, ho⟩; have HO2 := Lib.hid (on_new (on_new HO.out HD.out) ho); have HCT := Lib.hid (cells3 HCS.out ho); clear ho)
        go_wp2_with (fail)
        clear hHeld
        refine hK.out _ _ HCT.out (fun hHeld => ?_)
        clear hK K
        try simp only [List.set_cons_zero, List.set_cons_succ]
        refine oneA 14 26 hsel (h := ?_)
        simp only [Act.put, List.setIfInBounds_toArray, List.set_cons_zero, List.set_cons_succ]
        refine wpAnyL_done (by kernel_rfl) (by kernel_rfl) ?_ _
        clear hsel hHeld
        go_wp2_with (fail)
        go_roundg (n - (j + 1 + 1))
        case measure => omega
        case rel => exact ⟨j + 1, rfl, by go_num, .inr (by omega), HO2, Lib.hid (fun i a b h1 h2 h3 => by
          by_cases hi : i < j
          · exact HP.out i a b hi h2 h3
          · obtain rfl : i = j := by omega
            rw [HZ.out] at h2
            rw [HY.out] at h3
            cases h2
            cases h3
            rw [HV.out]
            omega)⟩
    · have hkm : ¬ (j : Int) + 1 < (n : Int) := by omega
      have HRI : Hid (RisI x.its) := Lib.hid fun i a b h2 h3 => HP.out i a b (by
        have := (List.getElem?_eq_some_iff.1 h3).1
        have := HNI.out
        omega) h2 h3
      clear HP
      go_wp2
      go_loopg [4] (m - (0 + 1 + 1)) (fun gk i wr2 => ∃ j : Nat, gk = m - (j + 1 + 1) ∧ i = .int .i64 ((j : Int) + 1 + 1) ∧ (j = 0 ∨ j + 1 < m) ∧ Hid (Only (w1.heap.size ≤ ·) w1 wr2) ∧ Hid (∀ i a b, 1 ≤ i → i < j + 1 → x.kds[i]? = some a → x.kds[i + 1]? = some b → cmp a.1 b.1 < 0))
      case atStart => exact ⟨0, rfl, rfl, .inl rfl, HO, Lib.hid (fun i a b h0 h1 => absurd h1 (by omega))⟩
      case round =>
        clear hj hlt hkm HO HB c0 c1 c2
        obtain ⟨j, rfl, rfl, hj, HO, HP⟩ := hrel
        have HB := Lib.hid (Hb1.out.later HO.out)
        obtain ⟨c0, c1, c2⟩ := HB.out.tri
        by_cases hlt : j + 1 + 1 < m
        · have HR := Lib.hid (HK.out.later HO.out)
          obtain ⟨b, off, y, P, p, rfl, hy, y0, hys⟩ := kds_key HR.out hlt
          obtain ⟨b', off', z, Q, q, e, hz, z0, hzs⟩ := kds_key HR.out (Nat.lt_of_succ_lt hlt)
          cases e
          have hlt' : (j : Int) + 1 + 1 < (m : Int) := by omega
          have HY := Lib.hid hy
          have HZ := Lib.hid hz
          obtain ⟨v, hv⟩ : ∃ v, cmp z.1 y.1 = v := ⟨_, rfl⟩
          have HV := Lib.hid hv
          obtain ⟨zl, hzl⟩ : ∃ q, q = z.1.length := ⟨_, rfl⟩
          obtain ⟨yl, hyl⟩ : ∃ q, q = y.1.length := ⟨_, rfl⟩
          rw [← hzl] at z0 hzs
          rw [← hyl] at y0 hys
          have HYS := Lib.hid hys
          have HZS := Lib.hid hzs
          clear hy hz hys hzs hv hzl hyl 
          have HD := Lib.hid ((Only.refl (wr.heap.size ≤ ·) wr).drew)
          have HCS : Hid ((fun W : World => W.cell? ⟨b1, 2, none⟩ = some (.slice (some ⟨b, off, none⟩) m d) ∧ W.cell? ⟨b, off + (j + 1 + 1) * 2, none⟩ = some (.slice P yl p) ∧ W.cell? ⟨b, off + (j + 1) * 2, none⟩ = some (.slice Q zl q)) wr.drew) := Lib.hid ⟨c2, y0, z0⟩
          go_upto_region 9 with (fail)
          clear c0 c1 c2 y0 z0
          have hjw : IntKind.i64.wrap ((j : Int) + 1) = (j : Int) + 1 := IntWalk.i64_in _ (by omega)
          have hjl : (j : Int) + 1 < (m : Int) := by omega
          have hj0 : (0 : Int) ≤ (j : Int) + 1 := by omega
          have hj1 : (0 : Int) ≤ (j : Int) + 1 + 1 := by omega
          have hj2 : ((j : Int) + 1 + 1).toNat = j + 1 + 1 := by omega
          by_cases hv0 : (0 : Int) ≤ v
          · refine wp_region_list (B := [false, false, false, false, false, false, false, false, false, false, false, false, false, false, false]) (S := (fun W : World => W.cell? ⟨b1, 2, none⟩ = some (.slice (some ⟨b, off, none⟩) m d) ∧ W.cell? ⟨b, off + (j + 1 + 1) * 2, none⟩ = some (.slice P yl p) ∧ W.cell? ⟨b, off + (j + 1) * 2, none⟩ = some (.slice Q zl q))) (by kernel_rfl) (by kernel_rfl) (by kernel_rfl) HCS.out (fun hsel hHeld => ?_)
            generalize hwz : World.drew _ = wz at HD HCS hHeld ⊢
            clear hwz
            refine oneA 0 34 hsel (h := ?_)
            simp only [Act.put, List.setIfInBounds_toArray, List.set_cons_zero, List.set_cons_succ]
            refine oneA 1 35 hsel (h := ?_)
            simp only [Act.put, List.setIfInBounds_toArray, List.set_cons_zero, List.set_cons_succ]
            refine oneA 2 36 hsel (h := ?_)
            simp only [Act.put, List.setIfInBounds_toArray, List.set_cons_zero, List.set_cons_succ]
            refine oneA 3 37 hsel (h := ?_)
            simp only [Act.put, List.setIfInBounds_toArray, List.set_cons_zero, List.set_cons_succ]
            refine oneA 4 38 hsel (h := ?_)
            simp only [Act.put, List.setIfInBounds_toArray, List.set_cons_zero, List.set_cons_succ]
            refine oneA 5 39 hsel (h := ?_)
            simp only [Act.put, List.setIfInBounds_toArray, List.set_cons_zero, List.set_cons_succ]
            refine oneA 6 40 hsel (h := ?_)
            simp only [Act.put, List.setIfInBounds_toArray, List.set_cons_zero, List.set_cons_succ]
            refine oneA 7 41 hsel (h := ?_)
            simp only [Act.put, List.setIfInBounds_toArray, List.set_cons_zero, List.set_cons_succ]
            refine oneA 8 42 hsel (h := ?_)
            simp only [Act.put, List.setIfInBounds_toArray, List.set_cons_zero, List.set_cons_succ]
            refine oneA 9 43 hsel (h := ?_)
            simp only [Act.put, List.setIfInBounds_toArray, List.set_cons_zero, List.set_cons_succ]
            refine oneA 10 44 hsel (h := ?_)
            simp only [Act.put, List.setIfInBounds_toArray, List.set_cons_zero, List.set_cons_succ]
            refine oneA 11 45 hsel (h := ?_)
            simp only [Act.put, List.setIfInBounds_toArray, List.set_cons_zero, List.set_cons_succ]
            refine oneA 12 46 hsel (h := ?_)
            simp only [Act.put, List.setIfInBounds_toArray, List.set_cons_zero, List.set_cons_succ]
            refine wpAnyL_ready (rs := [13]) (by kernel_rfl) (by kernel_rfl) (by simp) ?_
            refine AllReadyL.cons (o := ?_) ?_ (fun K hK => ?_) AllReadyL.nil
            case refine_2 => (simp only [List.getElem?_cons_succ, List.getElem?_cons_zero]; rfl)
            go_simp
            (go_at_call 20; (with_reducible refine (rCompare_b _ _ _ _ _ v (HZS.out.later HD.out) (HYS.out.later HD.out) HV.out).mono ?_); rintro ee w2 ⟨rfl, ho⟩; have HO2 := Lib.hid (on_new (on_new HO.out HD.out) ho); have HCT := Lib.hid (cells3 HCS.out ho); clear ho)
            go_wp2_with (fail)
            clear hHeld
            refine hK.out _ _ HCT.out (fun hHeld => ?_)
            clear hK K
            try simp only [List.set_cons_zero, List.set_cons_succ]
            refine oneA 14 48 hsel (h := ?_)
            simp only [Act.put, List.setIfInBounds_toArray, List.set_cons_zero, List.set_cons_succ]
            refine wpAnyL_done (by kernel_rfl) (by kernel_rfl) ?_ _
            clear hsel hHeld
            go_wp2_with (fail)
            go_ret
            exact ⟨⟨false, rfl, (fun h => nomatch h), fun h => absurd (h.2 (j + 1) z y (by omega) HZ.out HY.out) (by rw [HV.out]; omega)⟩, HXb1.out.trans (HO2.out.mono fun k hk => Nat.le_trans HXb1.out.size hk)⟩
          · refine wp_region_list (B := [false, false, false, false, false, false, false, false, false, false, false, false, false, false, false]) (S := (fun W : World => W.cell? ⟨b1, 2, none⟩ = some (.slice (some ⟨b, off, none⟩) m d) ∧ W.cell? ⟨b, off + (j + 1 + 1) * 2, none⟩ = some (.slice P yl p) ∧ W.cell? ⟨b, off + (j + 1) * 2, none⟩ = some (.slice Q zl q))) (by kernel_rfl) (by kernel_rfl) (by kernel_rfl) HCS.out (fun hsel hHeld => ?_)
            generalize hwz : World.drew _ = wz at HD HCS hHeld ⊢
            clear hwz
            refine oneA 0 34 hsel (h := ?_)
            simp only [Act.put, List.setIfInBounds_toArray, List.set_cons_zero, List.set_cons_succ]
            refine oneA 1 35 hsel (h := ?_)
            simp only [Act.put, List.setIfInBounds_toArray, List.set_cons_zero, List.set_cons_succ]
            refine oneA 2 36 hsel (h := ?_)
            simp only [Act.put, List.setIfInBounds_toArray, List.set_cons_zero, List.set_cons_succ]
            refine oneA 3 37 hsel (h := ?_)
            simp only [Act.put, List.setIfInBounds_toArray, List.set_cons_zero, List.set_cons_succ]
            refine oneA 4 38 hsel (h := ?_)
            simp only [Act.put, List.setIfInBounds_toArray, List.set_cons_zero, List.set_cons_succ]
            refine oneA 5 39 hsel (h := ?_)
            simp only [Act.put, List.setIfInBounds_toArray, List.set_cons_zero, List.set_cons_succ]
            refine oneA 6 40 hsel (h := ?_)
            simp only [Act.put, List.setIfInBounds_toArray, List.set_cons_zero, List.set_cons_succ]
            refine oneA 7 41 hsel (h := ?_)
            simp only [Act.put, List.setIfInBounds_toArray, List.set_cons_zero, List.set_cons_succ]
            refine oneA 8 42 hsel (h := ?_)
            simp only [Act.put, List.setIfInBounds_toArray, List.set_cons_zero, List.set_cons_succ]
            refine oneA 9 43 hsel (h := ?_)
            simp only [Act.put, List.setIfInBounds_toArray, List.set_cons_zero, List.set_cons_succ]
            refine oneA 10 44 hsel (h := ?_)
            simp only [Act.put, List.setIfInBounds_toArray, List.set_cons_zero, List.set_cons_succ]
            refine oneA 11 45 hsel (h := ?_)
            simp only [Act.put, List.setIfInBounds_toArray, List.set_cons_zero, List.set_cons_succ]
            refine oneA 12 46 hsel (h := ?_)
            simp only [Act.put, List.setIfInBounds_toArray, List.set_cons_zero, List.set_cons_succ]
            refine wpAnyL_ready (rs := [13]) (by kernel_rfl) (by kernel_rfl) (by simp) ?_
            refine AllReadyL.cons (o := ?_) ?_ (fun K hK => ?_) AllReadyL.nil
            case refine_2 => (simp only [List.getElem?_cons_succ, List.getElem?_cons_zero]; rfl)
            go_simp
            (go_at_call 20; (with_reducible refine (rCompare_b _ _ _ _ _ v (HZS.out.later HD.out) (HYS.out.later HD.out) HV.out).mono ?_); rintro ee w2 ⟨rfl, ho⟩; have HO2 := Lib.hid (on_new (on_new HO.out HD.out) ho); have HCT := Lib.hid (cells3 HCS.out ho); clear ho)
            go_wp2_with (fail)
            clear hHeld
            refine hK.out _ _ HCT.out (fun hHeld => ?_)
            clear hK K
            try simp only [List.set_cons_zero, List.set_cons_succ]
            refine oneA 14 48 hsel (h := ?_)
            simp only [Act.put, List.setIfInBounds_toArray, List.set_cons_zero, List.set_cons_succ]
            refine wpAnyL_done (by kernel_rfl) (by kernel_rfl) ?_ _
            clear hsel hHeld
            go_wp2_with (fail)
            go_roundg (m - (j + 1 + 1 + 1))
            case measure => omega
            case rel => exact ⟨j + 1, rfl, by go_num, .inr (by omega), HO2, Lib.hid (fun i a b h0 h1 h2 h3 => by
              by_cases hi : i < j + 1
              · exact HP.out i a b h0 hi h2 h3
              · obtain rfl : i = j + 1 := by omega
                rw [HZ.out] at h2
                rw [HY.out] at h3
                cases h2
                cases h3
                rw [HV.out]
                omega)⟩
        · have hkm : ¬ (j : Int) + 1 + 1 < (m : Int) := by omega
          have HRK : Hid (RisK x.kds) := Lib.hid fun i a b h0 h2 h3 => HP.out i a b h0 (by
            have := (List.getElem?_eq_some_iff.1 h3).1
            have := HNK.out
            omega) h2 h3
          clear HP
          go_wp2
          go_ret
          exact ⟨⟨true, rfl, fun _ => ⟨HRI.out, HRK.out⟩, fun _ => rfl⟩, HXb1.out.trans (HO.out.mono fun k hk => Nat.le_trans HXb1.out.size hk)⟩
end Go.Proofs.Ytdpdlhfjemehcaa
