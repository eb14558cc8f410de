/-
  node.Right, exactly.
-/
import Derived.Test.YtoghojgajpfkkaaGreatDoorGb
import Derived.Test.YtoghojgajpfkkaaGreatDoorGa
set_option linter.unusedVariables false
namespace Go.Proofs.YtoghojgajpfkkaaGreatDoor
open Go.RowKit
attribute [local go_sem] run_store_func

/-- A bool came back of which this is true. -/
def AnsB (w : World) (R : Bool → Prop) (e : Ending) (w' : World) : Prop := ∃ b, e = .returned (.bool b) ∧ R b ∧ Only (w.heap.size ≤ ·) w w'
def KidR (g : Int) (k : Nat) (y : Kd) : Prop := (2 ≤ y.2 ∧ y.2 < 16384) ∧ (k = 0 → y.1.length = 0) ∧ (k ≠ 0 → 1 ≤ y.1.length ∧ (y.1.length : Int) ≤ tr g 16 20 24)
def ItR (g : Int) (i : It) : Prop := okay g i.1.length i.2.1.length i.2.2.1 i.2.2.2 = true
def PureR (x : Nd) : Prop := if x.leaf = true then x.kds = [] else x.its = [] ∧ x.kds ≠ []
def EachR (g : Int) (x : Nd) : Prop := if x.leaf = true then ∀ (k : Nat) i, x.its[k]? = some i → ItR g i else ∀ (k : Nat) y, x.kds[k]? = some y → KidR g k y
def RisesR (x : Nd) : Prop := if x.leaf = true then ∀ (k : Nat) y z, x.its[k]? = some y → x.its[k + 1]? = some z → cmp y.1 z.1 < 0 else ∀ (k : Nat) y z, x.kds[k]? = some y → x.kds[k + 1]? = some z → cmp y.1 z.1 < 0
/-- May there be such a node? -/
def RightN (g : Int) (x : Nd) : Prop := gen g = true ∧ PureR x ∧ EachR g x ∧ RisesR x ∧ nfit g x = true
section
variable (w : World) (A B : Option Addr) (n c m d : Nat) (x : Nd) (g : Int)
set_option maxHeartbeats 3200000 in
theorem pure_x (f : Bool) (b : Bool) (hb : (if f = true then decide (m = 0) else decide (n = 0) && decide (0 < m)) = b) : Calls Tryz.prog 59 #[.agg #[.bool f, .slice A n c, .slice B m d]] w (Told w (.bool b)) := by
  have HO : Hid (Only (w.heap.size ≤ ·) w (w.alloc (.cells #[.bool f, .slice A n c, .slice B m d] 28))) := (Only.refl _ w).alloc (fun _ h => h) _
  have HB := Lib.hid hb
  clear hb
  cases f
  · by_cases hn : n = 0
    · subst hn
      by_cases hm : 0 < m
      · have hmi : (0 : Int) < (m : Int) := by omega
        go_enter Tryz.func59, Tryz.ntmps59
        go_wp2
        go_ret
        exact ⟨by rw [← HB.out]; simp [hm], HO.out⟩
      · have hmi : ¬ (0 : Int) < (m : Int) := by omega
        go_enter Tryz.func59, Tryz.ntmps59
        go_wp2
        go_ret
        exact ⟨by rw [← HB.out]; simp [hm], HO.out⟩
    · have hnb : ((n : Int) == 0) = false := by rw [beq_eq_false_iff_ne]; omega
      have HN := Lib.hid hn
      clear hn
      go_enter Tryz.func59, Tryz.ntmps59
      go_wp2
      go_ret
      exact ⟨by rw [← HB.out]; simp [HN.out], HO.out⟩
  · by_cases hm : m = 0
    · subst hm
      go_enter Tryz.func59, Tryz.ntmps59
      go_wp2
      go_ret
      exact ⟨by rw [← HB.out]; simp, HO.out⟩
    · have hmb : ((m : Int) == 0) = false := by rw [beq_eq_false_iff_ne]; omega
      have HN := Lib.hid hm
      clear hm
      go_enter Tryz.func59, Tryz.ntmps59
      go_wp2
      go_ret
      exact ⟨by rw [← HB.out]; simp [HN.out], HO.out⟩
set_option maxHeartbeats 3200000 in
theorem itemRight_x (f : Bool) (k : Nat) (i : It) (b : Bool) (hb : okay g i.1.length i.2.1.length i.2.2.1 i.2.2.2 = b) (hN : Nod w x f (.slice A n c) (.slice B m d)) (hg : Gens w) (hx : x.its[k]? = some i) :
    Calls Tryz.prog 89 #[.agg #[.bool f, .slice A n c, .slice B m d], .int .i64 g, .int .i64 k] w (Told w (.bool b)) := by
  have hkn : k < n := by rw [hN.2.1.len]; exact (List.getElem?_eq_some_iff.1 hx).1
  have hcap := hN.2.1.cap
  have HO : Hid (Only (w.heap.size ≤ ·) w (w.alloc (.cells #[.bool f, .slice A n c, .slice B m d] 28))) := (Only.refl _ w).alloc (fun _ h => h) _
  obtain ⟨b1, off, y, P, Q, p, q, rfl, hbl, hy, q0, q1, q2, q3, _, _⟩ := its_at (hN.2.1.later HO.out) hkn
  obtain rfl : y = i := Option.some.inj (hy.symm.trans hx)
  obtain ⟨ks, vs, s, r⟩ := y
  obtain ⟨t, ht⟩ : ∃ t, t = ks.length := ⟨_, rfl⟩
  obtain ⟨u, hu⟩ : ∃ u, u = vs.length := ⟨_, rfl⟩
  simp only at q0 q1 q2 q3 hb
  rw [← ht] at q0 hb
  rw [← hu] at q1 hb
  have HR : Hid (Calls Tryz.prog 106 #[.int .i64 g, .agg #[.slice P t p, .slice Q u q, .int .i64 s, .int .i64 r]] (w.alloc (.cells #[.bool f, .slice (some ⟨b1, off, none⟩) n c, .slice B m d] 28)) (Told (w.alloc (.cells #[.bool f, .slice (some ⟨b1, off, none⟩) n c, .slice B m d] 28)) (.bool b))) := Right_c _ P Q t p u q s r g b (hg.later HO.out) hb
  have j1 : (0 : Int) ≤ (k : Int) := by omega
  have j2 : (k : Int) < (n : Int) := by omega
  have e : off + k * 4 + 0 = off + k * 4 := rfl
  clear hN hg hx hy ht hu hb
  go_enter Tryz.func89, Tryz.ntmps89
  go_wp2_with (go_at_call 106; (with_reducible refine HR.out.mono ?_); rintro e w2 ⟨rfl, ho⟩; (replace HO := Lib.hid (on_new HO.out ho)); clear ho)
  go_ret
  exact ⟨rfl, HO.out⟩

set_option maxRecDepth 100000 in
set_option maxHeartbeats 12800000 in
theorem kidRight_x (k : Nat) (y : Kd) (hN : Nod w x false (.slice A n c) (.slice B m d)) (hg : Gens w) (hy : x.kds[k]? = some y) :
    Calls Tryz.prog 92 #[.agg #[.bool false, .slice A n c, .slice B m d], .int .i64 g, .int .i64 k] w (AnsB w (fun b => b = true ↔ KidR g k y)) := by
  have hkn : k < m := by rw [hN.2.2.len]; exact (List.getElem?_eq_some_iff.1 hy).1
  have hcap := hN.2.2.cap
  obtain ⟨b, off, y', P, p, rfl, hb, hy', q0, q1, _⟩ := kds_at hN.2.2 hkn
  obtain rfl : y' = y := Option.some.inj (hy'.symm.trans hy)
  obtain ⟨xs, r⟩ := y'
  obtain ⟨t, ht⟩ : ∃ t, t = xs.length := ⟨_, rfl⟩
  obtain ⟨v, hv⟩ : ∃ v, v = tr g 16 20 24 := ⟨_, rfl⟩
  simp only at q0 q1
  rw [← ht] at q0
  have HX : Hid (KidR g k (xs, r) ↔ (2 ≤ r ∧ r < 16384) ∧ (k = 0 → t = 0) ∧ (k ≠ 0 → 1 ≤ t ∧ (t : Int) ≤ v)) := Lib.hid (by rw [ht, hv]; exact Iff.rfl)
  obtain ⟨W1, hW1⟩ : ∃ W1, W1 = ((w.alloc (.cells #[.bool false, .slice A n c, .slice (some ⟨b, off, none⟩) m d] 28)).alloc (.cells #[.slice P t p, .int .i64 r] 67)) := ⟨_, rfl⟩
  have HO : Hid (Only (w.heap.size ≤ ·) w W1) := Lib.hid (by rw [hW1]; exact ((Only.refl _ w).alloc (fun _ h => h) _).alloc (fun _ h => h) _)
  have HK : Hid (Blk W1 (w.heap.size + 1) 67 [.slice P t p, .int .i64 r]) := Lib.hid (by
    rw [hW1]
    have := Blk.new (w.alloc (.cells #[.bool false, .slice A n c, .slice (some ⟨b, off, none⟩) m d] 28)) 67 [.slice P t p, .int .i64 r]
    simpa using this)
  have HMK : Hid (∀ W, Only (w.heap.size ≤ ·) w W → Calls Tryz.prog 108 #[.int .i64 g] W (Told W (.int .i64 v))) := fun W hW => by rw [hv]; exact MaxKey_c W g (hg.later hW)
  have u0 : (w.alloc (.cells #[.bool false, .slice A n c, .slice (some ⟨b, off, none⟩) m d] 28)).cell? ⟨b, off + k * 2, none⟩ = some (.slice P t p) := (((Only.refl (w.heap.size ≤ ·) w).alloc (fun _ h => h) _).cell (p := ⟨b, off + k * 2, none⟩) (Nat.not_le.2 hb)).trans q0
  have u1 : (w.alloc (.cells #[.bool false, .slice A n c, .slice (some ⟨b, off, none⟩) m d] 28)).cell? ⟨b, off + k * 2 + 1, none⟩ = some (.int .i64 r) := (((Only.refl (w.heap.size ≤ ·) w).alloc (fun _ h => h) _).cell (p := ⟨b, off + k * 2 + 1, none⟩) (Nat.not_le.2 hb)).trans q1
  have HW1 := Lib.hid hW1
  have j1 : (0 : Int) ≤ (k : Int) := by omega
  have j2 : (k : Int) < (m : Int) := by omega
  have KP : Hid (∀ w' : World, Only (W1.heap.size ≤ ·) W1 w' → w'.cell? ⟨w.heap.size + 1, 0, none⟩ = some (.slice P t p)) := fun W hW => (HK.out.later hW).cell 0
  clear hN hg hy hy' ht hv hb q0 q1 hW1
  by_cases hr1 : 2 ≤ r
  rotate_left
  · have hr2 : r < 2 := by omega
    rw [HW1.out] at HO
    go_enter Tryz.func92, Tryz.ntmps92
    go_wp2
    go_ret
    exact ⟨false, rfl, by rw [HX.out]; simp; omega, HO.out⟩
  by_cases hr2 : r < 16384
  rotate_left
  · have hr3 : 16384 ≤ r := by omega
    rw [HW1.out] at HO
    go_enter Tryz.func92, Tryz.ntmps92
    go_wp2
    go_ret
    exact ⟨false, rfl, by rw [HX.out]; simp; omega, HO.out⟩
  by_cases hk0 : k = 0
  · have hkb : ((k : Int) == 0) = true := by rw [hk0]; rfl
    have HK0 := Lib.hid hk0
    clear hk0
    rw [HW1.out] at HO
    go_enter Tryz.func92, Tryz.ntmps92
    go_wp2
    go_ret
    exact ⟨_, rfl, by rw [HX.out]; have := HK0.out; simp [this]; omega, HO.out⟩
  · have hkb : ((k : Int) == 0) = false := by simpa using hk0
    have HK0 := Lib.hid hk0
    clear hk0
    go_enter Tryz.func92, Tryz.ntmps92
    go_wp2_with (fail)
    rw [← HW1.out]
    clear HW1 u0 u1
    have HOZ : Hid (Only (W1.heap.size ≤ ·) W1 W1.drew) := (Only.refl _ _).drew
    by_cases ht1 : 1 ≤ (t : Int)
    · have hd1 : decide (1 ≤ (t : Int)) = true := decide_eq_true ht1
      refine wp_region_list (B := [false, false, false, false, false, false, false, false, false, false, false, false, false]) (S := (fun w' => w'.cell? ⟨w.heap.size + 1, 0, none⟩ = some (.slice P t p))) (by kernel_rfl) (by kernel_rfl) (by kernel_rfl) (KP.out _ HOZ.out) (fun hsel hHeld => ?_)
      refine oneA 0 27 hsel (h := ?_)
      simp only [Act.put, List.setIfInBounds_toArray, List.set_cons_zero, List.set_cons_succ]
      refine oneA 1 28 hsel (h := ?_)
      simp only [Act.put, List.setIfInBounds_toArray, List.set_cons_zero, List.set_cons_succ]
      refine oneA 2 29 hsel (h := ?_)
      simp only [Act.put, List.setIfInBounds_toArray, List.set_cons_zero, List.set_cons_succ]
      refine oneA 3 30 hsel (h := ?_)
      simp only [Act.put, List.setIfInBounds_toArray, List.set_cons_zero, List.set_cons_succ]
      refine oneA 4 31 hsel (h := ?_)
      simp only [Act.put, List.setIfInBounds_toArray, List.set_cons_zero, List.set_cons_succ]
      refine oneA 5 32 hsel (h := ?_)
      simp only [Act.put, List.setIfInBounds_toArray, List.set_cons_zero, List.set_cons_succ]
      refine oneA 6 33 hsel (h := ?_)
      simp only [Act.put, List.setIfInBounds_toArray, List.set_cons_zero, List.set_cons_succ]
      refine oneA 7 34 hsel (h := ?_)
      simp only [Act.put, List.setIfInBounds_toArray, List.set_cons_zero, List.set_cons_succ]
      refine oneA 8 35 hsel (h := ?_)
      simp only [Act.put, List.setIfInBounds_toArray, List.set_cons_zero, List.set_cons_succ]
      refine wpAnyL_ready (rs := [9]) (by kernel_rfl) (by kernel_rfl) (by simp) ?_
      refine AllReadyL.cons (o := ?_) ?_ (fun K hK => ?_) AllReadyL.nil
      case refine_2 => (simp only [List.getElem?_cons_succ, List.getElem?_cons_zero]; rfl)
      go_simp
      (go_at_call 108; (with_reducible refine (HMK.out _ (on_new HO.out HOZ.out)).mono ?_); rintro e w1 ⟨rfl, ho⟩; (replace HOZ := Lib.hid (on_new HOZ.out ho)); clear ho)
      go_wp2_with (fail)
      clear hHeld
      refine hK.out _ _ (KP.out _ HOZ.out) (fun hHeld => ?_)
      clear hK K
      try simp only [List.set_cons_zero, List.set_cons_succ]
      refine oneA 10 37 hsel (h := ?_)
      simp only [Act.put, List.setIfInBounds_toArray, List.set_cons_zero, List.set_cons_succ]
      refine oneA 11 38 hsel (h := ?_)
      simp only [Act.put, List.setIfInBounds_toArray, List.set_cons_zero, List.set_cons_succ]
      refine oneA 12 6 hsel (h := ?_)
      simp only [Act.put, List.setIfInBounds_toArray, List.set_cons_zero, List.set_cons_succ]
      refine wpAnyL_done (by kernel_rfl) (by kernel_rfl) ?_ _
      clear hsel hHeld
      go_wp2
      go_ret
      exact ⟨_, rfl, by rw [HX.out]; have := HK0.out; simp [this]; omega, on_new HO.out HOZ.out⟩
    · have hd1 : decide (1 ≤ (t : Int)) = false := decide_eq_false ht1
      refine wp_region_list (B := [false, false, false, false, false, false, false, false, false, false, false, false, false]) (S := (fun w' => w'.cell? ⟨w.heap.size + 1, 0, none⟩ = some (.slice P t p))) (by kernel_rfl) (by kernel_rfl) (by kernel_rfl) (KP.out _ HOZ.out) (fun hsel hHeld => ?_)
      refine oneA 0 27 hsel (h := ?_)
      simp only [Act.put, List.setIfInBounds_toArray, List.set_cons_zero, List.set_cons_succ]
      refine oneA 1 28 hsel (h := ?_)
      simp only [Act.put, List.setIfInBounds_toArray, List.set_cons_zero, List.set_cons_succ]
      refine oneA 2 29 hsel (h := ?_)
      simp only [Act.put, List.setIfInBounds_toArray, List.set_cons_zero, List.set_cons_succ]
      refine oneA 3 30 hsel (h := ?_)
      simp only [Act.put, List.setIfInBounds_toArray, List.set_cons_zero, List.set_cons_succ]
      refine oneA 4 31 hsel (h := ?_)
      simp only [Act.put, List.setIfInBounds_toArray, List.set_cons_zero, List.set_cons_succ]
      refine take_skipL (i := 5) (d := 32) (oi := ?_) ?_ hsel (by kernel_rfl) (by kernel_rfl) (fun _ _ _ h => h) ?_ ?_ (by assumption) ?_
      case refine_2 => (simp only [List.getElem?_cons_succ, List.getElem?_cons_zero]; rfl)
      case refine_3 => rfl
      case refine_4 => rfl
      simp only [Act.put, List.setIfInBounds_toArray, List.set_cons_zero, List.set_cons_succ]
      refine take_skipL (i := 6) (d := 33) (oi := ?_) ?_ hsel (by kernel_rfl) (by kernel_rfl) (fun _ _ _ h => h) ?_ ?_ (by assumption) ?_
      case refine_2 => (simp only [List.getElem?_cons_succ, List.getElem?_cons_zero]; rfl)
      case refine_3 => rfl
      case refine_4 => rfl
      simp only [Act.put, List.setIfInBounds_toArray, List.set_cons_zero, List.set_cons_succ]
      refine take_skipL (i := 7) (d := 34) (oi := ?_) ?_ hsel (by kernel_rfl) (by kernel_rfl) (fun _ _ _ h => h) ?_ ?_ (by assumption) ?_
      case refine_2 => (simp only [List.getElem?_cons_succ, List.getElem?_cons_zero]; rfl)
      case refine_3 => rfl
      case refine_4 => rfl
      simp only [Act.put, List.setIfInBounds_toArray, List.set_cons_zero, List.set_cons_succ]
      refine take_skipL (i := 8) (d := 35) (oi := ?_) ?_ hsel (by kernel_rfl) (by kernel_rfl) (fun _ _ _ h => h) ?_ ?_ (by assumption) ?_
      case refine_2 => (simp only [List.getElem?_cons_succ, List.getElem?_cons_zero]; rfl)
      case refine_3 => rfl
      case refine_4 => rfl
      simp only [Act.put, List.setIfInBounds_toArray, List.set_cons_zero, List.set_cons_succ]
      refine take_skipL (i := 9) (d := 36) (oi := ?_) ?_ hsel (by kernel_rfl) (by kernel_rfl) (fun _ _ _ h => h) ?_ ?_ (by assumption) ?_
      case refine_2 => (simp only [List.getElem?_cons_succ, List.getElem?_cons_zero]; rfl)
      case refine_3 => rfl
      case refine_4 => rfl
      simp only [Act.put, List.setIfInBounds_toArray, List.set_cons_zero, List.set_cons_succ]
      refine take_skipL (i := 10) (d := 37) (oi := ?_) ?_ hsel (by kernel_rfl) (by kernel_rfl) (fun _ _ _ h => h) ?_ ?_ (by assumption) ?_
      case refine_2 => (simp only [List.getElem?_cons_succ, List.getElem?_cons_zero]; rfl)
      case refine_3 => rfl
      case refine_4 => rfl
      simp only [Act.put, List.setIfInBounds_toArray, List.set_cons_zero, List.set_cons_succ]
      refine oneA 11 38 hsel (h := ?_)
      simp only [Act.put, List.setIfInBounds_toArray, List.set_cons_zero, List.set_cons_succ]
      refine oneA 12 6 hsel (h := ?_)
      simp only [Act.put, List.setIfInBounds_toArray, List.set_cons_zero, List.set_cons_succ]
      refine wpAnyL_done (by kernel_rfl) (by kernel_rfl) ?_ _
      clear hsel hHeld
      go_wp2
      go_ret
      exact ⟨false, rfl, by rw [HX.out]; have := HK0.out; simp [this]; omega, on_new HO.out HOZ.out⟩

set_option maxRecDepth 100000 in
set_option maxHeartbeats 6400000 in
theorem rises_L (hf : x.leaf = true) (hN : Nod w x true (.slice A n c) (.slice B m d)) (hm1 : n ≤ 1000) : Calls Tryz.prog 61 #[.agg #[.bool true, .slice A n c, .slice B m d]] w (AnsB w (fun b => b = true ↔ RisesR x)) := by
  have HO : Hid (Only (w.heap.size ≤ ·) w (w.alloc (.cells #[.bool true, .slice A n c, .slice B m d] 28))) := (Only.refl _ w).alloc (fun _ h => h) _
  have HRS : Hid (RisesR x ↔ ∀ (k : Nat) y z, x.its[k]? = some y → x.its[k + 1]? = some z → cmp y.1 z.1 < 0) := Lib.hid (by unfold RisesR; rw [hf]; simp)
  have HNL : Hid (n = x.its.length) := Lib.hid hN.2.1.len
  have HR : Hid (∀ (k : Nat), k + 1 < n → ∃ (y1 y2 : It) (z : Int), x.its[k]? = some y1 ∧ x.its[k + 1]? = some y2 ∧ z = cmp y1.1 y2.1 ∧ (∀ W, Only (w.heap.size ≤ ·) w W → Calls Tryz.prog 87 #[.agg #[.bool true, .slice A n c, .slice B m d], .int .i64 k] W (Gave W y1.1)) ∧ (∀ W, Only (w.heap.size ≤ ·) w W → Calls Tryz.prog 87 #[.agg #[.bool true, .slice A n c, .slice B m d], .int .i64 ((k : Int) + 1)] W (Gave W y2.1)) ∧ (∀ W v u, Src W v y1.1 → Src W u y2.1 → Calls Tryz.prog 93 #[v, u] W fun e w' => e = .returned (.int .i64 z) ∧ W = w')) := Lib.hid fun k hk => by
    have hl := HNL.out
    obtain ⟨y, hy⟩ : ∃ y, x.its[k]? = some y := ⟨_, List.getElem?_eq_getElem (by omega)⟩
    obtain ⟨z, hz⟩ : ∃ z, x.its[k + 1]? = some z := ⟨_, List.getElem?_eq_getElem (by omega)⟩
    exact ⟨y, z, _, hy, hz, rfl, fun W hW => itemKey_c W true A B n c m d k x y (hN.later hW) hy, fun W hW => itemKey_c W true A B n c m d (k + 1) x z (hN.later hW) hz, fun W v u h1 h2 => Compare_c W v u y.1 z.1 h1 h2⟩
  clear hN hf
  go_enter Tryz.func61, Tryz.ntmps61
  go_wp2_with (go_at_call 60; (with_reducible refine (entries_leaf _ _ _ _ _ _ _).mono ?_); rintro e w1 ⟨rfl, ho⟩; have HO1 := Lib.hid (on_new HO.out ho); have HB := Lib.hid (Blk.new w1 110 [.int .i64 n, .func (.func 87) #[.agg #[.bool true, .slice A n c, .slice B m d]] #[], .func (.func 88) #[.agg #[.bool true, .slice A n c, .slice B m d]] #[], .func (.func 89) #[.agg #[.bool true, .slice A n c, .slice B m d]] #[]]); have HO2 := Lib.hid (HO1.out.alloc (fun _ h => h) (.cells #[.int .i64 n, .func (.func 87) #[.agg #[.bool true, .slice A n c, .slice B m d]] #[], .func (.func 88) #[.agg #[.bool true, .slice A n c, .slice B m d]] #[], .func (.func 89) #[.agg #[.bool true, .slice A n c, .slice B m d]] #[]] 110)); clear ho; unfold leafEnt)
  go_loopw [4] (fun i wr => ∃ (q : Nat), (q + 1 ≤ n ∨ q = 0) ∧ i = .int .i64 ((q : Int) + 1) ∧ Hid (∀ k, k < q → ∀ y z, x.its[k]? = some y → x.its[k + 1]? = some z → cmp y.1 z.1 < 0) ∧ Only ((w1.alloc (.cells #[.int .i64 n, .func (.func 87) #[.agg #[.bool true, .slice A n c, .slice B m d]] #[], .func (.func 88) #[.agg #[.bool true, .slice A n c, .slice B m d]] #[], .func (.func 89) #[.agg #[.bool true, .slice A n c, .slice B m d]] #[]] 110)).heap.size ≤ ·) (w1.alloc (.cells #[.int .i64 n, .func (.func 87) #[.agg #[.bool true, .slice A n c, .slice B m d]] #[], .func (.func 88) #[.agg #[.bool true, .slice A n c, .slice B m d]] #[], .func (.func 89) #[.agg #[.bool true, .slice A n c, .slice B m d]] #[]] 110)) wr) (fun i _ => n - (intOf i).toNat)
  case atStart => exact ⟨0, .inr rfl, rfl, Lib.hid (fun k hk => by omega), Only.refl _ _⟩
  case round =>
    obtain ⟨q, hk, rfl, HU, ho⟩ := hrel
    have HOR := Lib.hid (on_new HO2.out ho)
    have HBR := Lib.hid (HB.out.later ho)
    have HOL := Lib.hid ho
    clear ho HB
    obtain ⟨b0, b1, b2, b3⟩ := HBR.out.four
    by_cases hlt : q + 1 < n
    · obtain ⟨y1, y2, z, hy1, hy2, hz, h1, h2, h3⟩ := HR.out q hlt
      have HH := Lib.hid (And.intro h1 (And.intro h2 h3))
      have HY := Lib.hid (And.intro hy1 (And.intro hy2 hz))
      have hlti : (q : Int) + 1 < (n : Int) := by omega
      clear h1 h2 h3 hy1 hy2 hz
      go_wp2_with (fail)
      have HOZ : Hid (Only (wr.heap.size ≤ ·) wr wr.drew) := (Only.refl _ _).drew
      have KP : Hid (∀ w' : World, Only (wr.heap.size ≤ ·) wr w' → w'.cell? ⟨w1.heap.size, 1, none⟩ = some (.func (.func 87) #[.agg #[.bool true, .slice A n c, .slice B m d]] #[])) := fun W hW => (HBR.out.later hW).four.2.1
      have hw1 : IntKind.i64.wrap (q : Int) = (q : Int) := IntWalk.i64_in _ (by omega)
      clear b0 b1 b2 b3
      refine wp_region_list (B := [false, false, false, false, false, false, false, false, false, false, false]) (S := (fun w' => w'.cell? ⟨w1.heap.size, 1, none⟩ = some (.func (.func 87) #[.agg #[.bool true, .slice A n c, .slice B m d]] #[]))) (by kernel_rfl) (by kernel_rfl) (by kernel_rfl) (KP.out _ HOZ.out) (fun hsel hHeld => ?_)
      refine oneA 0 13 hsel (h := ?_)
      simp only [Act.put, List.setIfInBounds_toArray, List.set_cons_zero, List.set_cons_succ]
      refine oneA 1 14 hsel (h := ?_)
      simp only [Act.put, List.setIfInBounds_toArray, List.set_cons_zero, List.set_cons_succ]
      refine oneA 2 15 hsel (h := ?_)
      simp only [Act.put, List.setIfInBounds_toArray, List.set_cons_zero, List.set_cons_succ]
      refine oneA 3 16 hsel (h := ?_)
      simp only [Act.put, List.setIfInBounds_toArray, List.set_cons_zero, List.set_cons_succ]
      refine oneA 5 18 hsel (h := ?_)
      simp only [Act.put, List.setIfInBounds_toArray, List.set_cons_zero, List.set_cons_succ]
      refine oneA 6 19 hsel (h := ?_)
      simp only [Act.put, List.setIfInBounds_toArray, List.set_cons_zero, List.set_cons_succ]
      refine oneA 7 20 hsel (h := ?_)
      simp only [Act.put, List.setIfInBounds_toArray, List.set_cons_zero, List.set_cons_succ]
      refine wpAnyL_ready (rs := [4]) (by kernel_rfl) (by kernel_rfl) (by simp) ?_
      refine AllReadyL.cons (o := ?_) ?_ (fun K hK => ?_) AllReadyL.nil
      case refine_2 => (simp only [List.getElem?_cons_succ, List.getElem?_cons_zero]; rfl)
      go_simp
      (go_at_call 87; (with_reducible refine (HH.out.1 _ (on_new HOR.out HOZ.out)).mono ?_); rintro e w3 ⟨P1, p1, rfl, hs1, ho⟩; have HS1 := Lib.hid hs1; (replace HOZ := Lib.hid (on_new HOZ.out ho)); clear ho hs1)
      go_wp2_with (fail)
      clear hHeld
      refine hK.out _ _ (KP.out _ HOZ.out) (fun hHeld => ?_)
      clear hK K
      try simp only [List.set_cons_zero, List.set_cons_succ]
      refine wpAnyL_ready (rs := [8]) (by kernel_rfl) (by kernel_rfl) (by simp) ?_
      refine AllReadyL.cons (o := ?_) ?_ (fun K hK => ?_) AllReadyL.nil
      case refine_2 => (simp only [List.getElem?_cons_succ, List.getElem?_cons_zero]; rfl)
      go_simp
      (go_at_call 87; (with_reducible refine (HH.out.2.1 _ (on_new HOR.out HOZ.out)).mono ?_); rintro e w4 ⟨P2, p2, rfl, hs2, ho⟩; (replace HS1 := Lib.hid (HS1.out.later ho)); have HS2 := Lib.hid hs2; (replace HOZ := Lib.hid (on_new HOZ.out ho)); clear ho hs2)
      go_wp2_with (fail)
      clear hHeld
      refine hK.out _ _ (KP.out _ HOZ.out) (fun hHeld => ?_)
      clear hK K
      try simp only [List.set_cons_zero, List.set_cons_succ]
      refine wpAnyL_ready (rs := [9]) (by kernel_rfl) (by kernel_rfl) (by simp) ?_
      refine AllReadyL.cons (o := ?_) ?_ (fun K hK => ?_) AllReadyL.nil
      case refine_2 => (simp only [List.getElem?_cons_succ, List.getElem?_cons_zero]; rfl)
      go_simp
      (go_at_call 93; (with_reducible refine (HH.out.2.2 _ _ _ HS1.out HS2.out).mono ?_); rintro e w' ⟨rfl, rfl⟩)
      go_wp2_with (fail)
      clear hHeld
      refine hK.out _ _ (KP.out _ HOZ.out) (fun hHeld => ?_)
      clear hK K
      try simp only [List.set_cons_zero, List.set_cons_succ]
      refine oneA 10 23 hsel (h := ?_)
      simp only [Act.put, List.setIfInBounds_toArray, List.set_cons_zero, List.set_cons_succ]
      refine wpAnyL_done (by kernel_rfl) (by kernel_rfl) ?_ _
      clear hsel hHeld
      clear hw1
      by_cases hz2 : 0 ≤ z
      · go_wp2
        go_ret
        refine ⟨false, rfl, ?_, on_new HOR.out HOZ.out⟩
        rw [HRS.out]
        obtain ⟨hy1, hy2, hz⟩ := HY.out
        exact ⟨fun h => (by simp at h), fun h => absurd (h q _ _ hy1 hy2) (by omega)⟩
      · go_wp2
        go_roundw
        case rel => exact ⟨q + 1, .inl (by omega), by go_num, Lib.hid (fun k hk y z' hy hz' => by
          obtain ⟨hy1, hy2, hz⟩ := HY.out
          by_cases hkq : k < q
          · exact HU.out k hkq y z' hy hz'
          · obtain rfl : k = q := by omega
            rw [hy1] at hy
            rw [hy2] at hz'
            cases hy
            cases hz'
            omega), on_new HOL.out HOZ.out⟩
        case measure => simp [intOf]; omega
    · have hlti : ¬ (q : Int) + 1 < (n : Int) := by omega
      go_wp2
      go_ret
      refine ⟨true, rfl, ?_, HOR.out⟩
      rw [HRS.out]
      refine ⟨fun _ k y z hy hz => ?_, fun _ => rfl⟩
      have hl := HNL.out
      have := (List.getElem?_eq_some_iff.1 hz).1
      exact HU.out k (by omega) y z hy hz

theorem small_L (hf : x.leaf = true) (hp : PureR x) (he : EachR g x) (hl : x.its.length ≤ 1000) : Small x := by
  unfold PureR at hp
  unfold EachR at he
  rw [hf] at hp he
  simp only [if_true] at hp he
  refine ⟨hl, by rw [hp]; simp, fun i hi => ?_, by rw [hp]; simp⟩
  obtain ⟨k, hk, e⟩ := List.mem_iff_getElem.1 hi
  have := he k i (by rw [← e]; exact List.getElem?_eq_getElem hk)
  unfold ItR okay keyOk at this
  simp only [Bool.and_eq_true, decide_eq_true_eq] at this
  obtain ⟨hg, ⟨_, h1⟩, h2, h3⟩ := this
  unfold putOk at h3
  rw [decide_eq_true_eq] at h3
  have t1 : tr g 16 20 24 ≤ 24 := by rcases (gen_iff g).1 hg with rfl | rfl | rfl <;> decide
  have t2 : tr g 400 800 1600 ≤ 1600 := by rcases (gen_iff g).1 hg with rfl | rfl | rfl <;> decide
  unfold long at h2
  refine ⟨by omega, ?_⟩
  split at h2 <;> omega

set_option maxRecDepth 100000 in
set_option maxHeartbeats 12800000 in
theorem Right_L (hf : x.leaf = true) (hN : Nod w x true (.slice A n c) (.slice B m d)) (hg : Gens w) (hm1 : n ≤ 1000) :
    Calls Tryz.prog 25 #[.int .i64 g, .agg #[.bool true, .slice A n c, .slice B m d]] w (AnsB w (fun b => b = true ↔ RightN g x)) := by
  have HO : Hid (Only (w.heap.size ≤ ·) w (w.alloc (.cells #[.bool true, .slice A n c, .slice B m d] 28))) := (Only.refl _ w).alloc (fun _ h => h) _
  have HI : Hid (Blk (w.alloc (.cells #[.bool true, .slice A n c, .slice B m d] 28)) w.heap.size 28 [.bool true, .slice A n c, .slice B m d]) := Blk.new w 28 _
  have HNL : Hid (n = x.its.length) := Lib.hid hN.2.1.len
  obtain ⟨gb, hgb⟩ : ∃ b, gen g = b := ⟨_, rfl⟩
  obtain ⟨pb, hpb⟩ : ∃ b, decide (m = 0) = b := ⟨_, rfl⟩
  have HPU : Hid (pb = true ↔ PureR x) := Lib.hid (by
    have h1 := hN.2.1.len
    have h2 := hN.2.2.len
    rw [← hpb]
    unfold PureR
    rw [hf]
    simp [h2])
  have HGN : Hid (∀ W, Calls Tryz.prog 35 #[.int .i64 g] W fun e w' => e = .returned (.bool gb) ∧ W = w') := fun W => by rw [← hgb]; exact Gen_c W g
  have HP : Hid (∀ W, Calls Tryz.prog 59 #[.agg #[.bool true, .slice A n c, .slice B m d]] W (Told W (.bool pb))) := fun W => pure_x W A B n c m d true pb hpb
  have HRI : Hid (∀ W, Only (w.heap.size ≤ ·) w W → Calls Tryz.prog 61 #[.agg #[.bool true, .slice A n c, .slice B m d]] W (AnsB W (fun b => b = true ↔ RisesR x))) := fun W hW => rises_L W A B n c m d x hf (hN.later hW) hm1
  have HFT : Hid (∀ W, PureR x → EachR g x → Only (w.heap.size ≤ ·) w W → Calls Tryz.prog 62 #[.int .i64 g, .agg #[.bool true, .slice A n c, .slice B m d]] W (Told W (.bool (nfit g x)))) := fun W hp he hW => Fits_n W A B n c m d x g true _ rfl (hN.later hW) (hg.later hW) (small_L x g hf hp he (by rw [← HNL.out]; exact hm1))
  have HEC : Hid (EachR g x ↔ ∀ (k : Nat) i, x.its[k]? = some i → ItR g i) := Lib.hid (by unfold EachR; rw [hf]; simp)
  have HKR : Hid (∀ W (k : Nat), k < n → Only (w.heap.size ≤ ·) w W → ∃ i, x.its[k]? = some i ∧ Calls Tryz.prog 89 #[.agg #[.bool true, .slice A n c, .slice B m d], .int .i64 g, .int .i64 k] W (AnsB W (fun b => b = true ↔ ItR g i))) := fun W k hkm hW => by
    have hl := hN.2.1.len
    obtain ⟨y, hy⟩ : ∃ y, x.its[k]? = some y := ⟨_, List.getElem?_eq_getElem (by omega)⟩
    exact ⟨y, hy, (itemRight_x W A B n c m d x g true k y _ rfl (hN.later hW) (hg.later hW) hy).mono fun e w' h => ⟨_, h.1, Iff.rfl, h.2⟩⟩
  have HGB := Lib.hid hgb
  clear hN hg hgb hpb hf
  cases gb
  · go_enter Tryz.func25, Tryz.ntmps25
    go_wp2_with (go_at_call 35; (with_reducible refine (HGN.out _).mono ?_); rintro e w' ⟨rfl, rfl⟩)
    go_ret
    exact ⟨false, rfl, by unfold RightN; rw [HGB.out]; simp, HO.out⟩
  cases pb
  · go_enter Tryz.func25, Tryz.ntmps25
    go_wp2_with (first
      | (go_at_call 35; (with_reducible refine (HGN.out _).mono ?_); rintro e w' ⟨rfl, rfl⟩)
      | (go_at_call 59; (with_reducible refine (HP.out _).mono ?_); rintro e w0 ⟨rfl, ho⟩; (replace HO := Lib.hid (on_new HO.out ho)); clear ho))
    go_ret
    exact ⟨false, rfl, by unfold RightN; rw [← HPU.out]; simp, HO.out⟩
  go_enter Tryz.func25, Tryz.ntmps25
  go_wp2_with (first
    | (go_at_call 35; (with_reducible refine (HGN.out _).mono ?_); rintro e w' ⟨rfl, rfl⟩)
    | (go_at_call 59; (with_reducible refine (HP.out _).mono ?_); rintro e w0 ⟨rfl, ho⟩; (replace HI := Lib.hid (HI.out.later ho)); (obtain ⟨i0, i1, i2⟩ := HI.out.tri); (replace HO := Lib.hid (on_new HO.out ho)); clear ho)
    | (go_at_call 60; (with_reducible refine (entries_leaf _ _ _ _ _ _ _).mono ?_); rintro e w1 ⟨rfl, ho⟩; have HI1 := Lib.hid (HI.out.later ho); have HO1 := Lib.hid (on_new HO.out ho); have HB := Lib.hid (Blk.new w1 110 [.int .i64 n, .func (.func 87) #[.agg #[.bool true, .slice A n c, .slice B m d]] #[], .func (.func 88) #[.agg #[.bool true, .slice A n c, .slice B m d]] #[], .func (.func 89) #[.agg #[.bool true, .slice A n c, .slice B m d]] #[]]); have HO2 := Lib.hid (HO1.out.alloc (fun _ h => h) (.cells #[.int .i64 n, .func (.func 87) #[.agg #[.bool true, .slice A n c, .slice B m d]] #[], .func (.func 88) #[.agg #[.bool true, .slice A n c, .slice B m d]] #[], .func (.func 89) #[.agg #[.bool true, .slice A n c, .slice B m d]] #[]] 110)); have HI2 := Lib.hid (HI1.out.alloc (.cells #[.int .i64 n, .func (.func 87) #[.agg #[.bool true, .slice A n c, .slice B m d]] #[], .func (.func 88) #[.agg #[.bool true, .slice A n c, .slice B m d]] #[], .func (.func 89) #[.agg #[.bool true, .slice A n c, .slice B m d]] #[]] 110)); clear ho; unfold leafEnt))
  go_loopw [19] (fun i wr => ∃ (k : Nat), k ≤ n ∧ i = .int .i64 k ∧ Hid (∀ q, q < k → ∀ i, x.its[q]? = some i → ItR g i) ∧ Only ((w1.alloc (.cells #[.int .i64 n, .func (.func 87) #[.agg #[.bool true, .slice A n c, .slice B m d]] #[], .func (.func 88) #[.agg #[.bool true, .slice A n c, .slice B m d]] #[], .func (.func 89) #[.agg #[.bool true, .slice A n c, .slice B m d]] #[]] 110)).heap.size ≤ ·) (w1.alloc (.cells #[.int .i64 n, .func (.func 87) #[.agg #[.bool true, .slice A n c, .slice B m d]] #[], .func (.func 88) #[.agg #[.bool true, .slice A n c, .slice B m d]] #[], .func (.func 89) #[.agg #[.bool true, .slice A n c, .slice B m d]] #[]] 110)) wr) (fun i _ => n - (intOf i).toNat)
  case atStart => exact ⟨0, Nat.zero_le _, rfl, Lib.hid (fun q hq => by omega), Only.refl _ _⟩
  case round =>
    obtain ⟨k, hk, rfl, HU, ho⟩ := hrel
    have HOR := Lib.hid (on_new HO2.out ho)
    have HBR := Lib.hid (HB.out.later ho)
    have HIR := Lib.hid (HI2.out.later ho)
    have HOL := Lib.hid ho
    clear ho HB
    obtain ⟨b0, b1, b2, b3⟩ := HBR.out.four
    obtain ⟨i0, i1, i2⟩ := HIR.out.tri
    by_cases hlt : k < n
    · obtain ⟨y, hy, hc⟩ := HKR.out _ k hlt HOR.out
      have HY := Lib.hid hy
      have HC := Lib.hid hc
      clear hy hc
      go_wp2_with (go_at_call 89; (with_reducible refine HC.out.mono ?_); rintro e w3 ⟨rb, rfl, hrb, ho⟩; have HO3 := Lib.hid (on_new HOL.out ho); have HRB := Lib.hid hrb; clear ho hrb; cases rb)
      · go_ret
        refine ⟨false, rfl, ?_, on_new HO2.out HO3.out⟩
        refine ⟨fun h => (by simp at h), fun h => ?_⟩
        exact absurd (HRB.out.2 (HEC.out.1 h.2.2.1 k y HY.out)) (by simp)
      · go_roundw
        case rel => exact ⟨k + 1, by omega, by go_num, Lib.hid (fun q hq i hi => by
          by_cases hqk : q < k
          · exact HU.out q hqk i hi
          · obtain rfl : q = k := by omega
            rw [HY.out] at hi
            cases hi
            exact HRB.out.1 (by simp)), HO3.out⟩
        case measure => simp [intOf]; omega
    · obtain rfl : n = k := by omega
      have hkm : ¬ (n : Int) < (n : Int) := by omega
      have HE : Hid (EachR g x) := Lib.hid (HEC.out.2 fun k i hi => HU.out k (by have := (List.getElem?_eq_some_iff.1 hi).1; have := HNL.out; omega) i hi)
      have HF2 : Hid (∀ W, Only (w.heap.size ≤ ·) w W → Calls Tryz.prog 62 #[.int .i64 g, .agg #[.bool true, .slice A n c, .slice B m d]] W (Told W (.bool (nfit g x)))) := Lib.hid fun W hW => HFT.out W (HPU.out.1 (by simp)) HE.out hW
      obtain ⟨nf, hnf⟩ : ∃ b, b = nfit g x := ⟨_, rfl⟩
      rw [← hnf] at HF2
      have HNF := Lib.hid hnf
      clear hnf
      go_wp2_with (first
        | (go_at_call 61; (with_reducible refine (HRI.out _ HOR.out).mono ?_); rintro e w4 ⟨rb, rfl, hrb, ho⟩; (replace HOR := Lib.hid (on_new HOR.out ho)); (replace HIR := Lib.hid (HIR.out.later ho)); have HRB := Lib.hid hrb; (obtain ⟨i0, i1, i2⟩ := HIR.out.tri); clear ho hrb; cases rb)
        | (go_at_call 62; (with_reducible refine (HF2.out _ HOR.out).mono ?_); rintro e w5 ⟨rfl, ho⟩; (replace HOR := Lib.hid (on_new HOR.out ho)); clear ho))
      · go_ret
        exact ⟨false, rfl, ⟨fun h => (by simp at h), fun h => absurd (HRB.out.2 h.2.2.2.1) (by simp)⟩, HOR.out⟩
      · go_ret
        refine ⟨nf, rfl, ?_, HOR.out⟩
        rw [HNF.out]
        exact ⟨fun h => ⟨HGB.out, HPU.out.1 (by simp), HE.out, HRB.out.1 (by simp), h⟩, fun h => h.2.2.2.2⟩

set_option maxRecDepth 100000 in
set_option maxHeartbeats 6400000 in
theorem rises_K (hf : x.leaf = false) (hN : Nod w x false (.slice A n c) (.slice B m d)) (hm1 : m ≤ 1000) : Calls Tryz.prog 61 #[.agg #[.bool false, .slice A n c, .slice B m d]] w (AnsB w (fun b => b = true ↔ RisesR x)) := by
  have HO : Hid (Only (w.heap.size ≤ ·) w (w.alloc (.cells #[.bool false, .slice A n c, .slice B m d] 28))) := (Only.refl _ w).alloc (fun _ h => h) _
  have HRS : Hid (RisesR x ↔ ∀ (k : Nat) y z, x.kds[k]? = some y → x.kds[k + 1]? = some z → cmp y.1 z.1 < 0) := Lib.hid (by unfold RisesR; rw [hf]; simp)
  have HNL : Hid (m = x.kds.length) := Lib.hid hN.2.2.len
  have HR : Hid (∀ (k : Nat), k + 1 < m → ∃ (y1 y2 : Kd) (z : Int), x.kds[k]? = some y1 ∧ x.kds[k + 1]? = some y2 ∧ z = cmp y1.1 y2.1 ∧ (∀ W, Only (w.heap.size ≤ ·) w W → Calls Tryz.prog 90 #[.agg #[.bool false, .slice A n c, .slice B m d], .int .i64 k] W (Gave W y1.1)) ∧ (∀ W, Only (w.heap.size ≤ ·) w W → Calls Tryz.prog 90 #[.agg #[.bool false, .slice A n c, .slice B m d], .int .i64 ((k : Int) + 1)] W (Gave W y2.1)) ∧ (∀ W v u, Src W v y1.1 → Src W u y2.1 → Calls Tryz.prog 93 #[v, u] W fun e w' => e = .returned (.int .i64 z) ∧ W = w')) := Lib.hid fun k hk => by
    have hl := HNL.out
    obtain ⟨y, hy⟩ : ∃ y, x.kds[k]? = some y := ⟨_, List.getElem?_eq_getElem (by omega)⟩
    obtain ⟨z, hz⟩ : ∃ z, x.kds[k + 1]? = some z := ⟨_, List.getElem?_eq_getElem (by omega)⟩
    exact ⟨y, z, _, hy, hz, rfl, fun W hW => kidKey_c W false A B n c m d k x y (hN.later hW) hy, fun W hW => kidKey_c W false A B n c m d (k + 1) x z (hN.later hW) hz, fun W v u h1 h2 => Compare_c W v u y.1 z.1 h1 h2⟩
  clear hN hf
  go_enter Tryz.func61, Tryz.ntmps61
  go_wp2_with (go_at_call 60; (with_reducible refine (entries_kids _ _ _ _ _ _ _).mono ?_); rintro e w1 ⟨rfl, ho⟩; have HO1 := Lib.hid (on_new HO.out ho); have HB := Lib.hid (Blk.new w1 110 [.int .i64 m, .func (.func 90) #[.agg #[.bool false, .slice A n c, .slice B m d]] #[], .func (.func 91) #[.agg #[.bool false, .slice A n c, .slice B m d]] #[], .func (.func 92) #[.agg #[.bool false, .slice A n c, .slice B m d]] #[]]); have HO2 := Lib.hid (HO1.out.alloc (fun _ h => h) (.cells #[.int .i64 m, .func (.func 90) #[.agg #[.bool false, .slice A n c, .slice B m d]] #[], .func (.func 91) #[.agg #[.bool false, .slice A n c, .slice B m d]] #[], .func (.func 92) #[.agg #[.bool false, .slice A n c, .slice B m d]] #[]] 110)); clear ho; unfold kidsEnt)
  go_loopw [4] (fun i wr => ∃ (q : Nat), (q + 1 ≤ m ∨ q = 0) ∧ i = .int .i64 ((q : Int) + 1) ∧ Hid (∀ k, k < q → ∀ y z, x.kds[k]? = some y → x.kds[k + 1]? = some z → cmp y.1 z.1 < 0) ∧ Only ((w1.alloc (.cells #[.int .i64 m, .func (.func 90) #[.agg #[.bool false, .slice A n c, .slice B m d]] #[], .func (.func 91) #[.agg #[.bool false, .slice A n c, .slice B m d]] #[], .func (.func 92) #[.agg #[.bool false, .slice A n c, .slice B m d]] #[]] 110)).heap.size ≤ ·) (w1.alloc (.cells #[.int .i64 m, .func (.func 90) #[.agg #[.bool false, .slice A n c, .slice B m d]] #[], .func (.func 91) #[.agg #[.bool false, .slice A n c, .slice B m d]] #[], .func (.func 92) #[.agg #[.bool false, .slice A n c, .slice B m d]] #[]] 110)) wr) (fun i _ => m - (intOf i).toNat)
  case atStart => exact ⟨0, .inr rfl, rfl, Lib.hid (fun k hk => by omega), Only.refl _ _⟩
  case round =>
    obtain ⟨q, hk, rfl, HU, ho⟩ := hrel
    have HOR := Lib.hid (on_new HO2.out ho)
    have HBR := Lib.hid (HB.out.later ho)
    have HOL := Lib.hid ho
    clear ho HB
    obtain ⟨b0, b1, b2, b3⟩ := HBR.out.four
    by_cases hlt : q + 1 < m
    · obtain ⟨y1, y2, z, hy1, hy2, hz, h1, h2, h3⟩ := HR.out q hlt
      have HH := Lib.hid (And.intro h1 (And.intro h2 h3))
      have HY := Lib.hid (And.intro hy1 (And.intro hy2 hz))
      have hlti : (q : Int) + 1 < (m : Int) := by omega
      clear h1 h2 h3 hy1 hy2 hz
      go_wp2_with (fail)
      have HOZ : Hid (Only (wr.heap.size ≤ ·) wr wr.drew) := (Only.refl _ _).drew
      have KP : Hid (∀ w' : World, Only (wr.heap.size ≤ ·) wr w' → w'.cell? ⟨w1.heap.size, 1, none⟩ = some (.func (.func 90) #[.agg #[.bool false, .slice A n c, .slice B m d]] #[])) := fun W hW => (HBR.out.later hW).four.2.1
      have hw1 : IntKind.i64.wrap (q : Int) = (q : Int) := IntWalk.i64_in _ (by omega)
      clear b0 b1 b2 b3
      refine wp_region_list (B := [false, false, false, false, false, false, false, false, false, false, false]) (S := (fun w' => w'.cell? ⟨w1.heap.size, 1, none⟩ = some (.func (.func 90) #[.agg #[.bool false, .slice A n c, .slice B m d]] #[]))) (by kernel_rfl) (by kernel_rfl) (by kernel_rfl) (KP.out _ HOZ.out) (fun hsel hHeld => ?_)
      refine oneA 0 13 hsel (h := ?_)
      simp only [Act.put, List.setIfInBounds_toArray, List.set_cons_zero, List.set_cons_succ]
      refine oneA 1 14 hsel (h := ?_)
      simp only [Act.put, List.setIfInBounds_toArray, List.set_cons_zero, List.set_cons_succ]
      refine oneA 2 15 hsel (h := ?_)
      simp only [Act.put, List.setIfInBounds_toArray, List.set_cons_zero, List.set_cons_succ]
      refine oneA 3 16 hsel (h := ?_)
      simp only [Act.put, List.setIfInBounds_toArray, List.set_cons_zero, List.set_cons_succ]
      refine oneA 5 18 hsel (h := ?_)
      simp only [Act.put, List.setIfInBounds_toArray, List.set_cons_zero, List.set_cons_succ]
      refine oneA 6 19 hsel (h := ?_)
      simp only [Act.put, List.setIfInBounds_toArray, List.set_cons_zero, List.set_cons_succ]
      refine oneA 7 20 hsel (h := ?_)
      simp only [Act.put, List.setIfInBounds_toArray, List.set_cons_zero, List.set_cons_succ]
      refine wpAnyL_ready (rs := [4]) (by kernel_rfl) (by kernel_rfl) (by simp) ?_
      refine AllReadyL.cons (o := ?_) ?_ (fun K hK => ?_) AllReadyL.nil
      case refine_2 => (simp only [List.getElem?_cons_succ, List.getElem?_cons_zero]; rfl)
      go_simp
      (go_at_call 90; (with_reducible refine (HH.out.1 _ (on_new HOR.out HOZ.out)).mono ?_); rintro e w3 ⟨P1, p1, rfl, hs1, ho⟩; have HS1 := Lib.hid hs1; (replace HOZ := Lib.hid (on_new HOZ.out ho)); clear ho hs1)
      go_wp2_with (fail)
      clear hHeld
      refine hK.out _ _ (KP.out _ HOZ.out) (fun hHeld => ?_)
      clear hK K
      try simp only [List.set_cons_zero, List.set_cons_succ]
      refine wpAnyL_ready (rs := [8]) (by kernel_rfl) (by kernel_rfl) (by simp) ?_
      refine AllReadyL.cons (o := ?_) ?_ (fun K hK => ?_) AllReadyL.nil
      case refine_2 => (simp only [List.getElem?_cons_succ, List.getElem?_cons_zero]; rfl)
      go_simp
      (go_at_call 90; (with_reducible refine (HH.out.2.1 _ (on_new HOR.out HOZ.out)).mono ?_); rintro e w4 ⟨P2, p2, rfl, hs2, ho⟩; (replace HS1 := Lib.hid (HS1.out.later ho)); have HS2 := Lib.hid hs2; (replace HOZ := Lib.hid (on_new HOZ.out ho)); clear ho hs2)
      go_wp2_with (fail)
      clear hHeld
      refine hK.out _ _ (KP.out _ HOZ.out) (fun hHeld => ?_)
      clear hK K
      try simp only [List.set_cons_zero, List.set_cons_succ]
      refine wpAnyL_ready (rs := [9]) (by kernel_rfl) (by kernel_rfl) (by simp) ?_
      refine AllReadyL.cons (o := ?_) ?_ (fun K hK => ?_) AllReadyL.nil
      case refine_2 => (simp only [List.getElem?_cons_succ, List.getElem?_cons_zero]; rfl)
      go_simp
      (go_at_call 93; (with_reducible refine (HH.out.2.2 _ _ _ HS1.out HS2.out).mono ?_); rintro e w' ⟨rfl, rfl⟩)
      go_wp2_with (fail)
      clear hHeld
      refine hK.out _ _ (KP.out _ HOZ.out) (fun hHeld => ?_)
      clear hK K
      try simp only [List.set_cons_zero, List.set_cons_succ]
      refine oneA 10 23 hsel (h := ?_)
      simp only [Act.put, List.setIfInBounds_toArray, List.set_cons_zero, List.set_cons_succ]
      refine wpAnyL_done (by kernel_rfl) (by kernel_rfl) ?_ _
      clear hsel hHeld
      clear hw1
      by_cases hz2 : 0 ≤ z
      · go_wp2
        go_ret
        refine ⟨false, rfl, ?_, on_new HOR.out HOZ.out⟩
        rw [HRS.out]
        obtain ⟨hy1, hy2, hz⟩ := HY.out
        exact ⟨fun h => (by simp at h), fun h => absurd (h q _ _ hy1 hy2) (by omega)⟩
      · go_wp2
        go_roundw
        case rel => exact ⟨q + 1, .inl (by omega), by go_num, Lib.hid (fun k hk y z' hy hz' => by
          obtain ⟨hy1, hy2, hz⟩ := HY.out
          by_cases hkq : k < q
          · exact HU.out k hkq y z' hy hz'
          · obtain rfl : k = q := by omega
            rw [hy1] at hy
            rw [hy2] at hz'
            cases hy
            cases hz'
            omega), on_new HOL.out HOZ.out⟩
        case measure => simp [intOf]; omega
    · have hlti : ¬ (q : Int) + 1 < (m : Int) := by omega
      go_wp2
      go_ret
      refine ⟨true, rfl, ?_, HOR.out⟩
      rw [HRS.out]
      refine ⟨fun _ k y z hy hz => ?_, fun _ => rfl⟩
      have hl := HNL.out
      have := (List.getElem?_eq_some_iff.1 hz).1
      exact HU.out k (by omega) y z hy hz

theorem small_K (hf : x.leaf = false) (hp : PureR x) (he : EachR g x) (hl : x.kds.length ≤ 1000) : Small x := by
  unfold PureR at hp
  unfold EachR at he
  rw [hf] at hp he
  simp only [Bool.false_eq_true, if_false] at hp he
  refine ⟨by rw [hp.1]; simp, hl, by rw [hp.1]; simp, fun i hi => ?_⟩
  obtain ⟨k, hk, e⟩ := List.mem_iff_getElem.1 hi
  have := he k i (by rw [← e]; exact List.getElem?_eq_getElem hk)
  unfold KidR at this
  have t1 : tr g 16 20 24 ≤ 24 := by unfold tr; split <;> (try split) <;> (try split) <;> omega
  rcases Nat.eq_zero_or_pos k with h0 | h0
  · have := this.2.1 h0
    omega
  · have := (this.2.2 (by omega)).2
    omega

set_option maxRecDepth 100000 in
set_option maxHeartbeats 12800000 in
theorem Right_K (hf : x.leaf = false) (hN : Nod w x false (.slice A n c) (.slice B m d)) (hg : Gens w) (hm1 : m ≤ 1000) :
    Calls Tryz.prog 25 #[.int .i64 g, .agg #[.bool false, .slice A n c, .slice B m d]] w (AnsB w (fun b => b = true ↔ RightN g x)) := by
  have HO : Hid (Only (w.heap.size ≤ ·) w (w.alloc (.cells #[.bool false, .slice A n c, .slice B m d] 28))) := (Only.refl _ w).alloc (fun _ h => h) _
  have HI : Hid (Blk (w.alloc (.cells #[.bool false, .slice A n c, .slice B m d] 28)) w.heap.size 28 [.bool false, .slice A n c, .slice B m d]) := Blk.new w 28 _
  have HNL : Hid (m = x.kds.length) := Lib.hid hN.2.2.len
  obtain ⟨gb, hgb⟩ : ∃ b, gen g = b := ⟨_, rfl⟩
  obtain ⟨pb, hpb⟩ : ∃ b, (decide (n = 0) && decide (0 < m)) = b := ⟨_, rfl⟩
  have HPU : Hid (pb = true ↔ PureR x) := Lib.hid (by
    have h1 := hN.2.1.len
    have h2 := hN.2.2.len
    rw [← hpb]
    unfold PureR
    rw [hf]
    simp [h1, h2, List.length_pos_iff])
  have HGN : Hid (∀ W, Calls Tryz.prog 35 #[.int .i64 g] W fun e w' => e = .returned (.bool gb) ∧ W = w') := fun W => by rw [← hgb]; exact Gen_c W g
  have HP : Hid (∀ W, Calls Tryz.prog 59 #[.agg #[.bool false, .slice A n c, .slice B m d]] W (Told W (.bool pb))) := fun W => pure_x W A B n c m d false pb hpb
  have HRI : Hid (∀ W, Only (w.heap.size ≤ ·) w W → Calls Tryz.prog 61 #[.agg #[.bool false, .slice A n c, .slice B m d]] W (AnsB W (fun b => b = true ↔ RisesR x))) := fun W hW => rises_K W A B n c m d x hf (hN.later hW) hm1
  have HFT : Hid (∀ W, PureR x → EachR g x → Only (w.heap.size ≤ ·) w W → Calls Tryz.prog 62 #[.int .i64 g, .agg #[.bool false, .slice A n c, .slice B m d]] W (Told W (.bool (nfit g x)))) := fun W hp he hW => Fits_n W A B n c m d x g false _ rfl (hN.later hW) (hg.later hW) (small_K x g hf hp he (by rw [← HNL.out]; exact hm1))
  have HEC : Hid (EachR g x ↔ ∀ (k : Nat) i, x.kds[k]? = some i → KidR g k i) := Lib.hid (by unfold EachR; rw [hf]; simp)
  have HKR : Hid (∀ W (k : Nat), k < m → Only (w.heap.size ≤ ·) w W → ∃ i, x.kds[k]? = some i ∧ Calls Tryz.prog 92 #[.agg #[.bool false, .slice A n c, .slice B m d], .int .i64 g, .int .i64 k] W (AnsB W (fun b => b = true ↔ KidR g k i))) := fun W k hkm hW => by
    have hl := hN.2.2.len
    obtain ⟨y, hy⟩ : ∃ y, x.kds[k]? = some y := ⟨_, List.getElem?_eq_getElem (by omega)⟩
    exact ⟨y, hy, kidRight_x W A B n c m d x g k y (hN.later hW) (hg.later hW) hy⟩
  have HGB := Lib.hid hgb
  clear hN hg hgb hpb hf
  cases gb
  · go_enter Tryz.func25, Tryz.ntmps25
    go_wp2_with (go_at_call 35; (with_reducible refine (HGN.out _).mono ?_); rintro e w' ⟨rfl, rfl⟩)
    go_ret
    exact ⟨false, rfl, by unfold RightN; rw [HGB.out]; simp, HO.out⟩
  cases pb
  · go_enter Tryz.func25, Tryz.ntmps25
    go_wp2_with (first
      | (go_at_call 35; (with_reducible refine (HGN.out _).mono ?_); rintro e w' ⟨rfl, rfl⟩)
      | (go_at_call 59; (with_reducible refine (HP.out _).mono ?_); rintro e w0 ⟨rfl, ho⟩; (replace HO := Lib.hid (on_new HO.out ho)); clear ho))
    go_ret
    exact ⟨false, rfl, by unfold RightN; rw [← HPU.out]; simp, HO.out⟩
  go_enter Tryz.func25, Tryz.ntmps25
  go_wp2_with (first
    | (go_at_call 35; (with_reducible refine (HGN.out _).mono ?_); rintro e w' ⟨rfl, rfl⟩)
    | (go_at_call 59; (with_reducible refine (HP.out _).mono ?_); rintro e w0 ⟨rfl, ho⟩; (replace HI := Lib.hid (HI.out.later ho)); (obtain ⟨i0, i1, i2⟩ := HI.out.tri); (replace HO := Lib.hid (on_new HO.out ho)); clear ho)
    | (go_at_call 60; (with_reducible refine (entries_kids _ _ _ _ _ _ _).mono ?_); rintro e w1 ⟨rfl, ho⟩; have HI1 := Lib.hid (HI.out.later ho); have HO1 := Lib.hid (on_new HO.out ho); have HB := Lib.hid (Blk.new w1 110 [.int .i64 m, .func (.func 90) #[.agg #[.bool false, .slice A n c, .slice B m d]] #[], .func (.func 91) #[.agg #[.bool false, .slice A n c, .slice B m d]] #[], .func (.func 92) #[.agg #[.bool false, .slice A n c, .slice B m d]] #[]]); have HO2 := Lib.hid (HO1.out.alloc (fun _ h => h) (.cells #[.int .i64 m, .func (.func 90) #[.agg #[.bool false, .slice A n c, .slice B m d]] #[], .func (.func 91) #[.agg #[.bool false, .slice A n c, .slice B m d]] #[], .func (.func 92) #[.agg #[.bool false, .slice A n c, .slice B m d]] #[]] 110)); have HI2 := Lib.hid (HI1.out.alloc (.cells #[.int .i64 m, .func (.func 90) #[.agg #[.bool false, .slice A n c, .slice B m d]] #[], .func (.func 91) #[.agg #[.bool false, .slice A n c, .slice B m d]] #[], .func (.func 92) #[.agg #[.bool false, .slice A n c, .slice B m d]] #[]] 110)); clear ho; unfold kidsEnt))
  go_loopw [19] (fun i wr => ∃ (k : Nat), k ≤ m ∧ i = .int .i64 k ∧ Hid (∀ q, q < k → ∀ i, x.kds[q]? = some i → KidR g q i) ∧ Only ((w1.alloc (.cells #[.int .i64 m, .func (.func 90) #[.agg #[.bool false, .slice A n c, .slice B m d]] #[], .func (.func 91) #[.agg #[.bool false, .slice A n c, .slice B m d]] #[], .func (.func 92) #[.agg #[.bool false, .slice A n c, .slice B m d]] #[]] 110)).heap.size ≤ ·) (w1.alloc (.cells #[.int .i64 m, .func (.func 90) #[.agg #[.bool false, .slice A n c, .slice B m d]] #[], .func (.func 91) #[.agg #[.bool false, .slice A n c, .slice B m d]] #[], .func (.func 92) #[.agg #[.bool false, .slice A n c, .slice B m d]] #[]] 110)) wr) (fun i _ => m - (intOf i).toNat)
  case atStart => exact ⟨0, Nat.zero_le _, rfl, Lib.hid (fun q hq => by omega), Only.refl _ _⟩
  case round =>
    obtain ⟨k, hk, rfl, HU, ho⟩ := hrel
    have HOR := Lib.hid (on_new HO2.out ho)
    have HBR := Lib.hid (HB.out.later ho)
    have HIR := Lib.hid (HI2.out.later ho)
    have HOL := Lib.hid ho
    clear ho HB
    obtain ⟨b0, b1, b2, b3⟩ := HBR.out.four
    obtain ⟨i0, i1, i2⟩ := HIR.out.tri
    by_cases hlt : k < m
    · obtain ⟨y, hy, hc⟩ := HKR.out _ k hlt HOR.out
      have HY := Lib.hid hy
      have HC := Lib.hid hc
      clear hy hc
      go_wp2_with (go_at_call 92; (with_reducible refine HC.out.mono ?_); rintro e w3 ⟨rb, rfl, hrb, ho⟩; have HO3 := Lib.hid (on_new HOL.out ho); have HRB := Lib.hid hrb; clear ho hrb; cases rb)
      · go_ret
        refine ⟨false, rfl, ?_, on_new HO2.out HO3.out⟩
        refine ⟨fun h => (by simp at h), fun h => ?_⟩
        exact absurd (HRB.out.2 (HEC.out.1 h.2.2.1 k y HY.out)) (by simp)
      · go_roundw
        case rel => exact ⟨k + 1, by omega, by go_num, Lib.hid (fun q hq i hi => by
          by_cases hqk : q < k
          · exact HU.out q hqk i hi
          · obtain rfl : q = k := by omega
            rw [HY.out] at hi
            cases hi
            exact HRB.out.1 (by simp)), HO3.out⟩
        case measure => simp [intOf]; omega
    · obtain rfl : m = k := by omega
      have hkm : ¬ (m : Int) < (m : Int) := by omega
      have HE : Hid (EachR g x) := Lib.hid (HEC.out.2 fun k i hi => HU.out k (by have := (List.getElem?_eq_some_iff.1 hi).1; have := HNL.out; omega) i hi)
      have HF2 : Hid (∀ W, Only (w.heap.size ≤ ·) w W → Calls Tryz.prog 62 #[.int .i64 g, .agg #[.bool false, .slice A n c, .slice B m d]] W (Told W (.bool (nfit g x)))) := Lib.hid fun W hW => HFT.out W (HPU.out.1 (by simp)) HE.out hW
      obtain ⟨nf, hnf⟩ : ∃ b, b = nfit g x := ⟨_, rfl⟩
      rw [← hnf] at HF2
      have HNF := Lib.hid hnf
      clear hnf
      go_wp2_with (first
        | (go_at_call 61; (with_reducible refine (HRI.out _ HOR.out).mono ?_); rintro e w4 ⟨rb, rfl, hrb, ho⟩; (replace HOR := Lib.hid (on_new HOR.out ho)); (replace HIR := Lib.hid (HIR.out.later ho)); have HRB := Lib.hid hrb; (obtain ⟨i0, i1, i2⟩ := HIR.out.tri); clear ho hrb; cases rb)
        | (go_at_call 62; (with_reducible refine (HF2.out _ HOR.out).mono ?_); rintro e w5 ⟨rfl, ho⟩; (replace HOR := Lib.hid (on_new HOR.out ho)); clear ho))
      · go_ret
        exact ⟨false, rfl, ⟨fun h => (by simp at h), fun h => absurd (HRB.out.2 h.2.2.2.1) (by simp)⟩, HOR.out⟩
      · go_ret
        refine ⟨nf, rfl, ?_, HOR.out⟩
        rw [HNF.out]
        exact ⟨fun h => ⟨HGB.out, HPU.out.1 (by simp), HE.out, HRB.out.1 (by simp), h⟩, fun h => h.2.2.2.2⟩

theorem Right_x (f : Bool) (hN : Nod w x f (.slice A n c) (.slice B m d)) (hg : Gens w) (h1 : n ≤ 1000) (h2 : m ≤ 1000) :
    Calls Tryz.prog 25 #[.int .i64 g, .agg #[.bool f, .slice A n c, .slice B m d]] w (AnsB w (fun b => b = true ↔ RightN g x)) := by
  have hf := hN.1
  cases f
  · exact Right_K w A B n c m d x g hf.symm hN hg h2
  · exact Right_L w A B n c m d x g hf.symm hN hg h1
end
end Go.Proofs.YtoghojgajpfkkaaGreatDoor
