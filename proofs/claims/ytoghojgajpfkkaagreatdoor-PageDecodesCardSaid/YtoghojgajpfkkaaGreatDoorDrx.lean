/-
  The document's Right of a node, exactly.
-/
import Derived.Test.YtoghojgajpfkkaaGreatDoorWde
import Derived.Test.YtoghojgajpfkkaaGreatDoorRefs
import Derived.Test.YtoghojgajpfkkaaGreatDoorGa
import Derived.Test.YtoghojgajpfkkaaGreatDoorRgx
set_option linter.unusedVariables false
namespace Go.Proofs.YtoghojgajpfkkaaGreatDoor
open Go.RowKit

theorem cmp_nil_cons (y : UInt8) (r : Bytes) : cmp [] (y :: r) = -1 := by first | rfl | (simp [cmp]; done) | (simp [cmp, Lib.compareBytes]; done)
theorem cmp_less {a b : Bytes} (ha : a.length = 0) (hb : 1 ≤ b.length) : cmp a b < 0 := by
  obtain rfl : a = [] := List.eq_nil_of_length_eq_zero ha
  cases b with
  | nil => simp at hb
  | cons y r =>
    rw [cmp_nil_cons]
    omega
/-- The entries so far are right, and rise. -/
def KInv (g : Int) (x : Nd) (k : Nat) : Prop := (∀ j y, j < k → x.kds[j]? = some y → KidR g j y) ∧ (∀ j y z, j + 1 < k → x.kds[j]? = some y → x.kds[j + 1]? = some z → cmp y.1 z.1 < 0)
def LInv (g : Int) (x : Nd) (k : Nat) : Prop := (∀ j y, j < k → x.its[j]? = some y → ItR g y) ∧ (∀ j y z, j + 1 < k → x.its[j]? = some y → x.its[j + 1]? = some z → cmp y.1 z.1 < 0)
theorem KInv.next {g : Int} {x : Nd} {k : Nat} {y : Kd} (h : KInv g x k) (hy : x.kds[k]? = some y) (hr : KidR g k y) (hc : ∀ j z, k = j + 1 → x.kds[j]? = some z → cmp z.1 y.1 < 0) : KInv g x (k + 1) := by
  refine ⟨fun j z hj hz => ?_, fun j a b hj ha hb => ?_⟩
  · by_cases e : j = k
    · subst e
      obtain rfl := Option.some.inj (hy.symm.trans hz)
      exact hr
    · exact h.1 j z (by omega) hz
  · by_cases e : k = j + 1
    · rw [← e] at hb
      obtain rfl := Option.some.inj (hy.symm.trans hb)
      exact hc j a e ha
    · exact h.2 j a b (by omega) ha hb
theorem LInv.next {g : Int} {x : Nd} {k : Nat} {y : It} (h : LInv g x k) (hy : x.its[k]? = some y) (hr : ItR g y) (hc : ∀ j z, k = j + 1 → x.its[j]? = some z → cmp z.1 y.1 < 0) : LInv g x (k + 1) := by
  refine ⟨fun j z hj hz => ?_, fun j a b hj ha hb => ?_⟩
  · by_cases e : j = k
    · subst e
      obtain rfl := Option.some.inj (hy.symm.trans hz)
      exact hr
    · exact h.1 j z (by omega) hz
  · by_cases e : k = j + 1
    · rw [← e] at hb
      obtain rfl := Option.some.inj (hy.symm.trans hb)
      exact hc j a e ha
    · exact h.2 j a b (by omega) ha hb
theorem RightN.parts {g : Int} {x : Nd} (h : RightN g x) : nfit g x = true ∧ (x.leaf = true → x.kds = [] ∧ (∀ (k : Nat) i, x.its[k]? = some i → ItR g i) ∧ ∀ (k : Nat) y z, x.its[k]? = some y → x.its[k + 1]? = some z → cmp y.1 z.1 < 0) ∧ (x.leaf = false → x.its = [] ∧ x.kds ≠ [] ∧ (∀ (k : Nat) y, x.kds[k]? = some y → KidR g k y) ∧ ∀ (k : Nat) y z, x.kds[k]? = some y → x.kds[k + 1]? = some z → cmp y.1 z.1 < 0) := by
  obtain ⟨_, h1, h2, h3, h4⟩ := h
  unfold PureR at h1
  unfold EachR at h2
  unfold RisesR at h3
  refine ⟨h4, fun hl => ?_, fun hl => ?_⟩
  · rw [if_pos hl] at h1 h2 h3
    exact ⟨h1, h2, h3⟩
  · rw [if_neg (by rw [hl]; decide)] at h1 h2 h3
    exact ⟨h1.1, h1.2, h2, h3⟩
theorem eok_leaf {g : Int} {x : Nd} (hl : x.leaf = true) (h : ∀ (k : Nat) i, x.its[k]? = some i → ItR g i) : ∀ j, j < many x → EOk x j := fun j _ => ⟨fun _ i hi => by
  have h1 := h j i hi
  unfold ItR okay keyOk putOk long at h1
  simp only [Bool.and_eq_true, decide_eq_true_eq] at h1
  obtain ⟨hg, ⟨h2, h3⟩, h4, h5⟩ := h1
  have t1 : tr g 16 20 24 ≤ 24 := by rcases (gen_iff g).1 hg with rfl | rfl | rfl <;> decide
  have t2 : tr g 400 800 1600 ≤ 1600 := by rcases (gen_iff g).1 hg with rfl | rfl | rfl <;> decide
  refine ⟨by omega, ?_⟩
  split at h4 <;> omega, fun h => (by rw [hl] at h; cases h)⟩
theorem eok_kids {g : Int} {x : Nd} (hl : x.leaf = false) (h : ∀ (k : Nat) y, x.kds[k]? = some y → KidR g k y) : ∀ j, j < many x → EOk x j := fun j _ => ⟨fun h => (by rw [hl] at h; cases h), fun _ i hi => by
  have h1 := h j i hi
  unfold KidR at h1
  have t1 : tr g 16 20 24 ≤ 24 := by unfold tr; split <;> (try split) <;> (try split) <;> omega
  rcases Nat.eq_zero_or_pos j with h0 | h0
  · have := h1.2.1 h0
    omega
  · have := (h1.2.2 (by omega)).2
    omega⟩
section
variable (w : World) (f : Bool) (A B : Option Addr) (n c m d : Nat) (x : Nd) (g : Int)
set_option maxRecDepth 100000 in
set_option maxHeartbeats 25600000 in
theorem DRight_x (hN : Nod w x f (.slice A n c) (.slice B m d)) (hm : many x ≤ 70368744177664) :
    Calls Tryz.prog 57 #[.int .i64 g, .agg #[.bool f, .slice A n c, .slice B m d]] w (ToldB w (fun b => b = true ↔ RightN g x)) := by
  obtain ⟨W0, hW0⟩ : ∃ W0, W0 = (w.alloc (.cells #[.bool f, .slice A n c, .slice B m d] 35)) := ⟨_, rfl⟩
  have HO : Hid (Only (w.heap.size ≤ ·) w W0) := Lib.hid (by rw [hW0]; exact (Only.refl _ w).alloc (fun _ h => h) _)
  have HI : Hid (Blk W0 w.heap.size 35 [.bool f, .slice A n c, .slice B m d]) := Lib.hid (by rw [hW0]; exact Blk.new w 35 _)
  have hc1 := hN.2.1.cap
  have hc2 := hN.2.2.cap
  have HN := Lib.hid hN
  have HNL := Lib.hid hN.2.1.len
  have HML := Lib.hid hN.2.2.len
  have HFX := Lib.hid hN.1
  have HF : Hid (∀ W, Only (w.heap.size ≤ ·) w W → Calls Tryz.prog 84 #[.int .i64 g, .agg #[.bool f, .slice A n c, .slice B m d]] W (ToldB W (fun b => (∀ j, j < many x → EOk x j) → b = nfit g x))) := Lib.hid fun W hW => DFits_w W f A B n c m d x g (hN.later hW) hm
  clear hN hm
  obtain ⟨i0, i1, i2⟩ := HI.out.tri
  by_cases g1 : g < 1
  · clear HF
    rw [hW0] at HO
    go_enter Tryz.func57, Tryz.ntmps57
    go_wp2
    go_ret
    exact ⟨false, rfl, ⟨fun h => (by cases h), fun hR => absurd hR (by intro hR; have := (gen_iff g).1 hR.1; omega)⟩, HO.out⟩
  by_cases g3 : 3 < g
  · clear HF
    rw [hW0] at HO
    go_enter Tryz.func57, Tryz.ntmps57
    go_wp2
    go_ret
    exact ⟨false, rfl, ⟨fun h => (by cases h), fun hR => absurd hR (by intro hR; have := (gen_iff g).1 hR.1; omega)⟩, HO.out⟩
  have HG : Hid (1 ≤ g ∧ g ≤ 3) := Lib.hid (by omega)
  cases f
  · have HRR : Hid (RightN g x → (∀ (k : Nat) y, x.kds[k]? = some y → KidR g k y) ∧ (∀ (k : Nat) y z, x.kds[k]? = some y → x.kds[k + 1]? = some z → cmp y.1 z.1 < 0) ∧ x.its = [] ∧ x.kds ≠ [] ∧ nfit g x = true) := Lib.hid fun hR => by
      have h := hR.parts
      have h2 := h.2.2 HFX.out.symm
      exact ⟨h2.2.2.1, h2.2.2.2, h2.1, h2.2.1, h.1⟩
    go_enter Tryz.func57, Tryz.ntmps57
    go_upto_region 1 with (fail)
    rw [← hW0]
    clear hW0
    go_wp2_with (go_at_call 84; (with_reducible refine (HF.out _ HO.out).mono ?_); rintro ee w1 ⟨b, rfl, hb, ho⟩; have HFB := Lib.hid hb; clear hb i0 i1 i2; (replace HI := Lib.hid (HI.out.later ho)); (replace HO := Lib.hid (on_new HO.out ho)); clear ho; (obtain ⟨i0, i1, i2⟩ := HI.out.tri); cases b)
    · go_ret
      exact ⟨false, rfl, ⟨fun h => (by cases h), fun hR => absurd hR (by intro hR; have h1 := HRR.out hR; have h2 := HFB.out (eok_kids HFX.out.symm h1.1); rw [h1.2.2.2.2] at h2; cases h2)⟩, HO.out⟩
    clear g1 g3
    have HW1 : Hid (Only (w1.heap.size ≤ ·) w1 w1) := Lib.hid (Only.refl _ w1)
    obtain ⟨v, hv⟩ : ∃ v, v = tr g 16 20 24 := ⟨_, rfl⟩
    have HV : Hid (∀ W, Calls Tryz.prog 86 #[.int .i64 g] W fun e w' => e = .returned (.int .i64 v) ∧ W = w') := Lib.hid fun W => by rw [hv]; exact rMaxKey_c W g
    have HVE := Lib.hid hv
    clear hv i0 i1 i2
    go_loopw [6] (fun i wr => ∃ (k : Nat), k ≤ m ∧ i = .int .i64 k ∧ Hid (KInv g x k) ∧ Hid (Only (w1.heap.size ≤ ·) w1 wr)) (fun i _ => m - (intOf i).toNat)
    case atStart => exact ⟨0, Nat.zero_le _, rfl, Lib.hid ⟨fun j y hj => by omega, fun j y z hj => by omega⟩, HW1⟩
    case round =>
      obtain ⟨k, hk, rfl, HK, HWL⟩ := hrel
      have HOL := Lib.hid (on_new HO.out HWL.out)
      obtain ⟨i0, i1, i2⟩ := (HI.out.later HWL.out).tri
      by_cases hlt : k < m
      · obtain ⟨bb, off, y, P, p, rfl, hb, hy, q0, q1, s1⟩ := kds_at (HN.out.later HOL.out).2.2 hlt
        obtain ⟨xs, r⟩ := y
        obtain ⟨t, ht⟩ : ∃ t, t = xs.length := ⟨_, rfl⟩
        simp only at q0 q1 s1
        rw [← ht] at q0 s1
        have HY := Lib.hid hy
        have HT := Lib.hid ht
        have j1 : (0 : Int) ≤ (k : Int) := by omega
        have j2 : (k : Int) < (m : Int) := by omega
        clear hy ht hb
        go_upto_region 14 with (fail)
        obtain ⟨wp, hwp⟩ : ∃ wp, wp = wr.alloc (.cells #[.slice P t p, .int .i64 r] 65) := ⟨_, rfl⟩
        have hBp : Blk wp wr.heap.size 65 [.slice P t p, .int .i64 r] := by rw [hwp]; exact Blk.new wr 65 _
        have hop : Only (wr.heap.size ≤ ·) wr wp := by rw [hwp]; exact (Only.refl _ wr).alloc (fun _ h => h) _
        rw [← hwp]
        have HBP := Lib.hid hBp
        have HS1 := Lib.hid (s1.later hop)
        have HIP := Lib.hid ((HI.out.later HWL.out).later hop)
        have HWP := Lib.hid (on_new HWL.out hop)
        have HOP := Lib.hid (on_new HOL.out hop)
        have HNP := Lib.hid (HN.out.later HOP.out)
        clear hwp hBp hop s1 q0 q1 i0 i1 i2
        have KP : Hid (∀ W, Only (wp.heap.size ≤ ·) wp W → W.cell? ⟨wr.heap.size, 0, none⟩ = some (.slice P t p) ∧ W.cell? ⟨wr.heap.size, 1, none⟩ = some (.int .i64 r)) := Lib.hid fun W hW => ⟨(HBP.out.later hW).cell 0, (HBP.out.later hW).cell 1⟩
        have HOZ : Hid (Only (wp.heap.size ≤ ·) wp wp.drew) := Lib.hid (Only.refl _ wp).drew
        by_cases c1 : r < 2
        · have z1 : decide (r < 2) = true := decide_eq_true c1
          refine wp_region_list (B := [false, false, false, false, false, false, false, false, false, false, false, false, false, false, false, false, false, false, false, false, false, false, false, false, false]) (S := (fun W => W.cell? ⟨wr.heap.size, 0, none⟩ = some (.slice P t p) ∧ W.cell? ⟨wr.heap.size, 1, none⟩ = some (.int .i64 r))) (by kernel_rfl) (by kernel_rfl) (by kernel_rfl) (KP.out _ HOZ.out) (fun hsel hHeld => ?_)
          obtain ⟨wq, hwq⟩ : ∃ wq, wq = wp.drew := ⟨_, rfl⟩
          rw [← hwq] at HOZ hHeld
          rw [← hwq]
          clear hwq
          refine oneA 0 74 hsel (h := ?_)
          simp only [Act.put, List.setIfInBounds_toArray, List.set_cons_zero, List.set_cons_succ]
          refine oneA 1 75 hsel (h := ?_)
          simp only [Act.put, List.setIfInBounds_toArray, List.set_cons_zero, List.set_cons_succ]
          refine oneA 2 76 hsel (h := ?_)
          simp only [Act.put, List.setIfInBounds_toArray, List.set_cons_zero, List.set_cons_succ]
          refine oneA 3 77 hsel (h := ?_)
          simp only [Act.put, List.setIfInBounds_toArray, List.set_cons_zero, List.set_cons_succ]
          refine take_skipL (i := 4) (d := 78) (oi := ?_) ?_ hsel (by kernel_rfl) (by kernel_rfl) (fun _ _ _ h => h) ?_ ?_ (by assumption) ?_
          case refine_2 => (simp only [List.getElem?_cons_succ, List.getElem?_cons_zero]; rfl)
          case refine_3 => rfl
          case refine_4 => rfl
          simp only [Act.put, List.setIfInBounds_toArray, List.set_cons_zero, List.set_cons_succ]
          refine take_skipL (i := 5) (d := 79) (oi := ?_) ?_ hsel (by kernel_rfl) (by kernel_rfl) (fun _ _ _ h => h) ?_ ?_ (by assumption) ?_
          case refine_2 => (simp only [List.getElem?_cons_succ, List.getElem?_cons_zero]; rfl)
          case refine_3 => rfl
          case refine_4 => rfl
          simp only [Act.put, List.setIfInBounds_toArray, List.set_cons_zero, List.set_cons_succ]
          refine take_skipL (i := 6) (d := 80) (oi := ?_) ?_ hsel (by kernel_rfl) (by kernel_rfl) (fun _ _ _ h => h) ?_ ?_ (by assumption) ?_
          case refine_2 => (simp only [List.getElem?_cons_succ, List.getElem?_cons_zero]; rfl)
          case refine_3 => rfl
          case refine_4 => rfl
          simp only [Act.put, List.setIfInBounds_toArray, List.set_cons_zero, List.set_cons_succ]
          refine oneA 7 81 hsel (h := ?_)
          simp only [Act.put, List.setIfInBounds_toArray, List.set_cons_zero, List.set_cons_succ]
          refine oneA 8 82 hsel (h := ?_)
          simp only [Act.put, List.setIfInBounds_toArray, List.set_cons_zero, List.set_cons_succ]
          refine take_skipL (i := 9) (d := 83) (oi := ?_) ?_ hsel (by kernel_rfl) (by kernel_rfl) (fun _ _ _ h => h) ?_ ?_ (by assumption) ?_
          case refine_2 => (simp only [List.getElem?_cons_succ, List.getElem?_cons_zero]; rfl)
          case refine_3 => rfl
          case refine_4 => rfl
          simp only [Act.put, List.setIfInBounds_toArray, List.set_cons_zero, List.set_cons_succ]
          refine take_skipL (i := 10) (d := 84) (oi := ?_) ?_ hsel (by kernel_rfl) (by kernel_rfl) (fun _ _ _ h => h) ?_ ?_ (by assumption) ?_
          case refine_2 => (simp only [List.getElem?_cons_succ, List.getElem?_cons_zero]; rfl)
          case refine_3 => rfl
          case refine_4 => rfl
          simp only [Act.put, List.setIfInBounds_toArray, List.set_cons_zero, List.set_cons_succ]
          refine take_skipL (i := 11) (d := 85) (oi := ?_) ?_ hsel (by kernel_rfl) (by kernel_rfl) (fun _ _ _ h => h) ?_ ?_ (by assumption) ?_
          case refine_2 => (simp only [List.getElem?_cons_succ, List.getElem?_cons_zero]; rfl)
          case refine_3 => rfl
          case refine_4 => rfl
          simp only [Act.put, List.setIfInBounds_toArray, List.set_cons_zero, List.set_cons_succ]
          refine take_skipL (i := 12) (d := 86) (oi := ?_) ?_ hsel (by kernel_rfl) (by kernel_rfl) (fun _ _ _ h => h) ?_ ?_ (by assumption) ?_
          case refine_2 => (simp only [List.getElem?_cons_succ, List.getElem?_cons_zero]; rfl)
          case refine_3 => rfl
          case refine_4 => rfl
          simp only [Act.put, List.setIfInBounds_toArray, List.set_cons_zero, List.set_cons_succ]
          refine take_skipL (i := 13) (d := 87) (oi := ?_) ?_ hsel (by kernel_rfl) (by kernel_rfl) (fun _ _ _ h => h) ?_ ?_ (by assumption) ?_
          case refine_2 => (simp only [List.getElem?_cons_succ, List.getElem?_cons_zero]; rfl)
          case refine_3 => rfl
          case refine_4 => rfl
          simp only [Act.put, List.setIfInBounds_toArray, List.set_cons_zero, List.set_cons_succ]
          refine take_skipL (i := 14) (d := 88) (oi := ?_) ?_ hsel (by kernel_rfl) (by kernel_rfl) (fun _ _ _ h => h) ?_ ?_ (by assumption) ?_
          case refine_2 => (simp only [List.getElem?_cons_succ, List.getElem?_cons_zero]; rfl)
          case refine_3 => rfl
          case refine_4 => rfl
          simp only [Act.put, List.setIfInBounds_toArray, List.set_cons_zero, List.set_cons_succ]
          refine oneA 15 89 hsel (h := ?_)
          simp only [Act.put, List.setIfInBounds_toArray, List.set_cons_zero, List.set_cons_succ]
          refine oneA 16 90 hsel (h := ?_)
          simp only [Act.put, List.setIfInBounds_toArray, List.set_cons_zero, List.set_cons_succ]
          refine take_skipL (i := 17) (d := 91) (oi := ?_) ?_ hsel (by kernel_rfl) (by kernel_rfl) (fun _ _ _ h => h) ?_ ?_ (by assumption) ?_
          case refine_2 => (simp only [List.getElem?_cons_succ, List.getElem?_cons_zero]; rfl)
          case refine_3 => rfl
          case refine_4 => rfl
          simp only [Act.put, List.setIfInBounds_toArray, List.set_cons_zero, List.set_cons_succ]
          refine take_skipL (i := 18) (d := 92) (oi := ?_) ?_ hsel (by kernel_rfl) (by kernel_rfl) (fun _ _ _ h => h) ?_ ?_ (by assumption) ?_
          case refine_2 => (simp only [List.getElem?_cons_succ, List.getElem?_cons_zero]; rfl)
          case refine_3 => rfl
          case refine_4 => rfl
          simp only [Act.put, List.setIfInBounds_toArray, List.set_cons_zero, List.set_cons_succ]
          refine take_skipL (i := 19) (d := 93) (oi := ?_) ?_ hsel (by kernel_rfl) (by kernel_rfl) (fun _ _ _ h => h) ?_ ?_ (by assumption) ?_
          case refine_2 => (simp only [List.getElem?_cons_succ, List.getElem?_cons_zero]; rfl)
          case refine_3 => rfl
          case refine_4 => rfl
          simp only [Act.put, List.setIfInBounds_toArray, List.set_cons_zero, List.set_cons_succ]
          refine take_skipL (i := 20) (d := 94) (oi := ?_) ?_ hsel (by kernel_rfl) (by kernel_rfl) (fun _ _ _ h => h) ?_ ?_ (by assumption) ?_
          case refine_2 => (simp only [List.getElem?_cons_succ, List.getElem?_cons_zero]; rfl)
          case refine_3 => rfl
          case refine_4 => rfl
          simp only [Act.put, List.setIfInBounds_toArray, List.set_cons_zero, List.set_cons_succ]
          refine take_skipL (i := 21) (d := 95) (oi := ?_) ?_ hsel (by kernel_rfl) (by kernel_rfl) (fun _ _ _ h => h) ?_ ?_ (by assumption) ?_
          case refine_2 => (simp only [List.getElem?_cons_succ, List.getElem?_cons_zero]; rfl)
          case refine_3 => rfl
          case refine_4 => rfl
          simp only [Act.put, List.setIfInBounds_toArray, List.set_cons_zero, List.set_cons_succ]
          refine take_skipL (i := 22) (d := 96) (oi := ?_) ?_ hsel (by kernel_rfl) (by kernel_rfl) (fun _ _ _ h => h) ?_ ?_ (by assumption) ?_
          case refine_2 => (simp only [List.getElem?_cons_succ, List.getElem?_cons_zero]; rfl)
          case refine_3 => rfl
          case refine_4 => rfl
          simp only [Act.put, List.setIfInBounds_toArray, List.set_cons_zero, List.set_cons_succ]
          refine take_skipL (i := 23) (d := 97) (oi := ?_) ?_ hsel (by kernel_rfl) (by kernel_rfl) (fun _ _ _ h => h) ?_ ?_ (by assumption) ?_
          case refine_2 => (simp only [List.getElem?_cons_succ, List.getElem?_cons_zero]; rfl)
          case refine_3 => rfl
          case refine_4 => rfl
          simp only [Act.put, List.setIfInBounds_toArray, List.set_cons_zero, List.set_cons_succ]
          refine oneA 24 98 hsel (h := ?_)
          simp only [Act.put, List.setIfInBounds_toArray, List.set_cons_zero, List.set_cons_succ]
          refine wpAnyL_done (by kernel_rfl) (by kernel_rfl) ?_ _
          clear hsel hHeld
          go_wp2
          go_ret
          exact ⟨false, rfl, ⟨fun h => (by cases h), fun hR => absurd hR (by intro hR; have h1 := (HRR.out hR).1 k _ HY.out; have h2 := HT.out; have h3 := HVE.out; have h4 : 0 ≤ v := (by rw [h3]; rcases (gen_iff g).1 hR.1 with rfl | rfl | rfl <;> decide); unfold KidR at h1; simp only at h1; rw [← h2, ← h3] at h1; omega)⟩, on_new HOP.out HOZ.out⟩
        have z1 : decide (r < 2) = false := decide_eq_false c1
        by_cases c2 : 16383 < r
        · have z2 : decide (16383 < r) = true := decide_eq_true c2
          refine wp_region_list (B := [false, false, false, false, false, false, false, false, false, false, false, false, false, false, false, false, false, false, false, false, false, false, false, false, false]) (S := (fun W => W.cell? ⟨wr.heap.size, 0, none⟩ = some (.slice P t p) ∧ W.cell? ⟨wr.heap.size, 1, none⟩ = some (.int .i64 r))) (by kernel_rfl) (by kernel_rfl) (by kernel_rfl) (KP.out _ HOZ.out) (fun hsel hHeld => ?_)
          obtain ⟨wq, hwq⟩ : ∃ wq, wq = wp.drew := ⟨_, rfl⟩
          rw [← hwq] at HOZ hHeld
          rw [← hwq]
          clear hwq
          refine oneA 0 74 hsel (h := ?_)
          simp only [Act.put, List.setIfInBounds_toArray, List.set_cons_zero, List.set_cons_succ]
          refine oneA 1 75 hsel (h := ?_)
          simp only [Act.put, List.setIfInBounds_toArray, List.set_cons_zero, List.set_cons_succ]
          refine oneA 2 76 hsel (h := ?_)
          simp only [Act.put, List.setIfInBounds_toArray, List.set_cons_zero, List.set_cons_succ]
          refine oneA 3 77 hsel (h := ?_)
          simp only [Act.put, List.setIfInBounds_toArray, List.set_cons_zero, List.set_cons_succ]
          refine oneA 4 78 hsel (h := ?_)
          simp only [Act.put, List.setIfInBounds_toArray, List.set_cons_zero, List.set_cons_succ]
          refine oneA 5 79 hsel (h := ?_)
          simp only [Act.put, List.setIfInBounds_toArray, List.set_cons_zero, List.set_cons_succ]
          refine oneA 6 80 hsel (h := ?_)
          simp only [Act.put, List.setIfInBounds_toArray, List.set_cons_zero, List.set_cons_succ]
          refine oneA 7 81 hsel (h := ?_)
          simp only [Act.put, List.setIfInBounds_toArray, List.set_cons_zero, List.set_cons_succ]
          refine oneA 8 82 hsel (h := ?_)
          simp only [Act.put, List.setIfInBounds_toArray, List.set_cons_zero, List.set_cons_succ]
          refine take_skipL (i := 9) (d := 83) (oi := ?_) ?_ hsel (by kernel_rfl) (by kernel_rfl) (fun _ _ _ h => h) ?_ ?_ (by assumption) ?_
          case refine_2 => (simp only [List.getElem?_cons_succ, List.getElem?_cons_zero]; rfl)
          case refine_3 => rfl
          case refine_4 => rfl
          simp only [Act.put, List.setIfInBounds_toArray, List.set_cons_zero, List.set_cons_succ]
          refine take_skipL (i := 10) (d := 84) (oi := ?_) ?_ hsel (by kernel_rfl) (by kernel_rfl) (fun _ _ _ h => h) ?_ ?_ (by assumption) ?_
          case refine_2 => (simp only [List.getElem?_cons_succ, List.getElem?_cons_zero]; rfl)
          case refine_3 => rfl
          case refine_4 => rfl
          simp only [Act.put, List.setIfInBounds_toArray, List.set_cons_zero, List.set_cons_succ]
          refine take_skipL (i := 11) (d := 85) (oi := ?_) ?_ hsel (by kernel_rfl) (by kernel_rfl) (fun _ _ _ h => h) ?_ ?_ (by assumption) ?_
          case refine_2 => (simp only [List.getElem?_cons_succ, List.getElem?_cons_zero]; rfl)
          case refine_3 => rfl
          case refine_4 => rfl
          simp only [Act.put, List.setIfInBounds_toArray, List.set_cons_zero, List.set_cons_succ]
          refine take_skipL (i := 12) (d := 86) (oi := ?_) ?_ hsel (by kernel_rfl) (by kernel_rfl) (fun _ _ _ h => h) ?_ ?_ (by assumption) ?_
          case refine_2 => (simp only [List.getElem?_cons_succ, List.getElem?_cons_zero]; rfl)
          case refine_3 => rfl
          case refine_4 => rfl
          simp only [Act.put, List.setIfInBounds_toArray, List.set_cons_zero, List.set_cons_succ]
          refine take_skipL (i := 13) (d := 87) (oi := ?_) ?_ hsel (by kernel_rfl) (by kernel_rfl) (fun _ _ _ h => h) ?_ ?_ (by assumption) ?_
          case refine_2 => (simp only [List.getElem?_cons_succ, List.getElem?_cons_zero]; rfl)
          case refine_3 => rfl
          case refine_4 => rfl
          simp only [Act.put, List.setIfInBounds_toArray, List.set_cons_zero, List.set_cons_succ]
          refine take_skipL (i := 14) (d := 88) (oi := ?_) ?_ hsel (by kernel_rfl) (by kernel_rfl) (fun _ _ _ h => h) ?_ ?_ (by assumption) ?_
          case refine_2 => (simp only [List.getElem?_cons_succ, List.getElem?_cons_zero]; rfl)
          case refine_3 => rfl
          case refine_4 => rfl
          simp only [Act.put, List.setIfInBounds_toArray, List.set_cons_zero, List.set_cons_succ]
          refine oneA 15 89 hsel (h := ?_)
          simp only [Act.put, List.setIfInBounds_toArray, List.set_cons_zero, List.set_cons_succ]
          refine oneA 16 90 hsel (h := ?_)
          simp only [Act.put, List.setIfInBounds_toArray, List.set_cons_zero, List.set_cons_succ]
          refine take_skipL (i := 17) (d := 91) (oi := ?_) ?_ hsel (by kernel_rfl) (by kernel_rfl) (fun _ _ _ h => h) ?_ ?_ (by assumption) ?_
          case refine_2 => (simp only [List.getElem?_cons_succ, List.getElem?_cons_zero]; rfl)
          case refine_3 => rfl
          case refine_4 => rfl
          simp only [Act.put, List.setIfInBounds_toArray, List.set_cons_zero, List.set_cons_succ]
          refine take_skipL (i := 18) (d := 92) (oi := ?_) ?_ hsel (by kernel_rfl) (by kernel_rfl) (fun _ _ _ h => h) ?_ ?_ (by assumption) ?_
          case refine_2 => (simp only [List.getElem?_cons_succ, List.getElem?_cons_zero]; rfl)
          case refine_3 => rfl
          case refine_4 => rfl
          simp only [Act.put, List.setIfInBounds_toArray, List.set_cons_zero, List.set_cons_succ]
          refine take_skipL (i := 19) (d := 93) (oi := ?_) ?_ hsel (by kernel_rfl) (by kernel_rfl) (fun _ _ _ h => h) ?_ ?_ (by assumption) ?_
          case refine_2 => (simp only [List.getElem?_cons_succ, List.getElem?_cons_zero]; rfl)
          case refine_3 => rfl
          case refine_4 => rfl
          simp only [Act.put, List.setIfInBounds_toArray, List.set_cons_zero, List.set_cons_succ]
          refine take_skipL (i := 20) (d := 94) (oi := ?_) ?_ hsel (by kernel_rfl) (by kernel_rfl) (fun _ _ _ h => h) ?_ ?_ (by assumption) ?_
          case refine_2 => (simp only [List.getElem?_cons_succ, List.getElem?_cons_zero]; rfl)
          case refine_3 => rfl
          case refine_4 => rfl
          simp only [Act.put, List.setIfInBounds_toArray, List.set_cons_zero, List.set_cons_succ]
          refine take_skipL (i := 21) (d := 95) (oi := ?_) ?_ hsel (by kernel_rfl) (by kernel_rfl) (fun _ _ _ h => h) ?_ ?_ (by assumption) ?_
          case refine_2 => (simp only [List.getElem?_cons_succ, List.getElem?_cons_zero]; rfl)
          case refine_3 => rfl
          case refine_4 => rfl
          simp only [Act.put, List.setIfInBounds_toArray, List.set_cons_zero, List.set_cons_succ]
          refine take_skipL (i := 22) (d := 96) (oi := ?_) ?_ hsel (by kernel_rfl) (by kernel_rfl) (fun _ _ _ h => h) ?_ ?_ (by assumption) ?_
          case refine_2 => (simp only [List.getElem?_cons_succ, List.getElem?_cons_zero]; rfl)
          case refine_3 => rfl
          case refine_4 => rfl
          simp only [Act.put, List.setIfInBounds_toArray, List.set_cons_zero, List.set_cons_succ]
          refine take_skipL (i := 23) (d := 97) (oi := ?_) ?_ hsel (by kernel_rfl) (by kernel_rfl) (fun _ _ _ h => h) ?_ ?_ (by assumption) ?_
          case refine_2 => (simp only [List.getElem?_cons_succ, List.getElem?_cons_zero]; rfl)
          case refine_3 => rfl
          case refine_4 => rfl
          simp only [Act.put, List.setIfInBounds_toArray, List.set_cons_zero, List.set_cons_succ]
          refine oneA 24 98 hsel (h := ?_)
          simp only [Act.put, List.setIfInBounds_toArray, List.set_cons_zero, List.set_cons_succ]
          refine wpAnyL_done (by kernel_rfl) (by kernel_rfl) ?_ _
          clear hsel hHeld
          go_wp2
          go_ret
          exact ⟨false, rfl, ⟨fun h => (by cases h), fun hR => absurd hR (by intro hR; have h1 := (HRR.out hR).1 k _ HY.out; have h2 := HT.out; have h3 := HVE.out; have h4 : 0 ≤ v := (by rw [h3]; rcases (gen_iff g).1 hR.1 with rfl | rfl | rfl <;> decide); unfold KidR at h1; simp only at h1; rw [← h2, ← h3] at h1; omega)⟩, on_new HOP.out HOZ.out⟩
        have z2 : decide (16383 < r) = false := decide_eq_false c2
        by_cases c3 : v < (t : Int)
        · have z3 : decide (v < (t : Int)) = true := decide_eq_true c3
          refine wp_region_list (B := [false, false, false, false, false, false, false, false, false, false, false, false, false, false, false, false, false, false, false, false, false, false, false, false, false]) (S := (fun W => W.cell? ⟨wr.heap.size, 0, none⟩ = some (.slice P t p) ∧ W.cell? ⟨wr.heap.size, 1, none⟩ = some (.int .i64 r))) (by kernel_rfl) (by kernel_rfl) (by kernel_rfl) (KP.out _ HOZ.out) (fun hsel hHeld => ?_)
          obtain ⟨wq, hwq⟩ : ∃ wq, wq = wp.drew := ⟨_, rfl⟩
          rw [← hwq] at HOZ hHeld
          rw [← hwq]
          clear hwq
          refine oneA 0 74 hsel (h := ?_)
          simp only [Act.put, List.setIfInBounds_toArray, List.set_cons_zero, List.set_cons_succ]
          refine oneA 1 75 hsel (h := ?_)
          simp only [Act.put, List.setIfInBounds_toArray, List.set_cons_zero, List.set_cons_succ]
          refine oneA 2 76 hsel (h := ?_)
          simp only [Act.put, List.setIfInBounds_toArray, List.set_cons_zero, List.set_cons_succ]
          refine oneA 3 77 hsel (h := ?_)
          simp only [Act.put, List.setIfInBounds_toArray, List.set_cons_zero, List.set_cons_succ]
          refine oneA 4 78 hsel (h := ?_)
          simp only [Act.put, List.setIfInBounds_toArray, List.set_cons_zero, List.set_cons_succ]
          refine oneA 5 79 hsel (h := ?_)
          simp only [Act.put, List.setIfInBounds_toArray, List.set_cons_zero, List.set_cons_succ]
          refine oneA 6 80 hsel (h := ?_)
          simp only [Act.put, List.setIfInBounds_toArray, List.set_cons_zero, List.set_cons_succ]
          refine oneA 7 81 hsel (h := ?_)
          simp only [Act.put, List.setIfInBounds_toArray, List.set_cons_zero, List.set_cons_succ]
          refine oneA 8 82 hsel (h := ?_)
          simp only [Act.put, List.setIfInBounds_toArray, List.set_cons_zero, List.set_cons_succ]
          refine oneA 9 83 hsel (h := ?_)
          simp only [Act.put, List.setIfInBounds_toArray, List.set_cons_zero, List.set_cons_succ]
          refine oneA 10 84 hsel (h := ?_)
          simp only [Act.put, List.setIfInBounds_toArray, List.set_cons_zero, List.set_cons_succ]
          refine oneA 11 85 hsel (h := ?_)
          simp only [Act.put, List.setIfInBounds_toArray, List.set_cons_zero, List.set_cons_succ]
          refine oneA 12 86 hsel (h := ?_)
          simp only [Act.put, List.setIfInBounds_toArray, List.set_cons_zero, List.set_cons_succ]
          refine wpAnyL_ready (rs := [13]) (by kernel_rfl) (by kernel_rfl) (by simp) ?_
          refine AllReadyL.cons (o := ?_) ?_ (fun K hK => ?_) AllReadyL.nil
          case refine_2 => (simp only [List.getElem?_cons_succ, List.getElem?_cons_zero]; rfl)
          go_simp
          (go_at_call 86; (with_reducible refine (HV.out _).mono ?_); rintro ee w5 ⟨rfl, rfl⟩)
          go_wp2_with (fail)
          clear hHeld
          refine hK.out _ _ (KP.out _ HOZ.out) (fun hHeld => ?_)
          clear hK K
          try simp only [List.set_cons_zero, List.set_cons_succ]
          refine oneA 14 88 hsel (h := ?_)
          simp only [Act.put, List.setIfInBounds_toArray, List.set_cons_zero, List.set_cons_succ]
          refine oneA 15 89 hsel (h := ?_)
          simp only [Act.put, List.setIfInBounds_toArray, List.set_cons_zero, List.set_cons_succ]
          refine oneA 16 90 hsel (h := ?_)
          simp only [Act.put, List.setIfInBounds_toArray, List.set_cons_zero, List.set_cons_succ]
          refine take_skipL (i := 17) (d := 91) (oi := ?_) ?_ hsel (by kernel_rfl) (by kernel_rfl) (fun _ _ _ h => h) ?_ ?_ (by assumption) ?_
          case refine_2 => (simp only [List.getElem?_cons_succ, List.getElem?_cons_zero]; rfl)
          case refine_3 => rfl
          case refine_4 => rfl
          simp only [Act.put, List.setIfInBounds_toArray, List.set_cons_zero, List.set_cons_succ]
          refine take_skipL (i := 18) (d := 92) (oi := ?_) ?_ hsel (by kernel_rfl) (by kernel_rfl) (fun _ _ _ h => h) ?_ ?_ (by assumption) ?_
          case refine_2 => (simp only [List.getElem?_cons_succ, List.getElem?_cons_zero]; rfl)
          case refine_3 => rfl
          case refine_4 => rfl
          simp only [Act.put, List.setIfInBounds_toArray, List.set_cons_zero, List.set_cons_succ]
          refine take_skipL (i := 19) (d := 93) (oi := ?_) ?_ hsel (by kernel_rfl) (by kernel_rfl) (fun _ _ _ h => h) ?_ ?_ (by assumption) ?_
          case refine_2 => (simp only [List.getElem?_cons_succ, List.getElem?_cons_zero]; rfl)
          case refine_3 => rfl
          case refine_4 => rfl
          simp only [Act.put, List.setIfInBounds_toArray, List.set_cons_zero, List.set_cons_succ]
          refine take_skipL (i := 20) (d := 94) (oi := ?_) ?_ hsel (by kernel_rfl) (by kernel_rfl) (fun _ _ _ h => h) ?_ ?_ (by assumption) ?_
          case refine_2 => (simp only [List.getElem?_cons_succ, List.getElem?_cons_zero]; rfl)
          case refine_3 => rfl
          case refine_4 => rfl
          simp only [Act.put, List.setIfInBounds_toArray, List.set_cons_zero, List.set_cons_succ]
          refine take_skipL (i := 21) (d := 95) (oi := ?_) ?_ hsel (by kernel_rfl) (by kernel_rfl) (fun _ _ _ h => h) ?_ ?_ (by assumption) ?_
          case refine_2 => (simp only [List.getElem?_cons_succ, List.getElem?_cons_zero]; rfl)
          case refine_3 => rfl
          case refine_4 => rfl
          simp only [Act.put, List.setIfInBounds_toArray, List.set_cons_zero, List.set_cons_succ]
          refine take_skipL (i := 22) (d := 96) (oi := ?_) ?_ hsel (by kernel_rfl) (by kernel_rfl) (fun _ _ _ h => h) ?_ ?_ (by assumption) ?_
          case refine_2 => (simp only [List.getElem?_cons_succ, List.getElem?_cons_zero]; rfl)
          case refine_3 => rfl
          case refine_4 => rfl
          simp only [Act.put, List.setIfInBounds_toArray, List.set_cons_zero, List.set_cons_succ]
          refine take_skipL (i := 23) (d := 97) (oi := ?_) ?_ hsel (by kernel_rfl) (by kernel_rfl) (fun _ _ _ h => h) ?_ ?_ (by assumption) ?_
          case refine_2 => (simp only [List.getElem?_cons_succ, List.getElem?_cons_zero]; rfl)
          case refine_3 => rfl
          case refine_4 => rfl
          simp only [Act.put, List.setIfInBounds_toArray, List.set_cons_zero, List.set_cons_succ]
          refine oneA 24 98 hsel (h := ?_)
          simp only [Act.put, List.setIfInBounds_toArray, List.set_cons_zero, List.set_cons_succ]
          refine wpAnyL_done (by kernel_rfl) (by kernel_rfl) ?_ _
          clear hsel hHeld
          go_wp2
          go_ret
          exact ⟨false, rfl, ⟨fun h => (by cases h), fun hR => absurd hR (by intro hR; have h1 := (HRR.out hR).1 k _ HY.out; have h2 := HT.out; have h3 := HVE.out; have h4 : 0 ≤ v := (by rw [h3]; rcases (gen_iff g).1 hR.1 with rfl | rfl | rfl <;> decide); unfold KidR at h1; simp only at h1; rw [← h2, ← h3] at h1; omega)⟩, on_new HOP.out HOZ.out⟩
        have z3 : decide (v < (t : Int)) = false := decide_eq_false c3
        by_cases c4 : k = 0
        · have c4i : ((k : Int) == 0) = true := by rw [beq_iff_eq]; omega
          have c6i : ¬ (1 : Int) < (k : Int) := by omega
          have z6 : decide ((1 : Int) < (k : Int)) = false := decide_eq_false c6i
          by_cases c5 : t = 0
          · have c5i : ((t : Int) == 0) = true := by rw [beq_iff_eq]; omega
            have z4 : decide (v < (0 : Int)) = false := decide_eq_false (by omega)
            have HKN := Lib.hid (HK.out.next HY.out (show KidR g k (xs, r) from by have h2 := HT.out; have h3 := HVE.out; unfold KidR; simp only; rw [← h2, ← h3]; omega) (fun j z hj hz => by omega))
            refine wp_region_list (B := [false, false, false, false, false, false, false, false, false, false, false, false, false, false, false, false, false, false, false, false, false, false, false, false, false]) (S := (fun W => W.cell? ⟨wr.heap.size, 0, none⟩ = some (.slice P t p) ∧ W.cell? ⟨wr.heap.size, 1, none⟩ = some (.int .i64 r))) (by kernel_rfl) (by kernel_rfl) (by kernel_rfl) (KP.out _ HOZ.out) (fun hsel hHeld => ?_)
            obtain ⟨wq, hwq⟩ : ∃ wq, wq = wp.drew := ⟨_, rfl⟩
            rw [← hwq] at HOZ hHeld
            rw [← hwq]
            clear hwq
            refine oneA 0 74 hsel (h := ?_)
            simp only [Act.put, List.setIfInBounds_toArray, List.set_cons_zero, List.set_cons_succ]
            refine oneA 1 75 hsel (h := ?_)
            simp only [Act.put, List.setIfInBounds_toArray, List.set_cons_zero, List.set_cons_succ]
            refine oneA 2 76 hsel (h := ?_)
            simp only [Act.put, List.setIfInBounds_toArray, List.set_cons_zero, List.set_cons_succ]
            refine oneA 3 77 hsel (h := ?_)
            simp only [Act.put, List.setIfInBounds_toArray, List.set_cons_zero, List.set_cons_succ]
            refine oneA 4 78 hsel (h := ?_)
            simp only [Act.put, List.setIfInBounds_toArray, List.set_cons_zero, List.set_cons_succ]
            refine oneA 5 79 hsel (h := ?_)
            simp only [Act.put, List.setIfInBounds_toArray, List.set_cons_zero, List.set_cons_succ]
            refine oneA 6 80 hsel (h := ?_)
            simp only [Act.put, List.setIfInBounds_toArray, List.set_cons_zero, List.set_cons_succ]
            refine oneA 7 81 hsel (h := ?_)
            simp only [Act.put, List.setIfInBounds_toArray, List.set_cons_zero, List.set_cons_succ]
            refine oneA 8 82 hsel (h := ?_)
            simp only [Act.put, List.setIfInBounds_toArray, List.set_cons_zero, List.set_cons_succ]
            refine oneA 9 83 hsel (h := ?_)
            simp only [Act.put, List.setIfInBounds_toArray, List.set_cons_zero, List.set_cons_succ]
            refine oneA 10 84 hsel (h := ?_)
            simp only [Act.put, List.setIfInBounds_toArray, List.set_cons_zero, List.set_cons_succ]
            refine oneA 11 85 hsel (h := ?_)
            simp only [Act.put, List.setIfInBounds_toArray, List.set_cons_zero, List.set_cons_succ]
            refine oneA 12 86 hsel (h := ?_)
            simp only [Act.put, List.setIfInBounds_toArray, List.set_cons_zero, List.set_cons_succ]
            refine wpAnyL_ready (rs := [13]) (by kernel_rfl) (by kernel_rfl) (by simp) ?_
            refine AllReadyL.cons (o := ?_) ?_ (fun K hK => ?_) AllReadyL.nil
            case refine_2 => (simp only [List.getElem?_cons_succ, List.getElem?_cons_zero]; rfl)
            go_simp
            (go_at_call 86; (with_reducible refine (HV.out _).mono ?_); rintro ee w5 ⟨rfl, rfl⟩)
            go_wp2_with (fail)
            clear hHeld
            refine hK.out _ _ (KP.out _ HOZ.out) (fun hHeld => ?_)
            clear hK K
            try simp only [List.set_cons_zero, List.set_cons_succ]
            refine oneA 14 88 hsel (h := ?_)
            simp only [Act.put, List.setIfInBounds_toArray, List.set_cons_zero, List.set_cons_succ]
            refine oneA 15 89 hsel (h := ?_)
            simp only [Act.put, List.setIfInBounds_toArray, List.set_cons_zero, List.set_cons_succ]
            refine oneA 16 90 hsel (h := ?_)
            simp only [Act.put, List.setIfInBounds_toArray, List.set_cons_zero, List.set_cons_succ]
            refine oneA 17 91 hsel (h := ?_)
            simp only [Act.put, List.setIfInBounds_toArray, List.set_cons_zero, List.set_cons_succ]
            refine oneA 18 92 hsel (h := ?_)
            simp only [Act.put, List.setIfInBounds_toArray, List.set_cons_zero, List.set_cons_succ]
            refine oneA 19 93 hsel (h := ?_)
            simp only [Act.put, List.setIfInBounds_toArray, List.set_cons_zero, List.set_cons_succ]
            refine oneA 20 94 hsel (h := ?_)
            simp only [Act.put, List.setIfInBounds_toArray, List.set_cons_zero, List.set_cons_succ]
            refine oneA 21 95 hsel (h := ?_)
            simp only [Act.put, List.setIfInBounds_toArray, List.set_cons_zero, List.set_cons_succ]
            refine oneA 22 96 hsel (h := ?_)
            simp only [Act.put, List.setIfInBounds_toArray, List.set_cons_zero, List.set_cons_succ]
            refine oneA 23 97 hsel (h := ?_)
            simp only [Act.put, List.setIfInBounds_toArray, List.set_cons_zero, List.set_cons_succ]
            refine oneA 24 98 hsel (h := ?_)
            simp only [Act.put, List.setIfInBounds_toArray, List.set_cons_zero, List.set_cons_succ]
            refine wpAnyL_done (by kernel_rfl) (by kernel_rfl) ?_ _
            clear hsel hHeld
            go_wp2_with (fail)
            replace HOZ := Lib.hid HOZ.out.drew
            refine wp_region_list (B := [false, false, false, false, false, false, false, false, false, false, false, false, false, false, false]) (S := (fun W => W.cell? ⟨wr.heap.size, 0, none⟩ = some (.slice P t p) ∧ W.cell? ⟨wr.heap.size, 1, none⟩ = some (.int .i64 r))) (by kernel_rfl) (by kernel_rfl) (by kernel_rfl) (KP.out _ HOZ.out) (fun hsel hHeld => ?_)
            obtain ⟨wv, hwv⟩ : ∃ wv, wv = wq.drew := ⟨_, rfl⟩
            rw [← hwv] at HOZ hHeld
            rw [← hwv]
            clear hwv
            refine oneA 0 99 hsel (h := ?_)
            simp only [Act.put, List.setIfInBounds_toArray, List.set_cons_zero, List.set_cons_succ]
            refine oneA 1 100 hsel (h := ?_)
            simp only [Act.put, List.setIfInBounds_toArray, List.set_cons_zero, List.set_cons_succ]
            refine oneA 2 101 hsel (h := ?_)
            simp only [Act.put, List.setIfInBounds_toArray, List.set_cons_zero, List.set_cons_succ]
            refine take_skipL (i := 3) (d := 102) (oi := ?_) ?_ hsel (by kernel_rfl) (by kernel_rfl) (fun _ _ _ h => h) ?_ ?_ (by assumption) ?_
            case refine_2 => (simp only [List.getElem?_cons_succ, List.getElem?_cons_zero]; rfl)
            case refine_3 => rfl
            case refine_4 => rfl
            simp only [Act.put, List.setIfInBounds_toArray, List.set_cons_zero, List.set_cons_succ]
            refine take_skipL (i := 4) (d := 103) (oi := ?_) ?_ hsel (by kernel_rfl) (by kernel_rfl) (fun _ _ _ h => h) ?_ ?_ (by assumption) ?_
            case refine_2 => (simp only [List.getElem?_cons_succ, List.getElem?_cons_zero]; rfl)
            case refine_3 => rfl
            case refine_4 => rfl
            simp only [Act.put, List.setIfInBounds_toArray, List.set_cons_zero, List.set_cons_succ]
            refine take_skipL (i := 5) (d := 104) (oi := ?_) ?_ hsel (by kernel_rfl) (by kernel_rfl) (fun _ _ _ h => h) ?_ ?_ (by assumption) ?_
            case refine_2 => (simp only [List.getElem?_cons_succ, List.getElem?_cons_zero]; rfl)
            case refine_3 => rfl
            case refine_4 => rfl
            simp only [Act.put, List.setIfInBounds_toArray, List.set_cons_zero, List.set_cons_succ]
            refine take_skipL (i := 6) (d := 105) (oi := ?_) ?_ hsel (by kernel_rfl) (by kernel_rfl) (fun _ _ _ h => h) ?_ ?_ (by assumption) ?_
            case refine_2 => (simp only [List.getElem?_cons_succ, List.getElem?_cons_zero]; rfl)
            case refine_3 => rfl
            case refine_4 => rfl
            simp only [Act.put, List.setIfInBounds_toArray, List.set_cons_zero, List.set_cons_succ]
            refine take_skipL (i := 7) (d := 106) (oi := ?_) ?_ hsel (by kernel_rfl) (by kernel_rfl) (fun _ _ _ h => h) ?_ ?_ (by assumption) ?_
            case refine_2 => (simp only [List.getElem?_cons_succ, List.getElem?_cons_zero]; rfl)
            case refine_3 => rfl
            case refine_4 => rfl
            simp only [Act.put, List.setIfInBounds_toArray, List.set_cons_zero, List.set_cons_succ]
            refine take_skipL (i := 8) (d := 107) (oi := ?_) ?_ hsel (by kernel_rfl) (by kernel_rfl) (fun _ _ _ h => h) ?_ ?_ (by assumption) ?_
            case refine_2 => (simp only [List.getElem?_cons_succ, List.getElem?_cons_zero]; rfl)
            case refine_3 => rfl
            case refine_4 => rfl
            simp only [Act.put, List.setIfInBounds_toArray, List.set_cons_zero, List.set_cons_succ]
            refine take_skipL (i := 9) (d := 108) (oi := ?_) ?_ hsel (by kernel_rfl) (by kernel_rfl) (fun _ _ _ h => h) ?_ ?_ (by assumption) ?_
            case refine_2 => (simp only [List.getElem?_cons_succ, List.getElem?_cons_zero]; rfl)
            case refine_3 => rfl
            case refine_4 => rfl
            simp only [Act.put, List.setIfInBounds_toArray, List.set_cons_zero, List.set_cons_succ]
            refine take_skipL (i := 10) (d := 109) (oi := ?_) ?_ hsel (by kernel_rfl) (by kernel_rfl) (fun _ _ _ h => h) ?_ ?_ (by assumption) ?_
            case refine_2 => (simp only [List.getElem?_cons_succ, List.getElem?_cons_zero]; rfl)
            case refine_3 => rfl
            case refine_4 => rfl
            simp only [Act.put, List.setIfInBounds_toArray, List.set_cons_zero, List.set_cons_succ]
            refine take_skipL (i := 11) (d := 110) (oi := ?_) ?_ hsel (by kernel_rfl) (by kernel_rfl) (fun _ _ _ h => h) ?_ ?_ (by assumption) ?_
            case refine_2 => (simp only [List.getElem?_cons_succ, List.getElem?_cons_zero]; rfl)
            case refine_3 => rfl
            case refine_4 => rfl
            simp only [Act.put, List.setIfInBounds_toArray, List.set_cons_zero, List.set_cons_succ]
            refine take_skipL (i := 12) (d := 111) (oi := ?_) ?_ hsel (by kernel_rfl) (by kernel_rfl) (fun _ _ _ h => h) ?_ ?_ (by assumption) ?_
            case refine_2 => (simp only [List.getElem?_cons_succ, List.getElem?_cons_zero]; rfl)
            case refine_3 => rfl
            case refine_4 => rfl
            simp only [Act.put, List.setIfInBounds_toArray, List.set_cons_zero, List.set_cons_succ]
            refine take_skipL (i := 13) (d := 112) (oi := ?_) ?_ hsel (by kernel_rfl) (by kernel_rfl) (fun _ _ _ h => h) ?_ ?_ (by assumption) ?_
            case refine_2 => (simp only [List.getElem?_cons_succ, List.getElem?_cons_zero]; rfl)
            case refine_3 => rfl
            case refine_4 => rfl
            simp only [Act.put, List.setIfInBounds_toArray, List.set_cons_zero, List.set_cons_succ]
            refine oneA 14 113 hsel (h := ?_)
            simp only [Act.put, List.setIfInBounds_toArray, List.set_cons_zero, List.set_cons_succ]
            refine wpAnyL_done (by kernel_rfl) (by kernel_rfl) ?_ _
            clear hsel hHeld
            go_wp2
            go_roundw
            case rel => exact ⟨k + 1, by omega, by go_num, HKN, Lib.hid (on_new HWP.out HOZ.out)⟩
            case measure => simp [intOf]; omega
          · have c5i : ((t : Int) == 0) = false := by rw [beq_eq_false_iff_ne]; omega
            refine wp_region_list (B := [false, false, false, false, false, false, false, false, false, false, false, false, false, false, false, false, false, false, false, false, false, false, false, false, false]) (S := (fun W => W.cell? ⟨wr.heap.size, 0, none⟩ = some (.slice P t p) ∧ W.cell? ⟨wr.heap.size, 1, none⟩ = some (.int .i64 r))) (by kernel_rfl) (by kernel_rfl) (by kernel_rfl) (KP.out _ HOZ.out) (fun hsel hHeld => ?_)
            obtain ⟨wq, hwq⟩ : ∃ wq, wq = wp.drew := ⟨_, rfl⟩
            rw [← hwq] at HOZ hHeld
            rw [← hwq]
            clear hwq
            refine oneA 0 74 hsel (h := ?_)
            simp only [Act.put, List.setIfInBounds_toArray, List.set_cons_zero, List.set_cons_succ]
            refine oneA 1 75 hsel (h := ?_)
            simp only [Act.put, List.setIfInBounds_toArray, List.set_cons_zero, List.set_cons_succ]
            refine oneA 2 76 hsel (h := ?_)
            simp only [Act.put, List.setIfInBounds_toArray, List.set_cons_zero, List.set_cons_succ]
            refine oneA 3 77 hsel (h := ?_)
            simp only [Act.put, List.setIfInBounds_toArray, List.set_cons_zero, List.set_cons_succ]
            refine oneA 4 78 hsel (h := ?_)
            simp only [Act.put, List.setIfInBounds_toArray, List.set_cons_zero, List.set_cons_succ]
            refine oneA 5 79 hsel (h := ?_)
            simp only [Act.put, List.setIfInBounds_toArray, List.set_cons_zero, List.set_cons_succ]
            refine oneA 6 80 hsel (h := ?_)
            simp only [Act.put, List.setIfInBounds_toArray, List.set_cons_zero, List.set_cons_succ]
            refine oneA 7 81 hsel (h := ?_)
            simp only [Act.put, List.setIfInBounds_toArray, List.set_cons_zero, List.set_cons_succ]
            refine oneA 8 82 hsel (h := ?_)
            simp only [Act.put, List.setIfInBounds_toArray, List.set_cons_zero, List.set_cons_succ]
            refine oneA 9 83 hsel (h := ?_)
            simp only [Act.put, List.setIfInBounds_toArray, List.set_cons_zero, List.set_cons_succ]
            refine oneA 10 84 hsel (h := ?_)
            simp only [Act.put, List.setIfInBounds_toArray, List.set_cons_zero, List.set_cons_succ]
            refine oneA 11 85 hsel (h := ?_)
            simp only [Act.put, List.setIfInBounds_toArray, List.set_cons_zero, List.set_cons_succ]
            refine oneA 12 86 hsel (h := ?_)
            simp only [Act.put, List.setIfInBounds_toArray, List.set_cons_zero, List.set_cons_succ]
            refine wpAnyL_ready (rs := [13]) (by kernel_rfl) (by kernel_rfl) (by simp) ?_
            refine AllReadyL.cons (o := ?_) ?_ (fun K hK => ?_) AllReadyL.nil
            case refine_2 => (simp only [List.getElem?_cons_succ, List.getElem?_cons_zero]; rfl)
            go_simp
            (go_at_call 86; (with_reducible refine (HV.out _).mono ?_); rintro ee w5 ⟨rfl, rfl⟩)
            go_wp2_with (fail)
            clear hHeld
            refine hK.out _ _ (KP.out _ HOZ.out) (fun hHeld => ?_)
            clear hK K
            try simp only [List.set_cons_zero, List.set_cons_succ]
            refine oneA 14 88 hsel (h := ?_)
            simp only [Act.put, List.setIfInBounds_toArray, List.set_cons_zero, List.set_cons_succ]
            refine oneA 15 89 hsel (h := ?_)
            simp only [Act.put, List.setIfInBounds_toArray, List.set_cons_zero, List.set_cons_succ]
            refine oneA 16 90 hsel (h := ?_)
            simp only [Act.put, List.setIfInBounds_toArray, List.set_cons_zero, List.set_cons_succ]
            refine oneA 17 91 hsel (h := ?_)
            simp only [Act.put, List.setIfInBounds_toArray, List.set_cons_zero, List.set_cons_succ]
            refine oneA 18 92 hsel (h := ?_)
            simp only [Act.put, List.setIfInBounds_toArray, List.set_cons_zero, List.set_cons_succ]
            refine oneA 19 93 hsel (h := ?_)
            simp only [Act.put, List.setIfInBounds_toArray, List.set_cons_zero, List.set_cons_succ]
            refine oneA 20 94 hsel (h := ?_)
            simp only [Act.put, List.setIfInBounds_toArray, List.set_cons_zero, List.set_cons_succ]
            refine oneA 21 95 hsel (h := ?_)
            simp only [Act.put, List.setIfInBounds_toArray, List.set_cons_zero, List.set_cons_succ]
            refine oneA 22 96 hsel (h := ?_)
            simp only [Act.put, List.setIfInBounds_toArray, List.set_cons_zero, List.set_cons_succ]
            refine oneA 23 97 hsel (h := ?_)
            simp only [Act.put, List.setIfInBounds_toArray, List.set_cons_zero, List.set_cons_succ]
            refine oneA 24 98 hsel (h := ?_)
            simp only [Act.put, List.setIfInBounds_toArray, List.set_cons_zero, List.set_cons_succ]
            refine wpAnyL_done (by kernel_rfl) (by kernel_rfl) ?_ _
            clear hsel hHeld
            go_wp2
            go_ret
            exact ⟨false, rfl, ⟨fun h => (by cases h), fun hR => absurd hR (by intro hR; have h1 := (HRR.out hR).1 k _ HY.out; have h2 := HT.out; have h3 := HVE.out; have h4 : 0 ≤ v := (by rw [h3]; rcases (gen_iff g).1 hR.1 with rfl | rfl | rfl <;> decide); unfold KidR at h1; simp only at h1; rw [← h2, ← h3] at h1; omega)⟩, on_new HOP.out HOZ.out⟩
        · have c4i : ((k : Int) == 0) = false := by rw [beq_eq_false_iff_ne]; omega
          by_cases c5 : t = 0
          · have c5i : ((t : Int) == 0) = true := by rw [beq_iff_eq]; omega
            have z4 : decide (v < (0 : Int)) = false := decide_eq_false (by omega)
            refine wp_region_list (B := [false, false, false, false, false, false, false, false, false, false, false, false, false, false, false, false, false, false, false, false, false, false, false, false, false]) (S := (fun W => W.cell? ⟨wr.heap.size, 0, none⟩ = some (.slice P t p) ∧ W.cell? ⟨wr.heap.size, 1, none⟩ = some (.int .i64 r))) (by kernel_rfl) (by kernel_rfl) (by kernel_rfl) (KP.out _ HOZ.out) (fun hsel hHeld => ?_)
            obtain ⟨wq, hwq⟩ : ∃ wq, wq = wp.drew := ⟨_, rfl⟩
            rw [← hwq] at HOZ hHeld
            rw [← hwq]
            clear hwq
            refine oneA 0 74 hsel (h := ?_)
            simp only [Act.put, List.setIfInBounds_toArray, List.set_cons_zero, List.set_cons_succ]
            refine oneA 1 75 hsel (h := ?_)
            simp only [Act.put, List.setIfInBounds_toArray, List.set_cons_zero, List.set_cons_succ]
            refine oneA 2 76 hsel (h := ?_)
            simp only [Act.put, List.setIfInBounds_toArray, List.set_cons_zero, List.set_cons_succ]
            refine oneA 3 77 hsel (h := ?_)
            simp only [Act.put, List.setIfInBounds_toArray, List.set_cons_zero, List.set_cons_succ]
            refine oneA 4 78 hsel (h := ?_)
            simp only [Act.put, List.setIfInBounds_toArray, List.set_cons_zero, List.set_cons_succ]
            refine oneA 5 79 hsel (h := ?_)
            simp only [Act.put, List.setIfInBounds_toArray, List.set_cons_zero, List.set_cons_succ]
            refine oneA 6 80 hsel (h := ?_)
            simp only [Act.put, List.setIfInBounds_toArray, List.set_cons_zero, List.set_cons_succ]
            refine oneA 7 81 hsel (h := ?_)
            simp only [Act.put, List.setIfInBounds_toArray, List.set_cons_zero, List.set_cons_succ]
            refine oneA 8 82 hsel (h := ?_)
            simp only [Act.put, List.setIfInBounds_toArray, List.set_cons_zero, List.set_cons_succ]
            refine oneA 9 83 hsel (h := ?_)
            simp only [Act.put, List.setIfInBounds_toArray, List.set_cons_zero, List.set_cons_succ]
            refine oneA 10 84 hsel (h := ?_)
            simp only [Act.put, List.setIfInBounds_toArray, List.set_cons_zero, List.set_cons_succ]
            refine oneA 11 85 hsel (h := ?_)
            simp only [Act.put, List.setIfInBounds_toArray, List.set_cons_zero, List.set_cons_succ]
            refine oneA 12 86 hsel (h := ?_)
            simp only [Act.put, List.setIfInBounds_toArray, List.set_cons_zero, List.set_cons_succ]
            refine wpAnyL_ready (rs := [13]) (by kernel_rfl) (by kernel_rfl) (by simp) ?_
            refine AllReadyL.cons (o := ?_) ?_ (fun K hK => ?_) AllReadyL.nil
            case refine_2 => (simp only [List.getElem?_cons_succ, List.getElem?_cons_zero]; rfl)
            go_simp
            (go_at_call 86; (with_reducible refine (HV.out _).mono ?_); rintro ee w5 ⟨rfl, rfl⟩)
            go_wp2_with (fail)
            clear hHeld
            refine hK.out _ _ (KP.out _ HOZ.out) (fun hHeld => ?_)
            clear hK K
            try simp only [List.set_cons_zero, List.set_cons_succ]
            refine oneA 14 88 hsel (h := ?_)
            simp only [Act.put, List.setIfInBounds_toArray, List.set_cons_zero, List.set_cons_succ]
            refine oneA 15 89 hsel (h := ?_)
            simp only [Act.put, List.setIfInBounds_toArray, List.set_cons_zero, List.set_cons_succ]
            refine oneA 16 90 hsel (h := ?_)
            simp only [Act.put, List.setIfInBounds_toArray, List.set_cons_zero, List.set_cons_succ]
            refine oneA 17 91 hsel (h := ?_)
            simp only [Act.put, List.setIfInBounds_toArray, List.set_cons_zero, List.set_cons_succ]
            refine oneA 18 92 hsel (h := ?_)
            simp only [Act.put, List.setIfInBounds_toArray, List.set_cons_zero, List.set_cons_succ]
            refine oneA 19 93 hsel (h := ?_)
            simp only [Act.put, List.setIfInBounds_toArray, List.set_cons_zero, List.set_cons_succ]
            refine oneA 20 94 hsel (h := ?_)
            simp only [Act.put, List.setIfInBounds_toArray, List.set_cons_zero, List.set_cons_succ]
            refine oneA 21 95 hsel (h := ?_)
            simp only [Act.put, List.setIfInBounds_toArray, List.set_cons_zero, List.set_cons_succ]
            refine oneA 22 96 hsel (h := ?_)
            simp only [Act.put, List.setIfInBounds_toArray, List.set_cons_zero, List.set_cons_succ]
            refine oneA 23 97 hsel (h := ?_)
            simp only [Act.put, List.setIfInBounds_toArray, List.set_cons_zero, List.set_cons_succ]
            refine oneA 24 98 hsel (h := ?_)
            simp only [Act.put, List.setIfInBounds_toArray, List.set_cons_zero, List.set_cons_succ]
            refine wpAnyL_done (by kernel_rfl) (by kernel_rfl) ?_ _
            clear hsel hHeld
            go_wp2
            go_ret
            exact ⟨false, rfl, ⟨fun h => (by cases h), fun hR => absurd hR (by intro hR; have h1 := (HRR.out hR).1 k _ HY.out; have h2 := HT.out; have h3 := HVE.out; have h4 : 0 ≤ v := (by rw [h3]; rcases (gen_iff g).1 hR.1 with rfl | rfl | rfl <;> decide); unfold KidR at h1; simp only at h1; rw [← h2, ← h3] at h1; omega)⟩, on_new HOP.out HOZ.out⟩
          · have c5i : ((t : Int) == 0) = false := by rw [beq_eq_false_iff_ne]; omega
            by_cases c6 : 1 < k
            · have c6i : (1 : Int) < (k : Int) := by omega
              have z6 : decide ((1 : Int) < (k : Int)) = true := decide_eq_true c6i
              obtain ⟨bb', off', y0, P0, p0, e0, hb0, hy0, d0, _, s0⟩ := kds_at (HNP.out.2.2) (k := k - 1) (by omega)
              cases e0
              have HS0 := Lib.hid s0
              have HY0 := Lib.hid hy0
              have hw1 : IntKind.i64.wrap ((k : Int) - 1) = ((k - 1 : Nat) : Int) := by rw [IntWalk.i64_in _ (by omega)]; omega
              have j3 : (0 : Int) ≤ ((k - 1 : Nat) : Int) := by omega
              have j4 : ((k - 1 : Nat) : Int) < (m : Int) := by omega
              replace KP : Hid (∀ W, Only (wp.heap.size ≤ ·) wp W → W.cell? ⟨wr.heap.size, 0, none⟩ = some (.slice P t p) ∧ W.cell? ⟨wr.heap.size, 1, none⟩ = some (.int .i64 r) ∧ W.cell? ⟨w.heap.size, 0, none⟩ = some (.bool false) ∧ W.cell? ⟨w.heap.size, 1, none⟩ = some (.slice A n c) ∧ W.cell? ⟨w.heap.size, 2, none⟩ = some (.slice (some ⟨bb, off, none⟩) m d) ∧ W.cell? ⟨bb, off + (k - 1) * 2, none⟩ = some (.slice P0 y0.1.length p0)) := Lib.hid fun W hW => ⟨(HBP.out.later hW).cell 0, (HBP.out.later hW).cell 1, (HIP.out.later hW).tri.1, (HIP.out.later hW).tri.2.1, (HIP.out.later hW).tri.2.2, (hW.cell (p := ⟨bb, off + (k - 1) * 2, none⟩) (Nat.not_le.2 hb0)).trans d0⟩
              clear s0 hb0 d0 hy0
              obtain ⟨q, hq⟩ : ∃ q, cmp y0.1 xs = q := ⟨_, rfl⟩
              have HQ := Lib.hid hq
              clear hq
              by_cases hq1 : q = -1
              · subst hq1
                have HKN := Lib.hid (HK.out.next HY.out (show KidR g k (xs, r) from by have h2 := HT.out; have h3 := HVE.out; unfold KidR; simp only; rw [← h2, ← h3]; omega) (fun j z hj hz => by
                  have e : j = k - 1 := by omega
                  subst e
                  rw [HY0.out] at hz
                  cases hz
                  have := HQ.out
                  simp only
                  omega))
                refine wp_region_list (B := [false, false, false, false, false, false, false, false, false, false, false, false, false, false, false, false, false, false, false, false, false, false, false, false, false]) (S := (fun W => W.cell? ⟨wr.heap.size, 0, none⟩ = some (.slice P t p) ∧ W.cell? ⟨wr.heap.size, 1, none⟩ = some (.int .i64 r) ∧ W.cell? ⟨w.heap.size, 0, none⟩ = some (.bool false) ∧ W.cell? ⟨w.heap.size, 1, none⟩ = some (.slice A n c) ∧ W.cell? ⟨w.heap.size, 2, none⟩ = some (.slice (some ⟨bb, off, none⟩) m d) ∧ W.cell? ⟨bb, off + (k - 1) * 2, none⟩ = some (.slice P0 y0.1.length p0))) (by kernel_rfl) (by kernel_rfl) (by kernel_rfl) (KP.out _ HOZ.out) (fun hsel hHeld => ?_)
                obtain ⟨wq, hwq⟩ : ∃ wq, wq = wp.drew := ⟨_, rfl⟩
                rw [← hwq] at HOZ hHeld
                rw [← hwq]
                clear hwq
                refine oneA 0 74 hsel (h := ?_)
                simp only [Act.put, List.setIfInBounds_toArray, List.set_cons_zero, List.set_cons_succ]
                refine oneA 1 75 hsel (h := ?_)
                simp only [Act.put, List.setIfInBounds_toArray, List.set_cons_zero, List.set_cons_succ]
                refine oneA 2 76 hsel (h := ?_)
                simp only [Act.put, List.setIfInBounds_toArray, List.set_cons_zero, List.set_cons_succ]
                refine oneA 3 77 hsel (h := ?_)
                simp only [Act.put, List.setIfInBounds_toArray, List.set_cons_zero, List.set_cons_succ]
                refine oneA 4 78 hsel (h := ?_)
                simp only [Act.put, List.setIfInBounds_toArray, List.set_cons_zero, List.set_cons_succ]
                refine oneA 5 79 hsel (h := ?_)
                simp only [Act.put, List.setIfInBounds_toArray, List.set_cons_zero, List.set_cons_succ]
                refine oneA 6 80 hsel (h := ?_)
                simp only [Act.put, List.setIfInBounds_toArray, List.set_cons_zero, List.set_cons_succ]
                refine oneA 7 81 hsel (h := ?_)
                simp only [Act.put, List.setIfInBounds_toArray, List.set_cons_zero, List.set_cons_succ]
                refine oneA 8 82 hsel (h := ?_)
                simp only [Act.put, List.setIfInBounds_toArray, List.set_cons_zero, List.set_cons_succ]
                refine oneA 9 83 hsel (h := ?_)
                simp only [Act.put, List.setIfInBounds_toArray, List.set_cons_zero, List.set_cons_succ]
                refine oneA 10 84 hsel (h := ?_)
                simp only [Act.put, List.setIfInBounds_toArray, List.set_cons_zero, List.set_cons_succ]
                refine oneA 11 85 hsel (h := ?_)
                simp only [Act.put, List.setIfInBounds_toArray, List.set_cons_zero, List.set_cons_succ]
                refine oneA 12 86 hsel (h := ?_)
                simp only [Act.put, List.setIfInBounds_toArray, List.set_cons_zero, List.set_cons_succ]
                refine wpAnyL_ready (rs := [13]) (by kernel_rfl) (by kernel_rfl) (by simp) ?_
                refine AllReadyL.cons (o := ?_) ?_ (fun K hK => ?_) AllReadyL.nil
                case refine_2 => (simp only [List.getElem?_cons_succ, List.getElem?_cons_zero]; rfl)
                go_simp
                (go_at_call 86; (with_reducible refine (HV.out _).mono ?_); rintro ee w5 ⟨rfl, rfl⟩)
                go_wp2_with (fail)
                clear hHeld
                refine hK.out _ _ (KP.out _ HOZ.out) (fun hHeld => ?_)
                clear hK K
                try simp only [List.set_cons_zero, List.set_cons_succ]
                refine oneA 14 88 hsel (h := ?_)
                simp only [Act.put, List.setIfInBounds_toArray, List.set_cons_zero, List.set_cons_succ]
                refine oneA 15 89 hsel (h := ?_)
                simp only [Act.put, List.setIfInBounds_toArray, List.set_cons_zero, List.set_cons_succ]
                refine oneA 16 90 hsel (h := ?_)
                simp only [Act.put, List.setIfInBounds_toArray, List.set_cons_zero, List.set_cons_succ]
                refine oneA 17 91 hsel (h := ?_)
                simp only [Act.put, List.setIfInBounds_toArray, List.set_cons_zero, List.set_cons_succ]
                refine oneA 18 92 hsel (h := ?_)
                simp only [Act.put, List.setIfInBounds_toArray, List.set_cons_zero, List.set_cons_succ]
                refine oneA 19 93 hsel (h := ?_)
                simp only [Act.put, List.setIfInBounds_toArray, List.set_cons_zero, List.set_cons_succ]
                refine oneA 20 94 hsel (h := ?_)
                simp only [Act.put, List.setIfInBounds_toArray, List.set_cons_zero, List.set_cons_succ]
                refine oneA 21 95 hsel (h := ?_)
                simp only [Act.put, List.setIfInBounds_toArray, List.set_cons_zero, List.set_cons_succ]
                refine oneA 22 96 hsel (h := ?_)
                simp only [Act.put, List.setIfInBounds_toArray, List.set_cons_zero, List.set_cons_succ]
                refine oneA 23 97 hsel (h := ?_)
                simp only [Act.put, List.setIfInBounds_toArray, List.set_cons_zero, List.set_cons_succ]
                refine oneA 24 98 hsel (h := ?_)
                simp only [Act.put, List.setIfInBounds_toArray, List.set_cons_zero, List.set_cons_succ]
                refine wpAnyL_done (by kernel_rfl) (by kernel_rfl) ?_ _
                clear hsel hHeld
                go_wp2_with (fail)
                replace HOZ := Lib.hid HOZ.out.drew
                refine wp_region_list (B := [false, false, false, false, false, false, false, false, false, false, false, false, false, false, false]) (S := (fun W => W.cell? ⟨wr.heap.size, 0, none⟩ = some (.slice P t p) ∧ W.cell? ⟨wr.heap.size, 1, none⟩ = some (.int .i64 r) ∧ W.cell? ⟨w.heap.size, 0, none⟩ = some (.bool false) ∧ W.cell? ⟨w.heap.size, 1, none⟩ = some (.slice A n c) ∧ W.cell? ⟨w.heap.size, 2, none⟩ = some (.slice (some ⟨bb, off, none⟩) m d) ∧ W.cell? ⟨bb, off + (k - 1) * 2, none⟩ = some (.slice P0 y0.1.length p0))) (by kernel_rfl) (by kernel_rfl) (by kernel_rfl) (KP.out _ HOZ.out) (fun hsel hHeld => ?_)
                obtain ⟨wv, hwv⟩ : ∃ wv, wv = wq.drew := ⟨_, rfl⟩
                rw [← hwv] at HOZ hHeld
                rw [← hwv]
                clear hwv
                refine oneA 0 99 hsel (h := ?_)
                simp only [Act.put, List.setIfInBounds_toArray, List.set_cons_zero, List.set_cons_succ]
                refine oneA 1 100 hsel (h := ?_)
                simp only [Act.put, List.setIfInBounds_toArray, List.set_cons_zero, List.set_cons_succ]
                refine oneA 2 101 hsel (h := ?_)
                simp only [Act.put, List.setIfInBounds_toArray, List.set_cons_zero, List.set_cons_succ]
                refine oneA 3 102 hsel (h := ?_)
                simp only [Act.put, List.setIfInBounds_toArray, List.set_cons_zero, List.set_cons_succ]
                refine oneA 4 103 hsel (h := ?_)
                simp only [Act.put, List.setIfInBounds_toArray, List.set_cons_zero, List.set_cons_succ]
                refine oneA 5 104 hsel (h := ?_)
                simp only [Act.put, List.setIfInBounds_toArray, List.set_cons_zero, List.set_cons_succ]
                refine oneA 6 105 hsel (h := ?_)
                simp only [Act.put, List.setIfInBounds_toArray, List.set_cons_zero, List.set_cons_succ]
                refine oneA 7 106 hsel (h := ?_)
                simp only [Act.put, List.setIfInBounds_toArray, List.set_cons_zero, List.set_cons_succ]
                refine oneA 8 107 hsel (h := ?_)
                simp only [Act.put, List.setIfInBounds_toArray, List.set_cons_zero, List.set_cons_succ]
                refine oneA 9 108 hsel (h := ?_)
                simp only [Act.put, List.setIfInBounds_toArray, List.set_cons_zero, List.set_cons_succ]
                refine oneA 10 109 hsel (h := ?_)
                simp only [Act.put, List.setIfInBounds_toArray, List.set_cons_zero, List.set_cons_succ]
                refine oneA 11 110 hsel (h := ?_)
                simp only [Act.put, List.setIfInBounds_toArray, List.set_cons_zero, List.set_cons_succ]
                refine wpAnyL_ready (rs := [12]) (by kernel_rfl) (by kernel_rfl) (by simp) ?_
                refine AllReadyL.cons (o := ?_) ?_ (fun K hK => ?_) AllReadyL.nil
                case refine_2 => (simp only [List.getElem?_cons_succ, List.getElem?_cons_zero]; rfl)
                go_simp
                (go_at_call 24; (with_reducible refine (rCompare_b _ _ _ y0.1 xs (-1) (HS0.out.later HOZ.out) (HS1.out.later HOZ.out) HQ.out).mono ?_); rintro ee w6 ⟨rfl, ho⟩; (replace HOZ := Lib.hid (on_new HOZ.out ho)); clear ho)
                go_wp2_with (fail)
                clear hHeld
                refine hK.out _ _ (KP.out _ HOZ.out) (fun hHeld => ?_)
                clear hK K
                try simp only [List.set_cons_zero, List.set_cons_succ]
                refine oneA 13 112 hsel (h := ?_)
                simp only [Act.put, List.setIfInBounds_toArray, List.set_cons_zero, List.set_cons_succ]
                refine oneA 14 113 hsel (h := ?_)
                simp only [Act.put, List.setIfInBounds_toArray, List.set_cons_zero, List.set_cons_succ]
                refine wpAnyL_done (by kernel_rfl) (by kernel_rfl) ?_ _
                clear hsel hHeld
                go_wp2
                go_roundw
                case rel => exact ⟨k + 1, by omega, by go_num, HKN, Lib.hid (on_new HWP.out HOZ.out)⟩
                case measure => simp [intOf]; omega
              · have hqn : (q == -1) = false := by rw [beq_eq_false_iff_ne]; exact hq1
                refine wp_region_list (B := [false, false, false, false, false, false, false, false, false, false, false, false, false, false, false, false, false, false, false, false, false, false, false, false, false]) (S := (fun W => W.cell? ⟨wr.heap.size, 0, none⟩ = some (.slice P t p) ∧ W.cell? ⟨wr.heap.size, 1, none⟩ = some (.int .i64 r) ∧ W.cell? ⟨w.heap.size, 0, none⟩ = some (.bool false) ∧ W.cell? ⟨w.heap.size, 1, none⟩ = some (.slice A n c) ∧ W.cell? ⟨w.heap.size, 2, none⟩ = some (.slice (some ⟨bb, off, none⟩) m d) ∧ W.cell? ⟨bb, off + (k - 1) * 2, none⟩ = some (.slice P0 y0.1.length p0))) (by kernel_rfl) (by kernel_rfl) (by kernel_rfl) (KP.out _ HOZ.out) (fun hsel hHeld => ?_)
                obtain ⟨wq, hwq⟩ : ∃ wq, wq = wp.drew := ⟨_, rfl⟩
                rw [← hwq] at HOZ hHeld
                rw [← hwq]
                clear hwq
                refine oneA 0 74 hsel (h := ?_)
                simp only [Act.put, List.setIfInBounds_toArray, List.set_cons_zero, List.set_cons_succ]
                refine oneA 1 75 hsel (h := ?_)
                simp only [Act.put, List.setIfInBounds_toArray, List.set_cons_zero, List.set_cons_succ]
                refine oneA 2 76 hsel (h := ?_)
                simp only [Act.put, List.setIfInBounds_toArray, List.set_cons_zero, List.set_cons_succ]
                refine oneA 3 77 hsel (h := ?_)
                simp only [Act.put, List.setIfInBounds_toArray, List.set_cons_zero, List.set_cons_succ]
                refine oneA 4 78 hsel (h := ?_)
                simp only [Act.put, List.setIfInBounds_toArray, List.set_cons_zero, List.set_cons_succ]
                refine oneA 5 79 hsel (h := ?_)
                simp only [Act.put, List.setIfInBounds_toArray, List.set_cons_zero, List.set_cons_succ]
                refine oneA 6 80 hsel (h := ?_)
                simp only [Act.put, List.setIfInBounds_toArray, List.set_cons_zero, List.set_cons_succ]
                refine oneA 7 81 hsel (h := ?_)
                simp only [Act.put, List.setIfInBounds_toArray, List.set_cons_zero, List.set_cons_succ]
                refine oneA 8 82 hsel (h := ?_)
                simp only [Act.put, List.setIfInBounds_toArray, List.set_cons_zero, List.set_cons_succ]
                refine oneA 9 83 hsel (h := ?_)
                simp only [Act.put, List.setIfInBounds_toArray, List.set_cons_zero, List.set_cons_succ]
                refine oneA 10 84 hsel (h := ?_)
                simp only [Act.put, List.setIfInBounds_toArray, List.set_cons_zero, List.set_cons_succ]
                refine oneA 11 85 hsel (h := ?_)
                simp only [Act.put, List.setIfInBounds_toArray, List.set_cons_zero, List.set_cons_succ]
                refine oneA 12 86 hsel (h := ?_)
                simp only [Act.put, List.setIfInBounds_toArray, List.set_cons_zero, List.set_cons_succ]
                refine wpAnyL_ready (rs := [13]) (by kernel_rfl) (by kernel_rfl) (by simp) ?_
                refine AllReadyL.cons (o := ?_) ?_ (fun K hK => ?_) AllReadyL.nil
                case refine_2 => (simp only [List.getElem?_cons_succ, List.getElem?_cons_zero]; rfl)
                go_simp
                (go_at_call 86; (with_reducible refine (HV.out _).mono ?_); rintro ee w5 ⟨rfl, rfl⟩)
                go_wp2_with (fail)
                clear hHeld
                refine hK.out _ _ (KP.out _ HOZ.out) (fun hHeld => ?_)
                clear hK K
                try simp only [List.set_cons_zero, List.set_cons_succ]
                refine oneA 14 88 hsel (h := ?_)
                simp only [Act.put, List.setIfInBounds_toArray, List.set_cons_zero, List.set_cons_succ]
                refine oneA 15 89 hsel (h := ?_)
                simp only [Act.put, List.setIfInBounds_toArray, List.set_cons_zero, List.set_cons_succ]
                refine oneA 16 90 hsel (h := ?_)
                simp only [Act.put, List.setIfInBounds_toArray, List.set_cons_zero, List.set_cons_succ]
                refine oneA 17 91 hsel (h := ?_)
                simp only [Act.put, List.setIfInBounds_toArray, List.set_cons_zero, List.set_cons_succ]
                refine oneA 18 92 hsel (h := ?_)
                simp only [Act.put, List.setIfInBounds_toArray, List.set_cons_zero, List.set_cons_succ]
                refine oneA 19 93 hsel (h := ?_)
                simp only [Act.put, List.setIfInBounds_toArray, List.set_cons_zero, List.set_cons_succ]
                refine oneA 20 94 hsel (h := ?_)
                simp only [Act.put, List.setIfInBounds_toArray, List.set_cons_zero, List.set_cons_succ]
                refine oneA 21 95 hsel (h := ?_)
                simp only [Act.put, List.setIfInBounds_toArray, List.set_cons_zero, List.set_cons_succ]
                refine oneA 22 96 hsel (h := ?_)
                simp only [Act.put, List.setIfInBounds_toArray, List.set_cons_zero, List.set_cons_succ]
                refine oneA 23 97 hsel (h := ?_)
                simp only [Act.put, List.setIfInBounds_toArray, List.set_cons_zero, List.set_cons_succ]
                refine oneA 24 98 hsel (h := ?_)
                simp only [Act.put, List.setIfInBounds_toArray, List.set_cons_zero, List.set_cons_succ]
                refine wpAnyL_done (by kernel_rfl) (by kernel_rfl) ?_ _
                clear hsel hHeld
                go_wp2_with (fail)
                replace HOZ := Lib.hid HOZ.out.drew
                refine wp_region_list (B := [false, false, false, false, false, false, false, false, false, false, false, false, false, false, false]) (S := (fun W => W.cell? ⟨wr.heap.size, 0, none⟩ = some (.slice P t p) ∧ W.cell? ⟨wr.heap.size, 1, none⟩ = some (.int .i64 r) ∧ W.cell? ⟨w.heap.size, 0, none⟩ = some (.bool false) ∧ W.cell? ⟨w.heap.size, 1, none⟩ = some (.slice A n c) ∧ W.cell? ⟨w.heap.size, 2, none⟩ = some (.slice (some ⟨bb, off, none⟩) m d) ∧ W.cell? ⟨bb, off + (k - 1) * 2, none⟩ = some (.slice P0 y0.1.length p0))) (by kernel_rfl) (by kernel_rfl) (by kernel_rfl) (KP.out _ HOZ.out) (fun hsel hHeld => ?_)
                obtain ⟨wv, hwv⟩ : ∃ wv, wv = wq.drew := ⟨_, rfl⟩
                rw [← hwv] at HOZ hHeld
                rw [← hwv]
                clear hwv
                refine oneA 0 99 hsel (h := ?_)
                simp only [Act.put, List.setIfInBounds_toArray, List.set_cons_zero, List.set_cons_succ]
                refine oneA 1 100 hsel (h := ?_)
                simp only [Act.put, List.setIfInBounds_toArray, List.set_cons_zero, List.set_cons_succ]
                refine oneA 2 101 hsel (h := ?_)
                simp only [Act.put, List.setIfInBounds_toArray, List.set_cons_zero, List.set_cons_succ]
                refine oneA 3 102 hsel (h := ?_)
                simp only [Act.put, List.setIfInBounds_toArray, List.set_cons_zero, List.set_cons_succ]
                refine oneA 4 103 hsel (h := ?_)
                simp only [Act.put, List.setIfInBounds_toArray, List.set_cons_zero, List.set_cons_succ]
                refine oneA 5 104 hsel (h := ?_)
                simp only [Act.put, List.setIfInBounds_toArray, List.set_cons_zero, List.set_cons_succ]
                refine oneA 6 105 hsel (h := ?_)
                simp only [Act.put, List.setIfInBounds_toArray, List.set_cons_zero, List.set_cons_succ]
                refine oneA 7 106 hsel (h := ?_)
                simp only [Act.put, List.setIfInBounds_toArray, List.set_cons_zero, List.set_cons_succ]
                refine oneA 8 107 hsel (h := ?_)
                simp only [Act.put, List.setIfInBounds_toArray, List.set_cons_zero, List.set_cons_succ]
                refine oneA 9 108 hsel (h := ?_)
                simp only [Act.put, List.setIfInBounds_toArray, List.set_cons_zero, List.set_cons_succ]
                refine oneA 10 109 hsel (h := ?_)
                simp only [Act.put, List.setIfInBounds_toArray, List.set_cons_zero, List.set_cons_succ]
                refine oneA 11 110 hsel (h := ?_)
                simp only [Act.put, List.setIfInBounds_toArray, List.set_cons_zero, List.set_cons_succ]
                refine wpAnyL_ready (rs := [12]) (by kernel_rfl) (by kernel_rfl) (by simp) ?_
                refine AllReadyL.cons (o := ?_) ?_ (fun K hK => ?_) AllReadyL.nil
                case refine_2 => (simp only [List.getElem?_cons_succ, List.getElem?_cons_zero]; rfl)
                go_simp
                (go_at_call 24; (with_reducible refine (rCompare_b _ _ _ y0.1 xs q (HS0.out.later HOZ.out) (HS1.out.later HOZ.out) HQ.out).mono ?_); rintro ee w6 ⟨rfl, ho⟩; (replace HOZ := Lib.hid (on_new HOZ.out ho)); clear ho)
                go_wp2_with (fail)
                clear hHeld
                refine hK.out _ _ (KP.out _ HOZ.out) (fun hHeld => ?_)
                clear hK K
                try simp only [List.set_cons_zero, List.set_cons_succ]
                refine oneA 13 112 hsel (h := ?_)
                simp only [Act.put, List.setIfInBounds_toArray, List.set_cons_zero, List.set_cons_succ]
                refine oneA 14 113 hsel (h := ?_)
                simp only [Act.put, List.setIfInBounds_toArray, List.set_cons_zero, List.set_cons_succ]
                refine wpAnyL_done (by kernel_rfl) (by kernel_rfl) ?_ _
                clear hsel hHeld
                go_wp2
                go_ret
                exact ⟨false, rfl, ⟨fun h => (by cases h), fun hR => absurd hR (by intro hR; have h1 := (HRR.out hR).2.1 (k - 1) _ _ HY0.out (by rw [show k - 1 + 1 = k by omega]; exact HY.out); have h2 := HQ.out; have h3 := cmp_range y0.1 xs; simp only at h1; omega)⟩, on_new HOP.out HOZ.out⟩
            · have c6i : ¬ (1 : Int) < (k : Int) := by omega
              have z6 : decide ((1 : Int) < (k : Int)) = false := decide_eq_false c6i
              have HKN := Lib.hid (HK.out.next HY.out (show KidR g k (xs, r) from by have h2 := HT.out; have h3 := HVE.out; unfold KidR; simp only; rw [← h2, ← h3]; omega) (fun j z hj hz => by
                have e : j = 0 := by omega
                subst e
                have h1 := HK.out.1 0 z (by omega) hz
                unfold KidR at h1
                have h2 := h1.2.1 rfl
                have h3 := HT.out
                exact cmp_less h2 (by simp only; omega)))
              refine wp_region_list (B := [false, false, false, false, false, false, false, false, false, false, false, false, false, false, false, false, false, false, false, false, false, false, false, false, false]) (S := (fun W => W.cell? ⟨wr.heap.size, 0, none⟩ = some (.slice P t p) ∧ W.cell? ⟨wr.heap.size, 1, none⟩ = some (.int .i64 r))) (by kernel_rfl) (by kernel_rfl) (by kernel_rfl) (KP.out _ HOZ.out) (fun hsel hHeld => ?_)
              obtain ⟨wq, hwq⟩ : ∃ wq, wq = wp.drew := ⟨_, rfl⟩
              rw [← hwq] at HOZ hHeld
              rw [← hwq]
              clear hwq
              refine oneA 0 74 hsel (h := ?_)
              simp only [Act.put, List.setIfInBounds_toArray, List.set_cons_zero, List.set_cons_succ]
              refine oneA 1 75 hsel (h := ?_)
              simp only [Act.put, List.setIfInBounds_toArray, List.set_cons_zero, List.set_cons_succ]
              refine oneA 2 76 hsel (h := ?_)
              simp only [Act.put, List.setIfInBounds_toArray, List.set_cons_zero, List.set_cons_succ]
              refine oneA 3 77 hsel (h := ?_)
              simp only [Act.put, List.setIfInBounds_toArray, List.set_cons_zero, List.set_cons_succ]
              refine oneA 4 78 hsel (h := ?_)
              simp only [Act.put, List.setIfInBounds_toArray, List.set_cons_zero, List.set_cons_succ]
              refine oneA 5 79 hsel (h := ?_)
              simp only [Act.put, List.setIfInBounds_toArray, List.set_cons_zero, List.set_cons_succ]
              refine oneA 6 80 hsel (h := ?_)
              simp only [Act.put, List.setIfInBounds_toArray, List.set_cons_zero, List.set_cons_succ]
              refine oneA 7 81 hsel (h := ?_)
              simp only [Act.put, List.setIfInBounds_toArray, List.set_cons_zero, List.set_cons_succ]
              refine oneA 8 82 hsel (h := ?_)
              simp only [Act.put, List.setIfInBounds_toArray, List.set_cons_zero, List.set_cons_succ]
              refine oneA 9 83 hsel (h := ?_)
              simp only [Act.put, List.setIfInBounds_toArray, List.set_cons_zero, List.set_cons_succ]
              refine oneA 10 84 hsel (h := ?_)
              simp only [Act.put, List.setIfInBounds_toArray, List.set_cons_zero, List.set_cons_succ]
              refine oneA 11 85 hsel (h := ?_)
              simp only [Act.put, List.setIfInBounds_toArray, List.set_cons_zero, List.set_cons_succ]
              refine oneA 12 86 hsel (h := ?_)
              simp only [Act.put, List.setIfInBounds_toArray, List.set_cons_zero, List.set_cons_succ]
              refine wpAnyL_ready (rs := [13]) (by kernel_rfl) (by kernel_rfl) (by simp) ?_
              refine AllReadyL.cons (o := ?_) ?_ (fun K hK => ?_) AllReadyL.nil
              case refine_2 => (simp only [List.getElem?_cons_succ, List.getElem?_cons_zero]; rfl)
              go_simp
              (go_at_call 86; (with_reducible refine (HV.out _).mono ?_); rintro ee w5 ⟨rfl, rfl⟩)
              go_wp2_with (fail)
              clear hHeld
              refine hK.out _ _ (KP.out _ HOZ.out) (fun hHeld => ?_)
              clear hK K
              try simp only [List.set_cons_zero, List.set_cons_succ]
              refine oneA 14 88 hsel (h := ?_)
              simp only [Act.put, List.setIfInBounds_toArray, List.set_cons_zero, List.set_cons_succ]
              refine oneA 15 89 hsel (h := ?_)
              simp only [Act.put, List.setIfInBounds_toArray, List.set_cons_zero, List.set_cons_succ]
              refine oneA 16 90 hsel (h := ?_)
              simp only [Act.put, List.setIfInBounds_toArray, List.set_cons_zero, List.set_cons_succ]
              refine oneA 17 91 hsel (h := ?_)
              simp only [Act.put, List.setIfInBounds_toArray, List.set_cons_zero, List.set_cons_succ]
              refine oneA 18 92 hsel (h := ?_)
              simp only [Act.put, List.setIfInBounds_toArray, List.set_cons_zero, List.set_cons_succ]
              refine oneA 19 93 hsel (h := ?_)
              simp only [Act.put, List.setIfInBounds_toArray, List.set_cons_zero, List.set_cons_succ]
              refine oneA 20 94 hsel (h := ?_)
              simp only [Act.put, List.setIfInBounds_toArray, List.set_cons_zero, List.set_cons_succ]
              refine oneA 21 95 hsel (h := ?_)
              simp only [Act.put, List.setIfInBounds_toArray, List.set_cons_zero, List.set_cons_succ]
              refine oneA 22 96 hsel (h := ?_)
              simp only [Act.put, List.setIfInBounds_toArray, List.set_cons_zero, List.set_cons_succ]
              refine oneA 23 97 hsel (h := ?_)
              simp only [Act.put, List.setIfInBounds_toArray, List.set_cons_zero, List.set_cons_succ]
              refine oneA 24 98 hsel (h := ?_)
              simp only [Act.put, List.setIfInBounds_toArray, List.set_cons_zero, List.set_cons_succ]
              refine wpAnyL_done (by kernel_rfl) (by kernel_rfl) ?_ _
              clear hsel hHeld
              go_wp2_with (fail)
              replace HOZ := Lib.hid HOZ.out.drew
              refine wp_region_list (B := [false, false, false, false, false, false, false, false, false, false, false, false, false, false, false]) (S := (fun W => W.cell? ⟨wr.heap.size, 0, none⟩ = some (.slice P t p) ∧ W.cell? ⟨wr.heap.size, 1, none⟩ = some (.int .i64 r))) (by kernel_rfl) (by kernel_rfl) (by kernel_rfl) (KP.out _ HOZ.out) (fun hsel hHeld => ?_)
              obtain ⟨wv, hwv⟩ : ∃ wv, wv = wq.drew := ⟨_, rfl⟩
              rw [← hwv] at HOZ hHeld
              rw [← hwv]
              clear hwv
              refine oneA 0 99 hsel (h := ?_)
              simp only [Act.put, List.setIfInBounds_toArray, List.set_cons_zero, List.set_cons_succ]
              refine oneA 1 100 hsel (h := ?_)
              simp only [Act.put, List.setIfInBounds_toArray, List.set_cons_zero, List.set_cons_succ]
              refine oneA 2 101 hsel (h := ?_)
              simp only [Act.put, List.setIfInBounds_toArray, List.set_cons_zero, List.set_cons_succ]
              refine take_skipL (i := 3) (d := 102) (oi := ?_) ?_ hsel (by kernel_rfl) (by kernel_rfl) (fun _ _ _ h => h) ?_ ?_ (by assumption) ?_
              case refine_2 => (simp only [List.getElem?_cons_succ, List.getElem?_cons_zero]; rfl)
              case refine_3 => rfl
              case refine_4 => rfl
              simp only [Act.put, List.setIfInBounds_toArray, List.set_cons_zero, List.set_cons_succ]
              refine take_skipL (i := 4) (d := 103) (oi := ?_) ?_ hsel (by kernel_rfl) (by kernel_rfl) (fun _ _ _ h => h) ?_ ?_ (by assumption) ?_
              case refine_2 => (simp only [List.getElem?_cons_succ, List.getElem?_cons_zero]; rfl)
              case refine_3 => rfl
              case refine_4 => rfl
              simp only [Act.put, List.setIfInBounds_toArray, List.set_cons_zero, List.set_cons_succ]
              refine take_skipL (i := 5) (d := 104) (oi := ?_) ?_ hsel (by kernel_rfl) (by kernel_rfl) (fun _ _ _ h => h) ?_ ?_ (by assumption) ?_
              case refine_2 => (simp only [List.getElem?_cons_succ, List.getElem?_cons_zero]; rfl)
              case refine_3 => rfl
              case refine_4 => rfl
              simp only [Act.put, List.setIfInBounds_toArray, List.set_cons_zero, List.set_cons_succ]
              refine take_skipL (i := 6) (d := 105) (oi := ?_) ?_ hsel (by kernel_rfl) (by kernel_rfl) (fun _ _ _ h => h) ?_ ?_ (by assumption) ?_
              case refine_2 => (simp only [List.getElem?_cons_succ, List.getElem?_cons_zero]; rfl)
              case refine_3 => rfl
              case refine_4 => rfl
              simp only [Act.put, List.setIfInBounds_toArray, List.set_cons_zero, List.set_cons_succ]
              refine take_skipL (i := 7) (d := 106) (oi := ?_) ?_ hsel (by kernel_rfl) (by kernel_rfl) (fun _ _ _ h => h) ?_ ?_ (by assumption) ?_
              case refine_2 => (simp only [List.getElem?_cons_succ, List.getElem?_cons_zero]; rfl)
              case refine_3 => rfl
              case refine_4 => rfl
              simp only [Act.put, List.setIfInBounds_toArray, List.set_cons_zero, List.set_cons_succ]
              refine take_skipL (i := 8) (d := 107) (oi := ?_) ?_ hsel (by kernel_rfl) (by kernel_rfl) (fun _ _ _ h => h) ?_ ?_ (by assumption) ?_
              case refine_2 => (simp only [List.getElem?_cons_succ, List.getElem?_cons_zero]; rfl)
              case refine_3 => rfl
              case refine_4 => rfl
              simp only [Act.put, List.setIfInBounds_toArray, List.set_cons_zero, List.set_cons_succ]
              refine take_skipL (i := 9) (d := 108) (oi := ?_) ?_ hsel (by kernel_rfl) (by kernel_rfl) (fun _ _ _ h => h) ?_ ?_ (by assumption) ?_
              case refine_2 => (simp only [List.getElem?_cons_succ, List.getElem?_cons_zero]; rfl)
              case refine_3 => rfl
              case refine_4 => rfl
              simp only [Act.put, List.setIfInBounds_toArray, List.set_cons_zero, List.set_cons_succ]
              refine take_skipL (i := 10) (d := 109) (oi := ?_) ?_ hsel (by kernel_rfl) (by kernel_rfl) (fun _ _ _ h => h) ?_ ?_ (by assumption) ?_
              case refine_2 => (simp only [List.getElem?_cons_succ, List.getElem?_cons_zero]; rfl)
              case refine_3 => rfl
              case refine_4 => rfl
              simp only [Act.put, List.setIfInBounds_toArray, List.set_cons_zero, List.set_cons_succ]
              refine take_skipL (i := 11) (d := 110) (oi := ?_) ?_ hsel (by kernel_rfl) (by kernel_rfl) (fun _ _ _ h => h) ?_ ?_ (by assumption) ?_
              case refine_2 => (simp only [List.getElem?_cons_succ, List.getElem?_cons_zero]; rfl)
              case refine_3 => rfl
              case refine_4 => rfl
              simp only [Act.put, List.setIfInBounds_toArray, List.set_cons_zero, List.set_cons_succ]
              refine take_skipL (i := 12) (d := 111) (oi := ?_) ?_ hsel (by kernel_rfl) (by kernel_rfl) (fun _ _ _ h => h) ?_ ?_ (by assumption) ?_
              case refine_2 => (simp only [List.getElem?_cons_succ, List.getElem?_cons_zero]; rfl)
              case refine_3 => rfl
              case refine_4 => rfl
              simp only [Act.put, List.setIfInBounds_toArray, List.set_cons_zero, List.set_cons_succ]
              refine take_skipL (i := 13) (d := 112) (oi := ?_) ?_ hsel (by kernel_rfl) (by kernel_rfl) (fun _ _ _ h => h) ?_ ?_ (by assumption) ?_
              case refine_2 => (simp only [List.getElem?_cons_succ, List.getElem?_cons_zero]; rfl)
              case refine_3 => rfl
              case refine_4 => rfl
              simp only [Act.put, List.setIfInBounds_toArray, List.set_cons_zero, List.set_cons_succ]
              refine oneA 14 113 hsel (h := ?_)
              simp only [Act.put, List.setIfInBounds_toArray, List.set_cons_zero, List.set_cons_succ]
              refine wpAnyL_done (by kernel_rfl) (by kernel_rfl) ?_ _
              clear hsel hHeld
              go_wp2
              go_roundw
              case rel => exact ⟨k + 1, by omega, by go_num, HKN, Lib.hid (on_new HWP.out HOZ.out)⟩
              case measure => simp [intOf]; omega
      · obtain rfl : k = m := by omega
        have HFN : Hid ((n : Int) = 0 → 0 < (k : Int) → RightN g x) := Lib.hid fun h0 h1 => by
          have hl : x.leaf = false := HFX.out.symm
          have hk2 : ∀ (j : Nat) y, x.kds[j]? = some y → KidR g j y := fun j y hj => HK.out.1 j y (by rw [HML.out]; exact (List.getElem?_eq_some_iff.1 hj).1) hj
          refine ⟨by unfold gen; rw [decide_eq_true_eq]; exact HG.out, ?_, ?_, ?_, (HFB.out (eok_kids hl hk2)).symm⟩
          · unfold PureR
            rw [if_neg (by rw [hl]; decide)]
            refine ⟨List.eq_nil_of_length_eq_zero (by rw [← HNL.out]; omega), fun e => ?_⟩
            have h2 := HML.out
            rw [e] at h2
            simp only [List.length_nil] at h2
            omega
          · unfold EachR
            rw [if_neg (by rw [hl]; decide)]
            exact hk2
          · unfold RisesR
            rw [if_neg (by rw [hl]; decide)]
            exact fun j y z hy hz => HK.out.2 j y z (by rw [HML.out]; exact (List.getElem?_eq_some_iff.1 hz).1) hy hz
        have hkk : ¬ (k : Int) < (k : Int) := by omega
        by_cases hk1 : (0 : Int) < (k : Int)
        · by_cases hn0 : (n : Int) = 0
          · obtain rfl : n = 0 := by omega
            go_wp2
            go_ret
            exact ⟨true, rfl, ⟨fun _ => HFN.out hn0 hk1, fun _ => rfl⟩, HOL.out⟩
          · have hn0i : ((n : Int) == 0) = false := by rw [beq_eq_false_iff_ne]; exact hn0
            go_wp2
            go_ret
            exact ⟨false, rfl, ⟨fun h => (by cases h), fun hR => (by have h1 := HRR.out hR; have h2 := HNL.out; have h3 := HML.out; rw [h1.2.2.1] at h2; have h4 := List.length_pos_iff.2 h1.2.2.2.1; simp only [List.length_nil] at h2; omega)⟩, HOL.out⟩
        · go_wp2
          go_ret
          exact ⟨false, rfl, ⟨fun h => (by cases h), fun hR => (by have h1 := HRR.out hR; have h2 := HNL.out; have h3 := HML.out; rw [h1.2.2.1] at h2; have h4 := List.length_pos_iff.2 h1.2.2.2.1; simp only [List.length_nil] at h2; omega)⟩, HOL.out⟩
  · have HRR : Hid (RightN g x → (∀ (k : Nat) y, x.its[k]? = some y → ItR g y) ∧ (∀ (k : Nat) y z, x.its[k]? = some y → x.its[k + 1]? = some z → cmp y.1 z.1 < 0) ∧ x.kds = [] ∧ nfit g x = true) := Lib.hid fun hR => by
      have h := hR.parts
      have h2 := h.2.1 HFX.out.symm
      exact ⟨h2.2.1, h2.2.2, h2.1, h.1⟩
    go_enter Tryz.func57, Tryz.ntmps57
    go_upto_region 1 with (fail)
    rw [← hW0]
    clear hW0
    go_wp2_with (go_at_call 84; (with_reducible refine (HF.out _ HO.out).mono ?_); rintro ee w1 ⟨b, rfl, hb, ho⟩; have HFB := Lib.hid hb; clear hb i0 i1 i2; (replace HI := Lib.hid (HI.out.later ho)); (replace HO := Lib.hid (on_new HO.out ho)); clear ho; (obtain ⟨i0, i1, i2⟩ := HI.out.tri); cases b)
    · go_ret
      exact ⟨false, rfl, ⟨fun h => (by cases h), fun hR => absurd hR (by intro hR; have h1 := HRR.out hR; have h2 := HFB.out (eok_leaf HFX.out.symm h1.1); rw [h1.2.2.2] at h2; cases h2)⟩, HO.out⟩
    clear g1 g3
    have HW1 : Hid (Only (w1.heap.size ≤ ·) w1 w1) := Lib.hid (Only.refl _ w1)
    clear i0 i1 i2
    go_loopw [5] (fun i wr => ∃ (k : Nat), k ≤ n ∧ i = .int .i64 k ∧ Hid (LInv g x k) ∧ Hid (Only (w1.heap.size ≤ ·) w1 wr)) (fun i _ => n - (intOf i).toNat)
    case atStart => exact ⟨0, Nat.zero_le _, rfl, Lib.hid ⟨fun j y hj => by omega, fun j y z hj => by omega⟩, HW1⟩
    case round =>
      obtain ⟨k, hk, rfl, HK, HWL⟩ := hrel
      have HOL := Lib.hid (on_new HO.out HWL.out)
      obtain ⟨i0, i1, i2⟩ := (HI.out.later HWL.out).tri
      by_cases hlt : k < n
      · have HNR := Lib.hid (HN.out.later HOL.out)
        obtain ⟨bb, off, y, P, Q, p, q0, rfl, hb, hy, c0, c1, c2, c3, s1, _⟩ := its_at HNR.out.2.1 hlt
        obtain ⟨xs, ys, s, r⟩ := y
        simp only at c0 c1 c2 c3 s1
        have HY := Lib.hid hy
        have HS1 := Lib.hid s1
        have j1 : (0 : Int) ≤ (k : Int) := by omega
        have j2 : (k : Int) < (n : Int) := by omega
        have KN : Hid (∀ W, Only (wr.heap.size ≤ ·) wr W → W.cell? ⟨w.heap.size, 0, none⟩ = some (.bool true) ∧ W.cell? ⟨w.heap.size, 1, none⟩ = some (.slice (some ⟨bb, off, none⟩) n c) ∧ W.cell? ⟨w.heap.size, 2, none⟩ = some (.slice B m d) ∧ W.cell? ⟨bb, off + k * 4, none⟩ = some (.slice P xs.length p) ∧ W.cell? ⟨bb, off + k * 4 + 1, none⟩ = some (.slice Q ys.length q0) ∧ W.cell? ⟨bb, off + k * 4 + 2, none⟩ = some (.int .i64 s) ∧ W.cell? ⟨bb, off + k * 4 + 3, none⟩ = some (.int .i64 r)) := Lib.hid fun W hW => ⟨((HI.out.later HWL.out).later hW).tri.1, ((HI.out.later HWL.out).later hW).tri.2.1, ((HI.out.later HWL.out).later hW).tri.2.2, (hW.cell (p := ⟨bb, off + k * 4, none⟩) (Nat.not_le.2 hb)).trans c0, (hW.cell (p := ⟨bb, off + k * 4 + 1, none⟩) (Nat.not_le.2 hb)).trans c1, (hW.cell (p := ⟨bb, off + k * 4 + 2, none⟩) (Nat.not_le.2 hb)).trans c2, (hW.cell (p := ⟨bb, off + k * 4 + 3, none⟩) (Nat.not_le.2 hb)).trans c3⟩
        have KP := KN
        have HOZ : Hid (Only (wr.heap.size ≤ ·) wr wr.drew) := Lib.hid (Only.refl _ wr).drew
        obtain ⟨ok, hok⟩ : ∃ b, okay g xs.length ys.length s r = b := ⟨_, rfl⟩
        have HOK := Lib.hid hok
        clear hy hok hb s1 c0 c1 c2 c3
        go_wp2_with (fail)
        clear i0 i1 i2
        cases ok
        · skip
          refine wp_region_list (B := [false, false, false, false, false, false, false, false, false, false, false, false, false, false, false, false, false, false, false, false, false, false, false, false, false, false, false, false, false]) (S := (fun W => W.cell? ⟨w.heap.size, 0, none⟩ = some (.bool true) ∧ W.cell? ⟨w.heap.size, 1, none⟩ = some (.slice (some ⟨bb, off, none⟩) n c) ∧ W.cell? ⟨w.heap.size, 2, none⟩ = some (.slice B m d) ∧ W.cell? ⟨bb, off + k * 4, none⟩ = some (.slice P xs.length p) ∧ W.cell? ⟨bb, off + k * 4 + 1, none⟩ = some (.slice Q ys.length q0) ∧ W.cell? ⟨bb, off + k * 4 + 2, none⟩ = some (.int .i64 s) ∧ W.cell? ⟨bb, off + k * 4 + 3, none⟩ = some (.int .i64 r))) (by kernel_rfl) (by kernel_rfl) (by kernel_rfl) (KP.out _ HOZ.out) (fun hsel hHeld => ?_)
          obtain ⟨wq, hwq⟩ : ∃ wq, wq = wr.drew := ⟨_, rfl⟩
          rw [← hwq] at HOZ hHeld
          rw [← hwq]
          clear hwq
          refine oneA 0 29 hsel (h := ?_)
          simp only [Act.put, List.setIfInBounds_toArray, List.set_cons_zero, List.set_cons_succ]
          refine oneA 1 30 hsel (h := ?_)
          simp only [Act.put, List.setIfInBounds_toArray, List.set_cons_zero, List.set_cons_succ]
          refine oneA 2 31 hsel (h := ?_)
          simp only [Act.put, List.setIfInBounds_toArray, List.set_cons_zero, List.set_cons_succ]
          refine oneA 3 32 hsel (h := ?_)
          simp only [Act.put, List.setIfInBounds_toArray, List.set_cons_zero, List.set_cons_succ]
          refine oneA 4 33 hsel (h := ?_)
          simp only [Act.put, List.setIfInBounds_toArray, List.set_cons_zero, List.set_cons_succ]
          refine oneA 5 34 hsel (h := ?_)
          simp only [Act.put, List.setIfInBounds_toArray, List.set_cons_zero, List.set_cons_succ]
          refine wpAnyL_ready (rs := [6]) (by kernel_rfl) (by kernel_rfl) (by simp) ?_
          refine AllReadyL.cons (o := ?_) ?_ (fun K hK => ?_) AllReadyL.nil
          case refine_2 => (simp only [List.getElem?_cons_succ, List.getElem?_cons_zero]; rfl)
          go_simp
          (go_at_call 85; (with_reducible refine (rRight_c _ _ _ _ _ _ _ _ _ _ false HOK.out).mono ?_); rintro ee w5 ⟨rfl, ho⟩; (replace HOZ := Lib.hid (on_new HOZ.out ho)); clear ho)
          go_wp2_with (fail)
          clear hHeld
          refine hK.out _ _ (KP.out _ HOZ.out) (fun hHeld => ?_)
          clear hK K
          try simp only [List.set_cons_zero, List.set_cons_succ]
          refine oneA 7 36 hsel (h := ?_)
          simp only [Act.put, List.setIfInBounds_toArray, List.set_cons_zero, List.set_cons_succ]
          refine oneA 8 37 hsel (h := ?_)
          simp only [Act.put, List.setIfInBounds_toArray, List.set_cons_zero, List.set_cons_succ]
          refine take_skipL (i := 9) (d := 38) (oi := ?_) ?_ hsel (by kernel_rfl) (by kernel_rfl) (fun _ _ _ h => h) ?_ ?_ (by assumption) ?_
          case refine_2 => (simp only [List.getElem?_cons_succ, List.getElem?_cons_zero]; rfl)
          case refine_3 => rfl
          case refine_4 => rfl
          simp only [Act.put, List.setIfInBounds_toArray, List.set_cons_zero, List.set_cons_succ]
          refine take_skipL (i := 10) (d := 39) (oi := ?_) ?_ hsel (by kernel_rfl) (by kernel_rfl) (fun _ _ _ h => h) ?_ ?_ (by assumption) ?_
          case refine_2 => (simp only [List.getElem?_cons_succ, List.getElem?_cons_zero]; rfl)
          case refine_3 => rfl
          case refine_4 => rfl
          simp only [Act.put, List.setIfInBounds_toArray, List.set_cons_zero, List.set_cons_succ]
          refine take_skipL (i := 11) (d := 40) (oi := ?_) ?_ hsel (by kernel_rfl) (by kernel_rfl) (fun _ _ _ h => h) ?_ ?_ (by assumption) ?_
          case refine_2 => (simp only [List.getElem?_cons_succ, List.getElem?_cons_zero]; rfl)
          case refine_3 => rfl
          case refine_4 => rfl
          simp only [Act.put, List.setIfInBounds_toArray, List.set_cons_zero, List.set_cons_succ]
          refine take_skipL (i := 12) (d := 41) (oi := ?_) ?_ hsel (by kernel_rfl) (by kernel_rfl) (fun _ _ _ h => h) ?_ ?_ (by assumption) ?_
          case refine_2 => (simp only [List.getElem?_cons_succ, List.getElem?_cons_zero]; rfl)
          case refine_3 => rfl
          case refine_4 => rfl
          simp only [Act.put, List.setIfInBounds_toArray, List.set_cons_zero, List.set_cons_succ]
          refine take_skipL (i := 13) (d := 42) (oi := ?_) ?_ hsel (by kernel_rfl) (by kernel_rfl) (fun _ _ _ h => h) ?_ ?_ (by assumption) ?_
          case refine_2 => (simp only [List.getElem?_cons_succ, List.getElem?_cons_zero]; rfl)
          case refine_3 => rfl
          case refine_4 => rfl
          simp only [Act.put, List.setIfInBounds_toArray, List.set_cons_zero, List.set_cons_succ]
          refine take_skipL (i := 14) (d := 43) (oi := ?_) ?_ hsel (by kernel_rfl) (by kernel_rfl) (fun _ _ _ h => h) ?_ ?_ (by assumption) ?_
          case refine_2 => (simp only [List.getElem?_cons_succ, List.getElem?_cons_zero]; rfl)
          case refine_3 => rfl
          case refine_4 => rfl
          simp only [Act.put, List.setIfInBounds_toArray, List.set_cons_zero, List.set_cons_succ]
          refine take_skipL (i := 15) (d := 44) (oi := ?_) ?_ hsel (by kernel_rfl) (by kernel_rfl) (fun _ _ _ h => h) ?_ ?_ (by assumption) ?_
          case refine_2 => (simp only [List.getElem?_cons_succ, List.getElem?_cons_zero]; rfl)
          case refine_3 => rfl
          case refine_4 => rfl
          simp only [Act.put, List.setIfInBounds_toArray, List.set_cons_zero, List.set_cons_succ]
          refine take_skipL (i := 16) (d := 45) (oi := ?_) ?_ hsel (by kernel_rfl) (by kernel_rfl) (fun _ _ _ h => h) ?_ ?_ (by assumption) ?_
          case refine_2 => (simp only [List.getElem?_cons_succ, List.getElem?_cons_zero]; rfl)
          case refine_3 => rfl
          case refine_4 => rfl
          simp only [Act.put, List.setIfInBounds_toArray, List.set_cons_zero, List.set_cons_succ]
          refine take_skipL (i := 17) (d := 46) (oi := ?_) ?_ hsel (by kernel_rfl) (by kernel_rfl) (fun _ _ _ h => h) ?_ ?_ (by assumption) ?_
          case refine_2 => (simp only [List.getElem?_cons_succ, List.getElem?_cons_zero]; rfl)
          case refine_3 => rfl
          case refine_4 => rfl
          simp only [Act.put, List.setIfInBounds_toArray, List.set_cons_zero, List.set_cons_succ]
          refine take_skipL (i := 18) (d := 47) (oi := ?_) ?_ hsel (by kernel_rfl) (by kernel_rfl) (fun _ _ _ h => h) ?_ ?_ (by assumption) ?_
          case refine_2 => (simp only [List.getElem?_cons_succ, List.getElem?_cons_zero]; rfl)
          case refine_3 => rfl
          case refine_4 => rfl
          simp only [Act.put, List.setIfInBounds_toArray, List.set_cons_zero, List.set_cons_succ]
          refine take_skipL (i := 19) (d := 48) (oi := ?_) ?_ hsel (by kernel_rfl) (by kernel_rfl) (fun _ _ _ h => h) ?_ ?_ (by assumption) ?_
          case refine_2 => (simp only [List.getElem?_cons_succ, List.getElem?_cons_zero]; rfl)
          case refine_3 => rfl
          case refine_4 => rfl
          simp only [Act.put, List.setIfInBounds_toArray, List.set_cons_zero, List.set_cons_succ]
          refine take_skipL (i := 20) (d := 49) (oi := ?_) ?_ hsel (by kernel_rfl) (by kernel_rfl) (fun _ _ _ h => h) ?_ ?_ (by assumption) ?_
          case refine_2 => (simp only [List.getElem?_cons_succ, List.getElem?_cons_zero]; rfl)
          case refine_3 => rfl
          case refine_4 => rfl
          simp only [Act.put, List.setIfInBounds_toArray, List.set_cons_zero, List.set_cons_succ]
          refine take_skipL (i := 21) (d := 50) (oi := ?_) ?_ hsel (by kernel_rfl) (by kernel_rfl) (fun _ _ _ h => h) ?_ ?_ (by assumption) ?_
          case refine_2 => (simp only [List.getElem?_cons_succ, List.getElem?_cons_zero]; rfl)
          case refine_3 => rfl
          case refine_4 => rfl
          simp only [Act.put, List.setIfInBounds_toArray, List.set_cons_zero, List.set_cons_succ]
          refine take_skipL (i := 22) (d := 51) (oi := ?_) ?_ hsel (by kernel_rfl) (by kernel_rfl) (fun _ _ _ h => h) ?_ ?_ (by assumption) ?_
          case refine_2 => (simp only [List.getElem?_cons_succ, List.getElem?_cons_zero]; rfl)
          case refine_3 => rfl
          case refine_4 => rfl
          simp only [Act.put, List.setIfInBounds_toArray, List.set_cons_zero, List.set_cons_succ]
          refine take_skipL (i := 23) (d := 52) (oi := ?_) ?_ hsel (by kernel_rfl) (by kernel_rfl) (fun _ _ _ h => h) ?_ ?_ (by assumption) ?_
          case refine_2 => (simp only [List.getElem?_cons_succ, List.getElem?_cons_zero]; rfl)
          case refine_3 => rfl
          case refine_4 => rfl
          simp only [Act.put, List.setIfInBounds_toArray, List.set_cons_zero, List.set_cons_succ]
          refine take_skipL (i := 24) (d := 53) (oi := ?_) ?_ hsel (by kernel_rfl) (by kernel_rfl) (fun _ _ _ h => h) ?_ ?_ (by assumption) ?_
          case refine_2 => (simp only [List.getElem?_cons_succ, List.getElem?_cons_zero]; rfl)
          case refine_3 => rfl
          case refine_4 => rfl
          simp only [Act.put, List.setIfInBounds_toArray, List.set_cons_zero, List.set_cons_succ]
          refine take_skipL (i := 25) (d := 54) (oi := ?_) ?_ hsel (by kernel_rfl) (by kernel_rfl) (fun _ _ _ h => h) ?_ ?_ (by assumption) ?_
          case refine_2 => (simp only [List.getElem?_cons_succ, List.getElem?_cons_zero]; rfl)
          case refine_3 => rfl
          case refine_4 => rfl
          simp only [Act.put, List.setIfInBounds_toArray, List.set_cons_zero, List.set_cons_succ]
          refine take_skipL (i := 26) (d := 55) (oi := ?_) ?_ hsel (by kernel_rfl) (by kernel_rfl) (fun _ _ _ h => h) ?_ ?_ (by assumption) ?_
          case refine_2 => (simp only [List.getElem?_cons_succ, List.getElem?_cons_zero]; rfl)
          case refine_3 => rfl
          case refine_4 => rfl
          simp only [Act.put, List.setIfInBounds_toArray, List.set_cons_zero, List.set_cons_succ]
          refine take_skipL (i := 27) (d := 56) (oi := ?_) ?_ hsel (by kernel_rfl) (by kernel_rfl) (fun _ _ _ h => h) ?_ ?_ (by assumption) ?_
          case refine_2 => (simp only [List.getElem?_cons_succ, List.getElem?_cons_zero]; rfl)
          case refine_3 => rfl
          case refine_4 => rfl
          simp only [Act.put, List.setIfInBounds_toArray, List.set_cons_zero, List.set_cons_succ]
          refine oneA 28 57 hsel (h := ?_)
          simp only [Act.put, List.setIfInBounds_toArray, List.set_cons_zero, List.set_cons_succ]
          refine wpAnyL_done (by kernel_rfl) (by kernel_rfl) ?_ _
          clear hsel hHeld
          go_wp2
          go_ret
          exact ⟨false, rfl, ⟨fun h => (by cases h), fun hR => absurd hR (by intro hR; have h1 := (HRR.out hR).1 k _ HY.out; unfold ItR at h1; simp only at h1; rw [HOK.out] at h1; cases h1)⟩, on_new HOL.out HOZ.out⟩
        by_cases hk0 : 0 < k
        · have hk0i : (0 : Int) < (k : Int) := by omega
          obtain ⟨bb', off', y0, P0, Q0, p0, q00, e0, hb0, hy0, c0, _, _, _, s0, _⟩ := its_at (HNR.out.2.1) (k := k - 1) (by omega)
          cases e0
          have HS0 := Lib.hid s0
          have HY0 := Lib.hid hy0
          have hw1 : IntKind.i64.wrap ((k : Int) - 1) = ((k - 1 : Nat) : Int) := by rw [IntWalk.i64_in _ (by omega)]; omega
          have j3 : (0 : Int) ≤ ((k - 1 : Nat) : Int) := by omega
          have j4 : ((k - 1 : Nat) : Int) < (n : Int) := by omega
          have KP : Hid (∀ W, Only (wr.heap.size ≤ ·) wr W → W.cell? ⟨w.heap.size, 0, none⟩ = some (.bool true) ∧ W.cell? ⟨w.heap.size, 1, none⟩ = some (.slice (some ⟨bb, off, none⟩) n c) ∧ W.cell? ⟨w.heap.size, 2, none⟩ = some (.slice B m d) ∧ W.cell? ⟨bb, off + k * 4, none⟩ = some (.slice P xs.length p) ∧ W.cell? ⟨bb, off + k * 4 + 1, none⟩ = some (.slice Q ys.length q0) ∧ W.cell? ⟨bb, off + k * 4 + 2, none⟩ = some (.int .i64 s) ∧ W.cell? ⟨bb, off + k * 4 + 3, none⟩ = some (.int .i64 r) ∧ W.cell? ⟨bb, off + (k - 1) * 4, none⟩ = some (.slice P0 y0.1.length p0)) := Lib.hid fun W hW => ⟨(KN.out W hW).1, (KN.out W hW).2.1, (KN.out W hW).2.2.1, (KN.out W hW).2.2.2.1, (KN.out W hW).2.2.2.2.1, (KN.out W hW).2.2.2.2.2.1, (KN.out W hW).2.2.2.2.2.2, (hW.cell (p := ⟨bb, off + (k - 1) * 4, none⟩) (Nat.not_le.2 hb0)).trans c0⟩
          clear s0 hb0 c0 hy0
          obtain ⟨q, hq⟩ : ∃ q, cmp y0.1 xs = q := ⟨_, rfl⟩
          have HQ := Lib.hid hq
          clear hq
          by_cases hq1 : q = -1
          · subst hq1
            have HKN := Lib.hid (HK.out.next HY.out (show ItR g _ from HOK.out) (fun j z hj hz => by
              have e : j = k - 1 := by omega
              subst e
              rw [HY0.out] at hz
              cases hz
              have := HQ.out
              simp only
              omega))
            refine wp_region_list (B := [false, false, false, false, false, false, false, false, false, false, false, false, false, false, false, false, false, false, false, false, false, false, false, false, false, false, false, false, false]) (S := (fun W => W.cell? ⟨w.heap.size, 0, none⟩ = some (.bool true) ∧ W.cell? ⟨w.heap.size, 1, none⟩ = some (.slice (some ⟨bb, off, none⟩) n c) ∧ W.cell? ⟨w.heap.size, 2, none⟩ = some (.slice B m d) ∧ W.cell? ⟨bb, off + k * 4, none⟩ = some (.slice P xs.length p) ∧ W.cell? ⟨bb, off + k * 4 + 1, none⟩ = some (.slice Q ys.length q0) ∧ W.cell? ⟨bb, off + k * 4 + 2, none⟩ = some (.int .i64 s) ∧ W.cell? ⟨bb, off + k * 4 + 3, none⟩ = some (.int .i64 r) ∧ W.cell? ⟨bb, off + (k - 1) * 4, none⟩ = some (.slice P0 y0.1.length p0))) (by kernel_rfl) (by kernel_rfl) (by kernel_rfl) (KP.out _ HOZ.out) (fun hsel hHeld => ?_)
            obtain ⟨wq, hwq⟩ : ∃ wq, wq = wr.drew := ⟨_, rfl⟩
            rw [← hwq] at HOZ hHeld
            rw [← hwq]
            clear hwq
            refine oneA 0 29 hsel (h := ?_)
            simp only [Act.put, List.setIfInBounds_toArray, List.set_cons_zero, List.set_cons_succ]
            refine oneA 1 30 hsel (h := ?_)
            simp only [Act.put, List.setIfInBounds_toArray, List.set_cons_zero, List.set_cons_succ]
            refine oneA 2 31 hsel (h := ?_)
            simp only [Act.put, List.setIfInBounds_toArray, List.set_cons_zero, List.set_cons_succ]
            refine oneA 3 32 hsel (h := ?_)
            simp only [Act.put, List.setIfInBounds_toArray, List.set_cons_zero, List.set_cons_succ]
            refine oneA 4 33 hsel (h := ?_)
            simp only [Act.put, List.setIfInBounds_toArray, List.set_cons_zero, List.set_cons_succ]
            refine oneA 5 34 hsel (h := ?_)
            simp only [Act.put, List.setIfInBounds_toArray, List.set_cons_zero, List.set_cons_succ]
            refine wpAnyL_ready (rs := [6]) (by kernel_rfl) (by kernel_rfl) (by simp) ?_
            refine AllReadyL.cons (o := ?_) ?_ (fun K hK => ?_) AllReadyL.nil
            case refine_2 => (simp only [List.getElem?_cons_succ, List.getElem?_cons_zero]; rfl)
            go_simp
            (go_at_call 85; (with_reducible refine (rRight_c _ _ _ _ _ _ _ _ _ _ true HOK.out).mono ?_); rintro ee w5 ⟨rfl, ho⟩; (replace HOZ := Lib.hid (on_new HOZ.out ho)); clear ho)
            go_wp2_with (fail)
            clear hHeld
            refine hK.out _ _ (KP.out _ HOZ.out) (fun hHeld => ?_)
            clear hK K
            try simp only [List.set_cons_zero, List.set_cons_succ]
            refine oneA 7 36 hsel (h := ?_)
            simp only [Act.put, List.setIfInBounds_toArray, List.set_cons_zero, List.set_cons_succ]
            refine oneA 8 37 hsel (h := ?_)
            simp only [Act.put, List.setIfInBounds_toArray, List.set_cons_zero, List.set_cons_succ]
            refine oneA 9 38 hsel (h := ?_)
            simp only [Act.put, List.setIfInBounds_toArray, List.set_cons_zero, List.set_cons_succ]
            refine oneA 10 39 hsel (h := ?_)
            simp only [Act.put, List.setIfInBounds_toArray, List.set_cons_zero, List.set_cons_succ]
            refine oneA 11 40 hsel (h := ?_)
            simp only [Act.put, List.setIfInBounds_toArray, List.set_cons_zero, List.set_cons_succ]
            refine oneA 12 41 hsel (h := ?_)
            simp only [Act.put, List.setIfInBounds_toArray, List.set_cons_zero, List.set_cons_succ]
            refine oneA 13 42 hsel (h := ?_)
            simp only [Act.put, List.setIfInBounds_toArray, List.set_cons_zero, List.set_cons_succ]
            refine oneA 14 43 hsel (h := ?_)
            simp only [Act.put, List.setIfInBounds_toArray, List.set_cons_zero, List.set_cons_succ]
            refine oneA 15 44 hsel (h := ?_)
            simp only [Act.put, List.setIfInBounds_toArray, List.set_cons_zero, List.set_cons_succ]
            refine oneA 16 45 hsel (h := ?_)
            simp only [Act.put, List.setIfInBounds_toArray, List.set_cons_zero, List.set_cons_succ]
            refine oneA 17 46 hsel (h := ?_)
            simp only [Act.put, List.setIfInBounds_toArray, List.set_cons_zero, List.set_cons_succ]
            refine oneA 18 47 hsel (h := ?_)
            simp only [Act.put, List.setIfInBounds_toArray, List.set_cons_zero, List.set_cons_succ]
            refine oneA 19 48 hsel (h := ?_)
            simp only [Act.put, List.setIfInBounds_toArray, List.set_cons_zero, List.set_cons_succ]
            refine oneA 20 49 hsel (h := ?_)
            simp only [Act.put, List.setIfInBounds_toArray, List.set_cons_zero, List.set_cons_succ]
            refine oneA 21 50 hsel (h := ?_)
            simp only [Act.put, List.setIfInBounds_toArray, List.set_cons_zero, List.set_cons_succ]
            refine oneA 22 51 hsel (h := ?_)
            simp only [Act.put, List.setIfInBounds_toArray, List.set_cons_zero, List.set_cons_succ]
            refine oneA 23 52 hsel (h := ?_)
            simp only [Act.put, List.setIfInBounds_toArray, List.set_cons_zero, List.set_cons_succ]
            refine oneA 24 53 hsel (h := ?_)
            simp only [Act.put, List.setIfInBounds_toArray, List.set_cons_zero, List.set_cons_succ]
            refine wpAnyL_ready (rs := [25]) (by kernel_rfl) (by kernel_rfl) (by simp) ?_
            refine AllReadyL.cons (o := ?_) ?_ (fun K hK => ?_) AllReadyL.nil
            case refine_2 => (simp only [List.getElem?_cons_succ, List.getElem?_cons_zero]; rfl)
            go_simp
            (go_at_call 24; (with_reducible refine (rCompare_b _ _ _ y0.1 xs (-1) (HS0.out.later HOZ.out) (HS1.out.later HOZ.out) HQ.out).mono ?_); rintro ee w6 ⟨rfl, ho⟩; (replace HOZ := Lib.hid (on_new HOZ.out ho)); clear ho)
            go_wp2_with (fail)
            clear hHeld
            refine hK.out _ _ (KP.out _ HOZ.out) (fun hHeld => ?_)
            clear hK K
            try simp only [List.set_cons_zero, List.set_cons_succ]
            refine oneA 26 55 hsel (h := ?_)
            simp only [Act.put, List.setIfInBounds_toArray, List.set_cons_zero, List.set_cons_succ]
            refine oneA 27 56 hsel (h := ?_)
            simp only [Act.put, List.setIfInBounds_toArray, List.set_cons_zero, List.set_cons_succ]
            refine oneA 28 57 hsel (h := ?_)
            simp only [Act.put, List.setIfInBounds_toArray, List.set_cons_zero, List.set_cons_succ]
            refine wpAnyL_done (by kernel_rfl) (by kernel_rfl) ?_ _
            clear hsel hHeld
            go_wp2
            go_roundw
            case rel => exact ⟨k + 1, by omega, by go_num, HKN, Lib.hid (on_new HWL.out HOZ.out)⟩
            case measure => simp [intOf]; omega
          · have hqn : (q == -1) = false := by rw [beq_eq_false_iff_ne]; exact hq1
            refine wp_region_list (B := [false, false, false, false, false, false, false, false, false, false, false, false, false, false, false, false, false, false, false, false, false, false, false, false, false, false, false, false, false]) (S := (fun W => W.cell? ⟨w.heap.size, 0, none⟩ = some (.bool true) ∧ W.cell? ⟨w.heap.size, 1, none⟩ = some (.slice (some ⟨bb, off, none⟩) n c) ∧ W.cell? ⟨w.heap.size, 2, none⟩ = some (.slice B m d) ∧ W.cell? ⟨bb, off + k * 4, none⟩ = some (.slice P xs.length p) ∧ W.cell? ⟨bb, off + k * 4 + 1, none⟩ = some (.slice Q ys.length q0) ∧ W.cell? ⟨bb, off + k * 4 + 2, none⟩ = some (.int .i64 s) ∧ W.cell? ⟨bb, off + k * 4 + 3, none⟩ = some (.int .i64 r) ∧ W.cell? ⟨bb, off + (k - 1) * 4, none⟩ = some (.slice P0 y0.1.length p0))) (by kernel_rfl) (by kernel_rfl) (by kernel_rfl) (KP.out _ HOZ.out) (fun hsel hHeld => ?_)
            obtain ⟨wq, hwq⟩ : ∃ wq, wq = wr.drew := ⟨_, rfl⟩
            rw [← hwq] at HOZ hHeld
            rw [← hwq]
            clear hwq
            refine oneA 0 29 hsel (h := ?_)
            simp only [Act.put, List.setIfInBounds_toArray, List.set_cons_zero, List.set_cons_succ]
            refine oneA 1 30 hsel (h := ?_)
            simp only [Act.put, List.setIfInBounds_toArray, List.set_cons_zero, List.set_cons_succ]
            refine oneA 2 31 hsel (h := ?_)
            simp only [Act.put, List.setIfInBounds_toArray, List.set_cons_zero, List.set_cons_succ]
            refine oneA 3 32 hsel (h := ?_)
            simp only [Act.put, List.setIfInBounds_toArray, List.set_cons_zero, List.set_cons_succ]
            refine oneA 4 33 hsel (h := ?_)
            simp only [Act.put, List.setIfInBounds_toArray, List.set_cons_zero, List.set_cons_succ]
            refine oneA 5 34 hsel (h := ?_)
            simp only [Act.put, List.setIfInBounds_toArray, List.set_cons_zero, List.set_cons_succ]
            refine wpAnyL_ready (rs := [6]) (by kernel_rfl) (by kernel_rfl) (by simp) ?_
            refine AllReadyL.cons (o := ?_) ?_ (fun K hK => ?_) AllReadyL.nil
            case refine_2 => (simp only [List.getElem?_cons_succ, List.getElem?_cons_zero]; rfl)
            go_simp
            (go_at_call 85; (with_reducible refine (rRight_c _ _ _ _ _ _ _ _ _ _ true HOK.out).mono ?_); rintro ee w5 ⟨rfl, ho⟩; (replace HOZ := Lib.hid (on_new HOZ.out ho)); clear ho)
            go_wp2_with (fail)
            clear hHeld
            refine hK.out _ _ (KP.out _ HOZ.out) (fun hHeld => ?_)
            clear hK K
            try simp only [List.set_cons_zero, List.set_cons_succ]
            refine oneA 7 36 hsel (h := ?_)
            simp only [Act.put, List.setIfInBounds_toArray, List.set_cons_zero, List.set_cons_succ]
            refine oneA 8 37 hsel (h := ?_)
            simp only [Act.put, List.setIfInBounds_toArray, List.set_cons_zero, List.set_cons_succ]
            refine oneA 9 38 hsel (h := ?_)
            simp only [Act.put, List.setIfInBounds_toArray, List.set_cons_zero, List.set_cons_succ]
            refine oneA 10 39 hsel (h := ?_)
            simp only [Act.put, List.setIfInBounds_toArray, List.set_cons_zero, List.set_cons_succ]
            refine oneA 11 40 hsel (h := ?_)
            simp only [Act.put, List.setIfInBounds_toArray, List.set_cons_zero, List.set_cons_succ]
            refine oneA 12 41 hsel (h := ?_)
            simp only [Act.put, List.setIfInBounds_toArray, List.set_cons_zero, List.set_cons_succ]
            refine oneA 13 42 hsel (h := ?_)
            simp only [Act.put, List.setIfInBounds_toArray, List.set_cons_zero, List.set_cons_succ]
            refine oneA 14 43 hsel (h := ?_)
            simp only [Act.put, List.setIfInBounds_toArray, List.set_cons_zero, List.set_cons_succ]
            refine oneA 15 44 hsel (h := ?_)
            simp only [Act.put, List.setIfInBounds_toArray, List.set_cons_zero, List.set_cons_succ]
            refine oneA 16 45 hsel (h := ?_)
            simp only [Act.put, List.setIfInBounds_toArray, List.set_cons_zero, List.set_cons_succ]
            refine oneA 17 46 hsel (h := ?_)
            simp only [Act.put, List.setIfInBounds_toArray, List.set_cons_zero, List.set_cons_succ]
            refine oneA 18 47 hsel (h := ?_)
            simp only [Act.put, List.setIfInBounds_toArray, List.set_cons_zero, List.set_cons_succ]
            refine oneA 19 48 hsel (h := ?_)
            simp only [Act.put, List.setIfInBounds_toArray, List.set_cons_zero, List.set_cons_succ]
            refine oneA 20 49 hsel (h := ?_)
            simp only [Act.put, List.setIfInBounds_toArray, List.set_cons_zero, List.set_cons_succ]
            refine oneA 21 50 hsel (h := ?_)
            simp only [Act.put, List.setIfInBounds_toArray, List.set_cons_zero, List.set_cons_succ]
            refine oneA 22 51 hsel (h := ?_)
            simp only [Act.put, List.setIfInBounds_toArray, List.set_cons_zero, List.set_cons_succ]
            refine oneA 23 52 hsel (h := ?_)
            simp only [Act.put, List.setIfInBounds_toArray, List.set_cons_zero, List.set_cons_succ]
            refine oneA 24 53 hsel (h := ?_)
            simp only [Act.put, List.setIfInBounds_toArray, List.set_cons_zero, List.set_cons_succ]
            refine wpAnyL_ready (rs := [25]) (by kernel_rfl) (by kernel_rfl) (by simp) ?_
            refine AllReadyL.cons (o := ?_) ?_ (fun K hK => ?_) AllReadyL.nil
            case refine_2 => (simp only [List.getElem?_cons_succ, List.getElem?_cons_zero]; rfl)
            go_simp
            (go_at_call 24; (with_reducible refine (rCompare_b _ _ _ y0.1 xs q (HS0.out.later HOZ.out) (HS1.out.later HOZ.out) HQ.out).mono ?_); rintro ee w6 ⟨rfl, ho⟩; (replace HOZ := Lib.hid (on_new HOZ.out ho)); clear ho)
            go_wp2_with (fail)
            clear hHeld
            refine hK.out _ _ (KP.out _ HOZ.out) (fun hHeld => ?_)
            clear hK K
            try simp only [List.set_cons_zero, List.set_cons_succ]
            refine oneA 26 55 hsel (h := ?_)
            simp only [Act.put, List.setIfInBounds_toArray, List.set_cons_zero, List.set_cons_succ]
            refine oneA 27 56 hsel (h := ?_)
            simp only [Act.put, List.setIfInBounds_toArray, List.set_cons_zero, List.set_cons_succ]
            refine oneA 28 57 hsel (h := ?_)
            simp only [Act.put, List.setIfInBounds_toArray, List.set_cons_zero, List.set_cons_succ]
            refine wpAnyL_done (by kernel_rfl) (by kernel_rfl) ?_ _
            clear hsel hHeld
            go_wp2
            go_ret
            exact ⟨false, rfl, ⟨fun h => (by cases h), fun hR => absurd hR (by intro hR; have h1 := (HRR.out hR).2.1 (k - 1) _ _ HY0.out (by rw [show k - 1 + 1 = k by omega]; exact HY.out); have h2 := HQ.out; have h3 := cmp_range y0.1 xs; simp only at h1; omega)⟩, on_new HOL.out HOZ.out⟩
        · have hk0i : ¬ (0 : Int) < (k : Int) := by omega
          have HKN := Lib.hid (HK.out.next HY.out (show ItR g _ from HOK.out) (fun j z hj hz => by omega))
          refine wp_region_list (B := [false, false, false, false, false, false, false, false, false, false, false, false, false, false, false, false, false, false, false, false, false, false, false, false, false, false, false, false, false]) (S := (fun W => W.cell? ⟨w.heap.size, 0, none⟩ = some (.bool true) ∧ W.cell? ⟨w.heap.size, 1, none⟩ = some (.slice (some ⟨bb, off, none⟩) n c) ∧ W.cell? ⟨w.heap.size, 2, none⟩ = some (.slice B m d) ∧ W.cell? ⟨bb, off + k * 4, none⟩ = some (.slice P xs.length p) ∧ W.cell? ⟨bb, off + k * 4 + 1, none⟩ = some (.slice Q ys.length q0) ∧ W.cell? ⟨bb, off + k * 4 + 2, none⟩ = some (.int .i64 s) ∧ W.cell? ⟨bb, off + k * 4 + 3, none⟩ = some (.int .i64 r))) (by kernel_rfl) (by kernel_rfl) (by kernel_rfl) (KP.out _ HOZ.out) (fun hsel hHeld => ?_)
          obtain ⟨wq, hwq⟩ : ∃ wq, wq = wr.drew := ⟨_, rfl⟩
          rw [← hwq] at HOZ hHeld
          rw [← hwq]
          clear hwq
          refine oneA 0 29 hsel (h := ?_)
          simp only [Act.put, List.setIfInBounds_toArray, List.set_cons_zero, List.set_cons_succ]
          refine oneA 1 30 hsel (h := ?_)
          simp only [Act.put, List.setIfInBounds_toArray, List.set_cons_zero, List.set_cons_succ]
          refine oneA 2 31 hsel (h := ?_)
          simp only [Act.put, List.setIfInBounds_toArray, List.set_cons_zero, List.set_cons_succ]
          refine oneA 3 32 hsel (h := ?_)
          simp only [Act.put, List.setIfInBounds_toArray, List.set_cons_zero, List.set_cons_succ]
          refine oneA 4 33 hsel (h := ?_)
          simp only [Act.put, List.setIfInBounds_toArray, List.set_cons_zero, List.set_cons_succ]
          refine oneA 5 34 hsel (h := ?_)
          simp only [Act.put, List.setIfInBounds_toArray, List.set_cons_zero, List.set_cons_succ]
          refine wpAnyL_ready (rs := [6]) (by kernel_rfl) (by kernel_rfl) (by simp) ?_
          refine AllReadyL.cons (o := ?_) ?_ (fun K hK => ?_) AllReadyL.nil
          case refine_2 => (simp only [List.getElem?_cons_succ, List.getElem?_cons_zero]; rfl)
          go_simp
          (go_at_call 85; (with_reducible refine (rRight_c _ _ _ _ _ _ _ _ _ _ true HOK.out).mono ?_); rintro ee w5 ⟨rfl, ho⟩; (replace HOZ := Lib.hid (on_new HOZ.out ho)); clear ho)
          go_wp2_with (fail)
          clear hHeld
          refine hK.out _ _ (KP.out _ HOZ.out) (fun hHeld => ?_)
          clear hK K
          try simp only [List.set_cons_zero, List.set_cons_succ]
          refine oneA 7 36 hsel (h := ?_)
          simp only [Act.put, List.setIfInBounds_toArray, List.set_cons_zero, List.set_cons_succ]
          refine oneA 8 37 hsel (h := ?_)
          simp only [Act.put, List.setIfInBounds_toArray, List.set_cons_zero, List.set_cons_succ]
          refine oneA 9 38 hsel (h := ?_)
          simp only [Act.put, List.setIfInBounds_toArray, List.set_cons_zero, List.set_cons_succ]
          refine oneA 10 39 hsel (h := ?_)
          simp only [Act.put, List.setIfInBounds_toArray, List.set_cons_zero, List.set_cons_succ]
          refine oneA 11 40 hsel (h := ?_)
          simp only [Act.put, List.setIfInBounds_toArray, List.set_cons_zero, List.set_cons_succ]
          refine take_skipL (i := 12) (d := 41) (oi := ?_) ?_ hsel (by kernel_rfl) (by kernel_rfl) (fun _ _ _ h => h) ?_ ?_ (by assumption) ?_
          case refine_2 => (simp only [List.getElem?_cons_succ, List.getElem?_cons_zero]; rfl)
          case refine_3 => rfl
          case refine_4 => rfl
          simp only [Act.put, List.setIfInBounds_toArray, List.set_cons_zero, List.set_cons_succ]
          refine take_skipL (i := 13) (d := 42) (oi := ?_) ?_ hsel (by kernel_rfl) (by kernel_rfl) (fun _ _ _ h => h) ?_ ?_ (by assumption) ?_
          case refine_2 => (simp only [List.getElem?_cons_succ, List.getElem?_cons_zero]; rfl)
          case refine_3 => rfl
          case refine_4 => rfl
          simp only [Act.put, List.setIfInBounds_toArray, List.set_cons_zero, List.set_cons_succ]
          refine take_skipL (i := 14) (d := 43) (oi := ?_) ?_ hsel (by kernel_rfl) (by kernel_rfl) (fun _ _ _ h => h) ?_ ?_ (by assumption) ?_
          case refine_2 => (simp only [List.getElem?_cons_succ, List.getElem?_cons_zero]; rfl)
          case refine_3 => rfl
          case refine_4 => rfl
          simp only [Act.put, List.setIfInBounds_toArray, List.set_cons_zero, List.set_cons_succ]
          refine take_skipL (i := 15) (d := 44) (oi := ?_) ?_ hsel (by kernel_rfl) (by kernel_rfl) (fun _ _ _ h => h) ?_ ?_ (by assumption) ?_
          case refine_2 => (simp only [List.getElem?_cons_succ, List.getElem?_cons_zero]; rfl)
          case refine_3 => rfl
          case refine_4 => rfl
          simp only [Act.put, List.setIfInBounds_toArray, List.set_cons_zero, List.set_cons_succ]
          refine take_skipL (i := 16) (d := 45) (oi := ?_) ?_ hsel (by kernel_rfl) (by kernel_rfl) (fun _ _ _ h => h) ?_ ?_ (by assumption) ?_
          case refine_2 => (simp only [List.getElem?_cons_succ, List.getElem?_cons_zero]; rfl)
          case refine_3 => rfl
          case refine_4 => rfl
          simp only [Act.put, List.setIfInBounds_toArray, List.set_cons_zero, List.set_cons_succ]
          refine take_skipL (i := 17) (d := 46) (oi := ?_) ?_ hsel (by kernel_rfl) (by kernel_rfl) (fun _ _ _ h => h) ?_ ?_ (by assumption) ?_
          case refine_2 => (simp only [List.getElem?_cons_succ, List.getElem?_cons_zero]; rfl)
          case refine_3 => rfl
          case refine_4 => rfl
          simp only [Act.put, List.setIfInBounds_toArray, List.set_cons_zero, List.set_cons_succ]
          refine take_skipL (i := 18) (d := 47) (oi := ?_) ?_ hsel (by kernel_rfl) (by kernel_rfl) (fun _ _ _ h => h) ?_ ?_ (by assumption) ?_
          case refine_2 => (simp only [List.getElem?_cons_succ, List.getElem?_cons_zero]; rfl)
          case refine_3 => rfl
          case refine_4 => rfl
          simp only [Act.put, List.setIfInBounds_toArray, List.set_cons_zero, List.set_cons_succ]
          refine take_skipL (i := 19) (d := 48) (oi := ?_) ?_ hsel (by kernel_rfl) (by kernel_rfl) (fun _ _ _ h => h) ?_ ?_ (by assumption) ?_
          case refine_2 => (simp only [List.getElem?_cons_succ, List.getElem?_cons_zero]; rfl)
          case refine_3 => rfl
          case refine_4 => rfl
          simp only [Act.put, List.setIfInBounds_toArray, List.set_cons_zero, List.set_cons_succ]
          refine take_skipL (i := 20) (d := 49) (oi := ?_) ?_ hsel (by kernel_rfl) (by kernel_rfl) (fun _ _ _ h => h) ?_ ?_ (by assumption) ?_
          case refine_2 => (simp only [List.getElem?_cons_succ, List.getElem?_cons_zero]; rfl)
          case refine_3 => rfl
          case refine_4 => rfl
          simp only [Act.put, List.setIfInBounds_toArray, List.set_cons_zero, List.set_cons_succ]
          refine take_skipL (i := 21) (d := 50) (oi := ?_) ?_ hsel (by kernel_rfl) (by kernel_rfl) (fun _ _ _ h => h) ?_ ?_ (by assumption) ?_
          case refine_2 => (simp only [List.getElem?_cons_succ, List.getElem?_cons_zero]; rfl)
          case refine_3 => rfl
          case refine_4 => rfl
          simp only [Act.put, List.setIfInBounds_toArray, List.set_cons_zero, List.set_cons_succ]
          refine take_skipL (i := 22) (d := 51) (oi := ?_) ?_ hsel (by kernel_rfl) (by kernel_rfl) (fun _ _ _ h => h) ?_ ?_ (by assumption) ?_
          case refine_2 => (simp only [List.getElem?_cons_succ, List.getElem?_cons_zero]; rfl)
          case refine_3 => rfl
          case refine_4 => rfl
          simp only [Act.put, List.setIfInBounds_toArray, List.set_cons_zero, List.set_cons_succ]
          refine take_skipL (i := 23) (d := 52) (oi := ?_) ?_ hsel (by kernel_rfl) (by kernel_rfl) (fun _ _ _ h => h) ?_ ?_ (by assumption) ?_
          case refine_2 => (simp only [List.getElem?_cons_succ, List.getElem?_cons_zero]; rfl)
          case refine_3 => rfl
          case refine_4 => rfl
          simp only [Act.put, List.setIfInBounds_toArray, List.set_cons_zero, List.set_cons_succ]
          refine take_skipL (i := 24) (d := 53) (oi := ?_) ?_ hsel (by kernel_rfl) (by kernel_rfl) (fun _ _ _ h => h) ?_ ?_ (by assumption) ?_
          case refine_2 => (simp only [List.getElem?_cons_succ, List.getElem?_cons_zero]; rfl)
          case refine_3 => rfl
          case refine_4 => rfl
          simp only [Act.put, List.setIfInBounds_toArray, List.set_cons_zero, List.set_cons_succ]
          refine take_skipL (i := 25) (d := 54) (oi := ?_) ?_ hsel (by kernel_rfl) (by kernel_rfl) (fun _ _ _ h => h) ?_ ?_ (by assumption) ?_
          case refine_2 => (simp only [List.getElem?_cons_succ, List.getElem?_cons_zero]; rfl)
          case refine_3 => rfl
          case refine_4 => rfl
          simp only [Act.put, List.setIfInBounds_toArray, List.set_cons_zero, List.set_cons_succ]
          refine take_skipL (i := 26) (d := 55) (oi := ?_) ?_ hsel (by kernel_rfl) (by kernel_rfl) (fun _ _ _ h => h) ?_ ?_ (by assumption) ?_
          case refine_2 => (simp only [List.getElem?_cons_succ, List.getElem?_cons_zero]; rfl)
          case refine_3 => rfl
          case refine_4 => rfl
          simp only [Act.put, List.setIfInBounds_toArray, List.set_cons_zero, List.set_cons_succ]
          refine oneA 27 56 hsel (h := ?_)
          simp only [Act.put, List.setIfInBounds_toArray, List.set_cons_zero, List.set_cons_succ]
          refine oneA 28 57 hsel (h := ?_)
          simp only [Act.put, List.setIfInBounds_toArray, List.set_cons_zero, List.set_cons_succ]
          refine wpAnyL_done (by kernel_rfl) (by kernel_rfl) ?_ _
          clear hsel hHeld
          go_wp2
          go_roundw
          case rel => exact ⟨k + 1, by omega, by go_num, HKN, Lib.hid (on_new HWL.out HOZ.out)⟩
          case measure => simp [intOf]; omega
      · obtain rfl : k = n := by omega
        have HFN : Hid ((m : Int) = 0 → RightN g x) := Lib.hid fun h0 => by
          have hl : x.leaf = true := HFX.out.symm
          have hk2 : ∀ (j : Nat) y, x.its[j]? = some y → ItR g y := fun j y hj => HK.out.1 j y (by rw [HNL.out]; exact (List.getElem?_eq_some_iff.1 hj).1) hj
          refine ⟨by unfold gen; rw [decide_eq_true_eq]; exact HG.out, ?_, ?_, ?_, (HFB.out (eok_leaf hl hk2)).symm⟩
          · unfold PureR
            rw [if_pos hl]
            exact List.eq_nil_of_length_eq_zero (by rw [← HML.out]; omega)
          · unfold EachR
            rw [if_pos hl]
            exact hk2
          · unfold RisesR
            rw [if_pos hl]
            exact fun j y z hy hz => HK.out.2 j y z (by rw [HNL.out]; exact (List.getElem?_eq_some_iff.1 hz).1) hy hz
        have hkk : ¬ (k : Int) < (k : Int) := by omega
        by_cases hm0 : (m : Int) = 0
        · obtain rfl : m = 0 := by omega
          go_wp2
          go_ret
          exact ⟨true, rfl, ⟨fun _ => HFN.out hm0, fun _ => rfl⟩, HOL.out⟩
        · have hm0i : ((m : Int) == 0) = false := by rw [beq_eq_false_iff_ne]; exact hm0
          go_wp2
          go_ret
          exact ⟨false, rfl, ⟨fun h => (by cases h), fun hR => (by have h1 := HRR.out hR; have h3 := HML.out; rw [h1.2.2.1] at h3; simp only [List.length_nil] at h3; omega)⟩, HOL.out⟩
end
end Go.Proofs.YtoghojgajpfkkaaGreatDoor
