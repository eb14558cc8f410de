/-
  Metas: which may be.
-/
import Derived.Test.YtopaponemjaenaaDoorMta
set_option linter.unusedVariables false
namespace Go.Proofs.YtopaponemjaenaaDoor
open Go.RowKit

/-- The target and the cursor are as the phase asks. -/
def phP (g ph t : Int) (n : Nat) : Prop := (ph = 0 ∧ t = 0 ∧ n = 0) ∨ (ph = 1 ∧ (1 ≤ t ∧ t ≤ 3) ∧ g < t ∧ (n : Int) ≤ tr t 16 20 24)
instance (g ph t : Int) (n : Nat) : Decidable (phP g ph t n) := by unfold phP; infer_instance
def phM (g ph t : Int) (n : Nat) : Bool := decide (phP g ph t n)
/-- There may be such a meta. -/
def okP (g ph t x r p l : Int) (n : Nat) : Prop := (1 ≤ g ∧ g ≤ 3) ∧ phP g ph t n ∧ 1 ≤ x ∧ x ≤ 2147483647 ∧ p ≤ 16384 ∧ (2 ≤ r ∧ r < p) ∧ (l = 0 ∨ (2 ≤ l ∧ l < p))
instance (g ph t x r p l : Int) (n : Nat) : Decidable (okP g ph t x r p l n) := by unfold okP; infer_instance
def okM (g ph t x r p l : Int) (n : Nat) : Bool := decide (okP g ph t x r p l n)
section
variable (w : World) (g ph t x r p l : Int) (A : Option Addr) (n c : Nat)
set_option maxRecDepth 100000 in
set_option maxHeartbeats 6400000 in
theorem Mphased_c (hG : Gens w) : Calls Tryd.prog 57 #[.agg #[.int .i64 g, .int .i64 ph, .int .i64 t, .int .i64 x, .int .i64 r, .int .i64 p, .int .i64 l, .slice A n c]] w (Told w (.bool (phM g ph t n))) := by
  by_cases h1 : ph = 0
  · skip
    subst h1
    by_cases h2 : t = 0
    · skip
      subst h2
      by_cases h3 : n = 0
      · skip
        subst h3
        rw [show phM g 0 0 0 = true from decide_eq_true (by unfold phP; omega)]
        have HI : Hid (Blk (w.alloc (.cells #[.int .i64 g, .int .i64 0, .int .i64 0, .int .i64 x, .int .i64 r, .int .i64 p, .int .i64 l, .slice A 0 c] 36)) w.heap.size 36 [.int .i64 g, .int .i64 0, .int .i64 0, .int .i64 x, .int .i64 r, .int .i64 p, .int .i64 l, .slice A 0 c]) := Lib.hid (Blk.new w 36 [.int .i64 g, .int .i64 0, .int .i64 0, .int .i64 x, .int .i64 r, .int .i64 p, .int .i64 l, .slice A 0 c])
        have HO : Hid (Only (w.heap.size ≤ ·) w (w.alloc (.cells #[.int .i64 g, .int .i64 0, .int .i64 0, .int .i64 x, .int .i64 r, .int .i64 p, .int .i64 l, .slice A 0 c] 36))) := Lib.hid ((Only.refl _ w).alloc (fun _ h => h) _)
        go_enter Tryd.func57, Tryd.ntmps57
        go_wp2
        go_ret
        exact ⟨rfl, HO.out⟩
      · skip
        have h3b : ((n : Int) == 0) = false := by rw [beq_eq_false_iff_ne]; omega
        have h3n : ((n : Int) != 0) = true := by rw [bne_iff_ne]; omega
        rw [show phM g 0 0 n = false from decide_eq_false (by unfold phP; omega)]
        have HI : Hid (Blk (w.alloc (.cells #[.int .i64 g, .int .i64 0, .int .i64 0, .int .i64 x, .int .i64 r, .int .i64 p, .int .i64 l, .slice A n c] 36)) w.heap.size 36 [.int .i64 g, .int .i64 0, .int .i64 0, .int .i64 x, .int .i64 r, .int .i64 p, .int .i64 l, .slice A n c]) := Lib.hid (Blk.new w 36 [.int .i64 g, .int .i64 0, .int .i64 0, .int .i64 x, .int .i64 r, .int .i64 p, .int .i64 l, .slice A n c])
        have HO : Hid (Only (w.heap.size ≤ ·) w (w.alloc (.cells #[.int .i64 g, .int .i64 0, .int .i64 0, .int .i64 x, .int .i64 r, .int .i64 p, .int .i64 l, .slice A n c] 36))) := Lib.hid ((Only.refl _ w).alloc (fun _ h => h) _)
        go_enter Tryd.func57, Tryd.ntmps57
        go_wp2
        go_ret
        exact ⟨rfl, HO.out⟩
    · skip
      have h2b : (t == 0) = false := by rw [beq_eq_false_iff_ne]; omega
      have h2n : (t != 0) = true := by rw [bne_iff_ne]; omega
      rw [show phM g 0 t n = false from decide_eq_false (by unfold phP; omega)]
      have HI : Hid (Blk (w.alloc (.cells #[.int .i64 g, .int .i64 0, .int .i64 t, .int .i64 x, .int .i64 r, .int .i64 p, .int .i64 l, .slice A n c] 36)) w.heap.size 36 [.int .i64 g, .int .i64 0, .int .i64 t, .int .i64 x, .int .i64 r, .int .i64 p, .int .i64 l, .slice A n c]) := Lib.hid (Blk.new w 36 [.int .i64 g, .int .i64 0, .int .i64 t, .int .i64 x, .int .i64 r, .int .i64 p, .int .i64 l, .slice A n c])
      have HO : Hid (Only (w.heap.size ≤ ·) w (w.alloc (.cells #[.int .i64 g, .int .i64 0, .int .i64 t, .int .i64 x, .int .i64 r, .int .i64 p, .int .i64 l, .slice A n c] 36))) := Lib.hid ((Only.refl _ w).alloc (fun _ h => h) _)
      go_enter Tryd.func57, Tryd.ntmps57
      go_wp2
      go_ret
      exact ⟨rfl, HO.out⟩
  · skip
    have h1b : (ph == 0) = false := by rw [beq_eq_false_iff_ne]; omega
    have h1n : (ph != 0) = true := by rw [bne_iff_ne]; omega
    by_cases h4 : ph = 1
    · skip
      subst h4
      obtain ⟨mk, hmk⟩ : ∃ mk, mk = tr t 16 20 24 := ⟨_, rfl⟩
      by_cases h5 : 1 ≤ t ∧ t ≤ 3
      · skip
        have HGC : Hid (∀ W, Calls Tryd.prog 56 #[.int .i64 t] W fun e w' => e = .returned (.bool true) ∧ W = w') := Lib.hid fun W => by have h := Gen_c W t; rwa [show gen t = true from decide_eq_true (by omega)] at h
        have HMK : Hid (∀ W, Only (w.heap.size ≤ ·) w W → Calls Tryd.prog 76 #[.int .i64 t] W (Told W (.int .i64 mk))) := Lib.hid fun W hW => by have h := MaxKey_c W t (hG.later hW); rwa [← hmk] at h
        by_cases h6 : g < t
        · skip
          have h6d : decide (g < t) = true := decide_eq_true h6
          by_cases h7 : (n : Int) ≤ mk
          · skip
            have h7d : decide ((n : Int) ≤ mk) = true := decide_eq_true h7
            rw [show phM g 1 t n = true from decide_eq_true (by unfold phP; omega)]
            clear hmk
            have HI : Hid (Blk (w.alloc (.cells #[.int .i64 g, .int .i64 1, .int .i64 t, .int .i64 x, .int .i64 r, .int .i64 p, .int .i64 l, .slice A n c] 36)) w.heap.size 36 [.int .i64 g, .int .i64 1, .int .i64 t, .int .i64 x, .int .i64 r, .int .i64 p, .int .i64 l, .slice A n c]) := Lib.hid (Blk.new w 36 [.int .i64 g, .int .i64 1, .int .i64 t, .int .i64 x, .int .i64 r, .int .i64 p, .int .i64 l, .slice A n c])
            have HO : Hid (Only (w.heap.size ≤ ·) w (w.alloc (.cells #[.int .i64 g, .int .i64 1, .int .i64 t, .int .i64 x, .int .i64 r, .int .i64 p, .int .i64 l, .slice A n c] 36))) := Lib.hid ((Only.refl _ w).alloc (fun _ h => h) _)
            go_enter Tryd.func57, Tryd.ntmps57
            go_upto_region 5 with (fail)
            replace HI := Lib.hid HI.out.drew
            replace HO := Lib.hid HO.out.drew
            refine wp_region_list (B := [false, false, false, false, false, false, false, false, false, false, false, false, false, false, false, false, false, false, false, false]) (S := (fun W => W.cell? ⟨w.heap.size, 0, none⟩ = some (.int .i64 g) ∧ W.cell? ⟨w.heap.size, 1, none⟩ = some (.int .i64 1) ∧ W.cell? ⟨w.heap.size, 2, none⟩ = some (.int .i64 t) ∧ W.cell? ⟨w.heap.size, 3, none⟩ = some (.int .i64 x) ∧ W.cell? ⟨w.heap.size, 4, none⟩ = some (.int .i64 r) ∧ W.cell? ⟨w.heap.size, 5, none⟩ = some (.int .i64 p) ∧ W.cell? ⟨w.heap.size, 6, none⟩ = some (.int .i64 l) ∧ W.cell? ⟨w.heap.size, 7, none⟩ = some (.slice A n c))) (by kernel_rfl) (by kernel_rfl) (by kernel_rfl) HI.out.eight (fun hsel hHeld => ?_)
            generalize hwz : World.drew _ = wz at HI HO hHeld ⊢
            clear hwz
            refine oneA 0 18 hsel (h := ?_)
            simp only [Act.put, List.setIfInBounds_toArray, List.set_cons_zero, List.set_cons_succ]
            refine oneA 1 19 hsel (h := ?_)
            simp only [Act.put, List.setIfInBounds_toArray, List.set_cons_zero, List.set_cons_succ]
            refine wpAnyL_ready (rs := [2]) (by kernel_rfl) (by kernel_rfl) (by simp) ?_
            refine AllReadyL.cons (o := ?_) ?_ (fun K hK => ?_) AllReadyL.nil
            case refine_2 => (simp only [List.getElem?_cons_succ, List.getElem?_cons_zero]; rfl)
            go_simp
            (go_at_call 56; (with_reducible refine (HGC.out _).mono ?_); rintro ee w2 ⟨rfl, rfl⟩)
            go_wp2_with (fail)
            clear hHeld
            refine hK.out _ _ HI.out.eight (fun hHeld => ?_)
            clear hK K
            try simp only [List.set_cons_zero, List.set_cons_succ]
            refine oneA 3 21 hsel (h := ?_)
            simp only [Act.put, List.setIfInBounds_toArray, List.set_cons_zero, List.set_cons_succ]
            refine oneA 4 22 hsel (h := ?_)
            simp only [Act.put, List.setIfInBounds_toArray, List.set_cons_zero, List.set_cons_succ]
            refine oneA 5 23 hsel (h := ?_)
            simp only [Act.put, List.setIfInBounds_toArray, List.set_cons_zero, List.set_cons_succ]
            refine oneA 6 24 hsel (h := ?_)
            simp only [Act.put, List.setIfInBounds_toArray, List.set_cons_zero, List.set_cons_succ]
            refine oneA 7 25 hsel (h := ?_)
            simp only [Act.put, List.setIfInBounds_toArray, List.set_cons_zero, List.set_cons_succ]
            refine oneA 8 26 hsel (h := ?_)
            simp only [Act.put, List.setIfInBounds_toArray, List.set_cons_zero, List.set_cons_succ]
            refine oneA 9 27 hsel (h := ?_)
            simp only [Act.put, List.setIfInBounds_toArray, List.set_cons_zero, List.set_cons_succ]
            refine oneA 10 28 hsel (h := ?_)
            simp only [Act.put, List.setIfInBounds_toArray, List.set_cons_zero, List.set_cons_succ]
            refine oneA 11 29 hsel (h := ?_)
            simp only [Act.put, List.setIfInBounds_toArray, List.set_cons_zero, List.set_cons_succ]
            refine oneA 12 30 hsel (h := ?_)
            simp only [Act.put, List.setIfInBounds_toArray, List.set_cons_zero, List.set_cons_succ]
            refine oneA 13 31 hsel (h := ?_)
            simp only [Act.put, List.setIfInBounds_toArray, List.set_cons_zero, List.set_cons_succ]
            refine oneA 14 32 hsel (h := ?_)
            simp only [Act.put, List.setIfInBounds_toArray, List.set_cons_zero, List.set_cons_succ]
            refine oneA 15 33 hsel (h := ?_)
            simp only [Act.put, List.setIfInBounds_toArray, List.set_cons_zero, List.set_cons_succ]
            refine wpAnyL_ready (rs := [16]) (by kernel_rfl) (by kernel_rfl) (by simp) ?_
            refine AllReadyL.cons (o := ?_) ?_ (fun K hK => ?_) AllReadyL.nil
            case refine_2 => (simp only [List.getElem?_cons_succ, List.getElem?_cons_zero]; rfl)
            go_simp
            (go_at_call 76; (with_reducible refine (HMK.out _ HO.out).mono ?_); rintro ee w2 ⟨rfl, ho⟩; (replace HI := Lib.hid (HI.out.later ho)); (replace HO := Lib.hid (on_new HO.out ho)); clear ho)
            go_wp2_with (fail)
            clear hHeld
            refine hK.out _ _ HI.out.eight (fun hHeld => ?_)
            clear hK K
            try simp only [List.set_cons_zero, List.set_cons_succ]
            refine oneA 17 35 hsel (h := ?_)
            simp only [Act.put, List.setIfInBounds_toArray, List.set_cons_zero, List.set_cons_succ]
            refine oneA 18 36 hsel (h := ?_)
            simp only [Act.put, List.setIfInBounds_toArray, List.set_cons_zero, List.set_cons_succ]
            refine oneA 19 2 hsel (h := ?_)
            simp only [Act.put, List.setIfInBounds_toArray, List.set_cons_zero, List.set_cons_succ]
            refine wpAnyL_done (by kernel_rfl) (by kernel_rfl) ?_ _
            clear hsel hHeld
            go_wp2
            go_ret
            exact ⟨rfl, HO.out⟩
          · skip
            have h7d : decide ((n : Int) ≤ mk) = false := decide_eq_false h7
            rw [show phM g 1 t n = false from decide_eq_false (by unfold phP; omega)]
            clear hmk
            have HI : Hid (Blk (w.alloc (.cells #[.int .i64 g, .int .i64 1, .int .i64 t, .int .i64 x, .int .i64 r, .int .i64 p, .int .i64 l, .slice A n c] 36)) w.heap.size 36 [.int .i64 g, .int .i64 1, .int .i64 t, .int .i64 x, .int .i64 r, .int .i64 p, .int .i64 l, .slice A n c]) := Lib.hid (Blk.new w 36 [.int .i64 g, .int .i64 1, .int .i64 t, .int .i64 x, .int .i64 r, .int .i64 p, .int .i64 l, .slice A n c])
            have HO : Hid (Only (w.heap.size ≤ ·) w (w.alloc (.cells #[.int .i64 g, .int .i64 1, .int .i64 t, .int .i64 x, .int .i64 r, .int .i64 p, .int .i64 l, .slice A n c] 36))) := Lib.hid ((Only.refl _ w).alloc (fun _ h => h) _)
            go_enter Tryd.func57, Tryd.ntmps57
            go_upto_region 5 with (fail)
            replace HI := Lib.hid HI.out.drew
            replace HO := Lib.hid HO.out.drew
            refine wp_region_list (B := [false, false, false, false, false, false, false, false, false, false, false, false, false, false, false, false, false, false, false, false]) (S := (fun W => W.cell? ⟨w.heap.size, 0, none⟩ = some (.int .i64 g) ∧ W.cell? ⟨w.heap.size, 1, none⟩ = some (.int .i64 1) ∧ W.cell? ⟨w.heap.size, 2, none⟩ = some (.int .i64 t) ∧ W.cell? ⟨w.heap.size, 3, none⟩ = some (.int .i64 x) ∧ W.cell? ⟨w.heap.size, 4, none⟩ = some (.int .i64 r) ∧ W.cell? ⟨w.heap.size, 5, none⟩ = some (.int .i64 p) ∧ W.cell? ⟨w.heap.size, 6, none⟩ = some (.int .i64 l) ∧ W.cell? ⟨w.heap.size, 7, none⟩ = some (.slice A n c))) (by kernel_rfl) (by kernel_rfl) (by kernel_rfl) HI.out.eight (fun hsel hHeld => ?_)
            generalize hwz : World.drew _ = wz at HI HO hHeld ⊢
            clear hwz
            refine oneA 0 18 hsel (h := ?_)
            simp only [Act.put, List.setIfInBounds_toArray, List.set_cons_zero, List.set_cons_succ]
            refine oneA 1 19 hsel (h := ?_)
            simp only [Act.put, List.setIfInBounds_toArray, List.set_cons_zero, List.set_cons_succ]
            refine wpAnyL_ready (rs := [2]) (by kernel_rfl) (by kernel_rfl) (by simp) ?_
            refine AllReadyL.cons (o := ?_) ?_ (fun K hK => ?_) AllReadyL.nil
            case refine_2 => (simp only [List.getElem?_cons_succ, List.getElem?_cons_zero]; rfl)
            go_simp
            (go_at_call 56; (with_reducible refine (HGC.out _).mono ?_); rintro ee w2 ⟨rfl, rfl⟩)
            go_wp2_with (fail)
            clear hHeld
            refine hK.out _ _ HI.out.eight (fun hHeld => ?_)
            clear hK K
            try simp only [List.set_cons_zero, List.set_cons_succ]
            refine oneA 3 21 hsel (h := ?_)
            simp only [Act.put, List.setIfInBounds_toArray, List.set_cons_zero, List.set_cons_succ]
            refine oneA 4 22 hsel (h := ?_)
            simp only [Act.put, List.setIfInBounds_toArray, List.set_cons_zero, List.set_cons_succ]
            refine oneA 5 23 hsel (h := ?_)
            simp only [Act.put, List.setIfInBounds_toArray, List.set_cons_zero, List.set_cons_succ]
            refine oneA 6 24 hsel (h := ?_)
            simp only [Act.put, List.setIfInBounds_toArray, List.set_cons_zero, List.set_cons_succ]
            refine oneA 7 25 hsel (h := ?_)
            simp only [Act.put, List.setIfInBounds_toArray, List.set_cons_zero, List.set_cons_succ]
            refine oneA 8 26 hsel (h := ?_)
            simp only [Act.put, List.setIfInBounds_toArray, List.set_cons_zero, List.set_cons_succ]
            refine oneA 9 27 hsel (h := ?_)
            simp only [Act.put, List.setIfInBounds_toArray, List.set_cons_zero, List.set_cons_succ]
            refine oneA 10 28 hsel (h := ?_)
            simp only [Act.put, List.setIfInBounds_toArray, List.set_cons_zero, List.set_cons_succ]
            refine oneA 11 29 hsel (h := ?_)
            simp only [Act.put, List.setIfInBounds_toArray, List.set_cons_zero, List.set_cons_succ]
            refine oneA 12 30 hsel (h := ?_)
            simp only [Act.put, List.setIfInBounds_toArray, List.set_cons_zero, List.set_cons_succ]
            refine oneA 13 31 hsel (h := ?_)
            simp only [Act.put, List.setIfInBounds_toArray, List.set_cons_zero, List.set_cons_succ]
            refine oneA 14 32 hsel (h := ?_)
            simp only [Act.put, List.setIfInBounds_toArray, List.set_cons_zero, List.set_cons_succ]
            refine oneA 15 33 hsel (h := ?_)
            simp only [Act.put, List.setIfInBounds_toArray, List.set_cons_zero, List.set_cons_succ]
            refine wpAnyL_ready (rs := [16]) (by kernel_rfl) (by kernel_rfl) (by simp) ?_
            refine AllReadyL.cons (o := ?_) ?_ (fun K hK => ?_) AllReadyL.nil
            case refine_2 => (simp only [List.getElem?_cons_succ, List.getElem?_cons_zero]; rfl)
            go_simp
            (go_at_call 76; (with_reducible refine (HMK.out _ HO.out).mono ?_); rintro ee w2 ⟨rfl, ho⟩; (replace HI := Lib.hid (HI.out.later ho)); (replace HO := Lib.hid (on_new HO.out ho)); clear ho)
            go_wp2_with (fail)
            clear hHeld
            refine hK.out _ _ HI.out.eight (fun hHeld => ?_)
            clear hK K
            try simp only [List.set_cons_zero, List.set_cons_succ]
            refine oneA 17 35 hsel (h := ?_)
            simp only [Act.put, List.setIfInBounds_toArray, List.set_cons_zero, List.set_cons_succ]
            refine oneA 18 36 hsel (h := ?_)
            simp only [Act.put, List.setIfInBounds_toArray, List.set_cons_zero, List.set_cons_succ]
            refine oneA 19 2 hsel (h := ?_)
            simp only [Act.put, List.setIfInBounds_toArray, List.set_cons_zero, List.set_cons_succ]
            refine wpAnyL_done (by kernel_rfl) (by kernel_rfl) ?_ _
            clear hsel hHeld
            go_wp2
            go_ret
            exact ⟨rfl, HO.out⟩
        · skip
          have h6d : decide (g < t) = false := decide_eq_false h6
          rw [show phM g 1 t n = false from decide_eq_false (by unfold phP; omega)]
          clear hmk
          have HI : Hid (Blk (w.alloc (.cells #[.int .i64 g, .int .i64 1, .int .i64 t, .int .i64 x, .int .i64 r, .int .i64 p, .int .i64 l, .slice A n c] 36)) w.heap.size 36 [.int .i64 g, .int .i64 1, .int .i64 t, .int .i64 x, .int .i64 r, .int .i64 p, .int .i64 l, .slice A n c]) := Lib.hid (Blk.new w 36 [.int .i64 g, .int .i64 1, .int .i64 t, .int .i64 x, .int .i64 r, .int .i64 p, .int .i64 l, .slice A n c])
          have HO : Hid (Only (w.heap.size ≤ ·) w (w.alloc (.cells #[.int .i64 g, .int .i64 1, .int .i64 t, .int .i64 x, .int .i64 r, .int .i64 p, .int .i64 l, .slice A n c] 36))) := Lib.hid ((Only.refl _ w).alloc (fun _ h => h) _)
          go_enter Tryd.func57, Tryd.ntmps57
          go_upto_region 5 with (fail)
          replace HI := Lib.hid HI.out.drew
          replace HO := Lib.hid HO.out.drew
          refine wp_region_list (B := [false, false, false, false, false, false, false, false, false, false, false, false, false, false, false, false, false, false, false, false]) (S := (fun W => W.cell? ⟨w.heap.size, 0, none⟩ = some (.int .i64 g) ∧ W.cell? ⟨w.heap.size, 1, none⟩ = some (.int .i64 1) ∧ W.cell? ⟨w.heap.size, 2, none⟩ = some (.int .i64 t) ∧ W.cell? ⟨w.heap.size, 3, none⟩ = some (.int .i64 x) ∧ W.cell? ⟨w.heap.size, 4, none⟩ = some (.int .i64 r) ∧ W.cell? ⟨w.heap.size, 5, none⟩ = some (.int .i64 p) ∧ W.cell? ⟨w.heap.size, 6, none⟩ = some (.int .i64 l) ∧ W.cell? ⟨w.heap.size, 7, none⟩ = some (.slice A n c))) (by kernel_rfl) (by kernel_rfl) (by kernel_rfl) HI.out.eight (fun hsel hHeld => ?_)
          generalize hwz : World.drew _ = wz at HI HO hHeld ⊢
          clear hwz
          refine oneA 0 18 hsel (h := ?_)
          simp only [Act.put, List.setIfInBounds_toArray, List.set_cons_zero, List.set_cons_succ]
          refine oneA 1 19 hsel (h := ?_)
          simp only [Act.put, List.setIfInBounds_toArray, List.set_cons_zero, List.set_cons_succ]
          refine wpAnyL_ready (rs := [2]) (by kernel_rfl) (by kernel_rfl) (by simp) ?_
          refine AllReadyL.cons (o := ?_) ?_ (fun K hK => ?_) AllReadyL.nil
          case refine_2 => (simp only [List.getElem?_cons_succ, List.getElem?_cons_zero]; rfl)
          go_simp
          (go_at_call 56; (with_reducible refine (HGC.out _).mono ?_); rintro ee w2 ⟨rfl, rfl⟩)
          go_wp2_with (fail)
          clear hHeld
          refine hK.out _ _ HI.out.eight (fun hHeld => ?_)
          clear hK K
          try simp only [List.set_cons_zero, List.set_cons_succ]
          refine oneA 3 21 hsel (h := ?_)
          simp only [Act.put, List.setIfInBounds_toArray, List.set_cons_zero, List.set_cons_succ]
          refine oneA 4 22 hsel (h := ?_)
          simp only [Act.put, List.setIfInBounds_toArray, List.set_cons_zero, List.set_cons_succ]
          refine oneA 5 23 hsel (h := ?_)
          simp only [Act.put, List.setIfInBounds_toArray, List.set_cons_zero, List.set_cons_succ]
          refine oneA 6 24 hsel (h := ?_)
          simp only [Act.put, List.setIfInBounds_toArray, List.set_cons_zero, List.set_cons_succ]
          refine oneA 7 25 hsel (h := ?_)
          simp only [Act.put, List.setIfInBounds_toArray, List.set_cons_zero, List.set_cons_succ]
          refine oneA 8 26 hsel (h := ?_)
          simp only [Act.put, List.setIfInBounds_toArray, List.set_cons_zero, List.set_cons_succ]
          refine oneA 9 27 hsel (h := ?_)
          simp only [Act.put, List.setIfInBounds_toArray, List.set_cons_zero, List.set_cons_succ]
          refine oneA 10 28 hsel (h := ?_)
          simp only [Act.put, List.setIfInBounds_toArray, List.set_cons_zero, List.set_cons_succ]
          refine take_skipL (i := 11) (d := 29) (oi := ?_) ?_ hsel (by kernel_rfl) (by kernel_rfl) (fun _ _ _ h => h) ?_ ?_ (by assumption) ?_
          case refine_2 => (simp only [List.getElem?_cons_succ, List.getElem?_cons_zero]; rfl)
          case refine_3 => rfl
          case refine_4 => rfl
          simp only [Act.put, List.setIfInBounds_toArray, List.set_cons_zero, List.set_cons_succ]
          refine take_skipL (i := 12) (d := 30) (oi := ?_) ?_ hsel (by kernel_rfl) (by kernel_rfl) (fun _ _ _ h => h) ?_ ?_ (by assumption) ?_
          case refine_2 => (simp only [List.getElem?_cons_succ, List.getElem?_cons_zero]; rfl)
          case refine_3 => rfl
          case refine_4 => rfl
          simp only [Act.put, List.setIfInBounds_toArray, List.set_cons_zero, List.set_cons_succ]
          refine take_skipL (i := 13) (d := 31) (oi := ?_) ?_ hsel (by kernel_rfl) (by kernel_rfl) (fun _ _ _ h => h) ?_ ?_ (by assumption) ?_
          case refine_2 => (simp only [List.getElem?_cons_succ, List.getElem?_cons_zero]; rfl)
          case refine_3 => rfl
          case refine_4 => rfl
          simp only [Act.put, List.setIfInBounds_toArray, List.set_cons_zero, List.set_cons_succ]
          refine take_skipL (i := 14) (d := 32) (oi := ?_) ?_ hsel (by kernel_rfl) (by kernel_rfl) (fun _ _ _ h => h) ?_ ?_ (by assumption) ?_
          case refine_2 => (simp only [List.getElem?_cons_succ, List.getElem?_cons_zero]; rfl)
          case refine_3 => rfl
          case refine_4 => rfl
          simp only [Act.put, List.setIfInBounds_toArray, List.set_cons_zero, List.set_cons_succ]
          refine take_skipL (i := 15) (d := 33) (oi := ?_) ?_ hsel (by kernel_rfl) (by kernel_rfl) (fun _ _ _ h => h) ?_ ?_ (by assumption) ?_
          case refine_2 => (simp only [List.getElem?_cons_succ, List.getElem?_cons_zero]; rfl)
          case refine_3 => rfl
          case refine_4 => rfl
          simp only [Act.put, List.setIfInBounds_toArray, List.set_cons_zero, List.set_cons_succ]
          refine take_skipL (i := 16) (d := 34) (oi := ?_) ?_ hsel (by kernel_rfl) (by kernel_rfl) (fun _ _ _ h => h) ?_ ?_ (by assumption) ?_
          case refine_2 => (simp only [List.getElem?_cons_succ, List.getElem?_cons_zero]; rfl)
          case refine_3 => rfl
          case refine_4 => rfl
          simp only [Act.put, List.setIfInBounds_toArray, List.set_cons_zero, List.set_cons_succ]
          refine take_skipL (i := 17) (d := 35) (oi := ?_) ?_ hsel (by kernel_rfl) (by kernel_rfl) (fun _ _ _ h => h) ?_ ?_ (by assumption) ?_
          case refine_2 => (simp only [List.getElem?_cons_succ, List.getElem?_cons_zero]; rfl)
          case refine_3 => rfl
          case refine_4 => rfl
          simp only [Act.put, List.setIfInBounds_toArray, List.set_cons_zero, List.set_cons_succ]
          refine oneA 18 36 hsel (h := ?_)
          simp only [Act.put, List.setIfInBounds_toArray, List.set_cons_zero, List.set_cons_succ]
          refine oneA 19 2 hsel (h := ?_)
          simp only [Act.put, List.setIfInBounds_toArray, List.set_cons_zero, List.set_cons_succ]
          refine wpAnyL_done (by kernel_rfl) (by kernel_rfl) ?_ _
          clear hsel hHeld
          go_wp2
          go_ret
          exact ⟨rfl, HO.out⟩
      · skip
        have HGC : Hid (∀ W, Calls Tryd.prog 56 #[.int .i64 t] W fun e w' => e = .returned (.bool false) ∧ W = w') := Lib.hid fun W => by have h := Gen_c W t; rwa [show gen t = false from decide_eq_false (by omega)] at h
        have HMK : Hid (∀ W, Only (w.heap.size ≤ ·) w W → Calls Tryd.prog 76 #[.int .i64 t] W (Told W (.int .i64 mk))) := Lib.hid fun W hW => by have h := MaxKey_c W t (hG.later hW); rwa [← hmk] at h
        rw [show phM g 1 t n = false from decide_eq_false (by unfold phP; omega)]
        clear hmk
        have HI : Hid (Blk (w.alloc (.cells #[.int .i64 g, .int .i64 1, .int .i64 t, .int .i64 x, .int .i64 r, .int .i64 p, .int .i64 l, .slice A n c] 36)) w.heap.size 36 [.int .i64 g, .int .i64 1, .int .i64 t, .int .i64 x, .int .i64 r, .int .i64 p, .int .i64 l, .slice A n c]) := Lib.hid (Blk.new w 36 [.int .i64 g, .int .i64 1, .int .i64 t, .int .i64 x, .int .i64 r, .int .i64 p, .int .i64 l, .slice A n c])
        have HO : Hid (Only (w.heap.size ≤ ·) w (w.alloc (.cells #[.int .i64 g, .int .i64 1, .int .i64 t, .int .i64 x, .int .i64 r, .int .i64 p, .int .i64 l, .slice A n c] 36))) := Lib.hid ((Only.refl _ w).alloc (fun _ h => h) _)
        go_enter Tryd.func57, Tryd.ntmps57
        go_upto_region 5 with (fail)
        replace HI := Lib.hid HI.out.drew
        replace HO := Lib.hid HO.out.drew
        refine wp_region_list (B := [false, false, false, false, false, false, false, false, false, false, false, false, false, false, false, false, false, false, false, false]) (S := (fun W => W.cell? ⟨w.heap.size, 0, none⟩ = some (.int .i64 g) ∧ W.cell? ⟨w.heap.size, 1, none⟩ = some (.int .i64 1) ∧ W.cell? ⟨w.heap.size, 2, none⟩ = some (.int .i64 t) ∧ W.cell? ⟨w.heap.size, 3, none⟩ = some (.int .i64 x) ∧ W.cell? ⟨w.heap.size, 4, none⟩ = some (.int .i64 r) ∧ W.cell? ⟨w.heap.size, 5, none⟩ = some (.int .i64 p) ∧ W.cell? ⟨w.heap.size, 6, none⟩ = some (.int .i64 l) ∧ W.cell? ⟨w.heap.size, 7, none⟩ = some (.slice A n c))) (by kernel_rfl) (by kernel_rfl) (by kernel_rfl) HI.out.eight (fun hsel hHeld => ?_)
        generalize hwz : World.drew _ = wz at HI HO hHeld ⊢
        clear hwz
        refine oneA 0 18 hsel (h := ?_)
        simp only [Act.put, List.setIfInBounds_toArray, List.set_cons_zero, List.set_cons_succ]
        refine oneA 1 19 hsel (h := ?_)
        simp only [Act.put, List.setIfInBounds_toArray, List.set_cons_zero, List.set_cons_succ]
        refine wpAnyL_ready (rs := [2]) (by kernel_rfl) (by kernel_rfl) (by simp) ?_
        refine AllReadyL.cons (o := ?_) ?_ (fun K hK => ?_) AllReadyL.nil
        case refine_2 => (simp only [List.getElem?_cons_succ, List.getElem?_cons_zero]; rfl)
        go_simp
        (go_at_call 56; (with_reducible refine (HGC.out _).mono ?_); rintro ee w2 ⟨rfl, rfl⟩)
        go_wp2_with (fail)
        clear hHeld
        refine hK.out _ _ HI.out.eight (fun hHeld => ?_)
        clear hK K
        try simp only [List.set_cons_zero, List.set_cons_succ]
        refine oneA 3 21 hsel (h := ?_)
        simp only [Act.put, List.setIfInBounds_toArray, List.set_cons_zero, List.set_cons_succ]
        refine take_skipL (i := 4) (d := 22) (oi := ?_) ?_ hsel (by kernel_rfl) (by kernel_rfl) (fun _ _ _ h => h) ?_ ?_ (by assumption) ?_
        case refine_2 => (simp only [List.getElem?_cons_succ, List.getElem?_cons_zero]; rfl)
        case refine_3 => rfl
        case refine_4 => rfl
        simp only [Act.put, List.setIfInBounds_toArray, List.set_cons_zero, List.set_cons_succ]
        refine take_skipL (i := 5) (d := 23) (oi := ?_) ?_ hsel (by kernel_rfl) (by kernel_rfl) (fun _ _ _ h => h) ?_ ?_ (by assumption) ?_
        case refine_2 => (simp only [List.getElem?_cons_succ, List.getElem?_cons_zero]; rfl)
        case refine_3 => rfl
        case refine_4 => rfl
        simp only [Act.put, List.setIfInBounds_toArray, List.set_cons_zero, List.set_cons_succ]
        refine take_skipL (i := 6) (d := 24) (oi := ?_) ?_ hsel (by kernel_rfl) (by kernel_rfl) (fun _ _ _ h => h) ?_ ?_ (by assumption) ?_
        case refine_2 => (simp only [List.getElem?_cons_succ, List.getElem?_cons_zero]; rfl)
        case refine_3 => rfl
        case refine_4 => rfl
        simp only [Act.put, List.setIfInBounds_toArray, List.set_cons_zero, List.set_cons_succ]
        refine take_skipL (i := 7) (d := 25) (oi := ?_) ?_ hsel (by kernel_rfl) (by kernel_rfl) (fun _ _ _ h => h) ?_ ?_ (by assumption) ?_
        case refine_2 => (simp only [List.getElem?_cons_succ, List.getElem?_cons_zero]; rfl)
        case refine_3 => rfl
        case refine_4 => rfl
        simp only [Act.put, List.setIfInBounds_toArray, List.set_cons_zero, List.set_cons_succ]
        refine take_skipL (i := 8) (d := 26) (oi := ?_) ?_ hsel (by kernel_rfl) (by kernel_rfl) (fun _ _ _ h => h) ?_ ?_ (by assumption) ?_
        case refine_2 => (simp only [List.getElem?_cons_succ, List.getElem?_cons_zero]; rfl)
        case refine_3 => rfl
        case refine_4 => rfl
        simp only [Act.put, List.setIfInBounds_toArray, List.set_cons_zero, List.set_cons_succ]
        refine oneA 9 27 hsel (h := ?_)
        simp only [Act.put, List.setIfInBounds_toArray, List.set_cons_zero, List.set_cons_succ]
        refine oneA 10 28 hsel (h := ?_)
        simp only [Act.put, List.setIfInBounds_toArray, List.set_cons_zero, List.set_cons_succ]
        refine take_skipL (i := 11) (d := 29) (oi := ?_) ?_ hsel (by kernel_rfl) (by kernel_rfl) (fun _ _ _ h => h) ?_ ?_ (by assumption) ?_
        case refine_2 => (simp only [List.getElem?_cons_succ, List.getElem?_cons_zero]; rfl)
        case refine_3 => rfl
        case refine_4 => rfl
        simp only [Act.put, List.setIfInBounds_toArray, List.set_cons_zero, List.set_cons_succ]
        refine take_skipL (i := 12) (d := 30) (oi := ?_) ?_ hsel (by kernel_rfl) (by kernel_rfl) (fun _ _ _ h => h) ?_ ?_ (by assumption) ?_
        case refine_2 => (simp only [List.getElem?_cons_succ, List.getElem?_cons_zero]; rfl)
        case refine_3 => rfl
        case refine_4 => rfl
        simp only [Act.put, List.setIfInBounds_toArray, List.set_cons_zero, List.set_cons_succ]
        refine take_skipL (i := 13) (d := 31) (oi := ?_) ?_ hsel (by kernel_rfl) (by kernel_rfl) (fun _ _ _ h => h) ?_ ?_ (by assumption) ?_
        case refine_2 => (simp only [List.getElem?_cons_succ, List.getElem?_cons_zero]; rfl)
        case refine_3 => rfl
        case refine_4 => rfl
        simp only [Act.put, List.setIfInBounds_toArray, List.set_cons_zero, List.set_cons_succ]
        refine take_skipL (i := 14) (d := 32) (oi := ?_) ?_ hsel (by kernel_rfl) (by kernel_rfl) (fun _ _ _ h => h) ?_ ?_ (by assumption) ?_
        case refine_2 => (simp only [List.getElem?_cons_succ, List.getElem?_cons_zero]; rfl)
        case refine_3 => rfl
        case refine_4 => rfl
        simp only [Act.put, List.setIfInBounds_toArray, List.set_cons_zero, List.set_cons_succ]
        refine take_skipL (i := 15) (d := 33) (oi := ?_) ?_ hsel (by kernel_rfl) (by kernel_rfl) (fun _ _ _ h => h) ?_ ?_ (by assumption) ?_
        case refine_2 => (simp only [List.getElem?_cons_succ, List.getElem?_cons_zero]; rfl)
        case refine_3 => rfl
        case refine_4 => rfl
        simp only [Act.put, List.setIfInBounds_toArray, List.set_cons_zero, List.set_cons_succ]
        refine take_skipL (i := 16) (d := 34) (oi := ?_) ?_ hsel (by kernel_rfl) (by kernel_rfl) (fun _ _ _ h => h) ?_ ?_ (by assumption) ?_
        case refine_2 => (simp only [List.getElem?_cons_succ, List.getElem?_cons_zero]; rfl)
        case refine_3 => rfl
        case refine_4 => rfl
        simp only [Act.put, List.setIfInBounds_toArray, List.set_cons_zero, List.set_cons_succ]
        refine take_skipL (i := 17) (d := 35) (oi := ?_) ?_ hsel (by kernel_rfl) (by kernel_rfl) (fun _ _ _ h => h) ?_ ?_ (by assumption) ?_
        case refine_2 => (simp only [List.getElem?_cons_succ, List.getElem?_cons_zero]; rfl)
        case refine_3 => rfl
        case refine_4 => rfl
        simp only [Act.put, List.setIfInBounds_toArray, List.set_cons_zero, List.set_cons_succ]
        refine oneA 18 36 hsel (h := ?_)
        simp only [Act.put, List.setIfInBounds_toArray, List.set_cons_zero, List.set_cons_succ]
        refine oneA 19 2 hsel (h := ?_)
        simp only [Act.put, List.setIfInBounds_toArray, List.set_cons_zero, List.set_cons_succ]
        refine wpAnyL_done (by kernel_rfl) (by kernel_rfl) ?_ _
        clear hsel hHeld
        go_wp2
        go_ret
        exact ⟨rfl, HO.out⟩
    · skip
      have h4b : (ph == 1) = false := by rw [beq_eq_false_iff_ne]; omega
      have h4n : (ph != 1) = true := by rw [bne_iff_ne]; omega
      rw [show phM g ph t n = false from decide_eq_false (by unfold phP; omega)]
      have HI : Hid (Blk (w.alloc (.cells #[.int .i64 g, .int .i64 ph, .int .i64 t, .int .i64 x, .int .i64 r, .int .i64 p, .int .i64 l, .slice A n c] 36)) w.heap.size 36 [.int .i64 g, .int .i64 ph, .int .i64 t, .int .i64 x, .int .i64 r, .int .i64 p, .int .i64 l, .slice A n c]) := Lib.hid (Blk.new w 36 [.int .i64 g, .int .i64 ph, .int .i64 t, .int .i64 x, .int .i64 r, .int .i64 p, .int .i64 l, .slice A n c])
      have HO : Hid (Only (w.heap.size ≤ ·) w (w.alloc (.cells #[.int .i64 g, .int .i64 ph, .int .i64 t, .int .i64 x, .int .i64 r, .int .i64 p, .int .i64 l, .slice A n c] 36))) := Lib.hid ((Only.refl _ w).alloc (fun _ h => h) _)
      go_enter Tryd.func57, Tryd.ntmps57
      go_wp2
      go_ret
      exact ⟨rfl, HO.out⟩

set_option maxRecDepth 100000 in
set_option maxHeartbeats 12800000 in
theorem MRight_c (hG : Gens w) : Calls Tryd.prog 37 #[.agg #[.int .i64 g, .int .i64 ph, .int .i64 t, .int .i64 x, .int .i64 r, .int .i64 p, .int .i64 l, .slice A n c]] w (Told w (.bool (okM g ph t x r p l n))) := by
  by_cases h1 : 1 ≤ g ∧ g ≤ 3
  · skip
    have HGC : Hid (∀ W, Calls Tryd.prog 56 #[.int .i64 g] W fun e w' => e = .returned (.bool true) ∧ W = w') := Lib.hid fun W => by have h := Gen_c W g; rwa [show gen g = true from decide_eq_true (by omega)] at h
    by_cases hph : phP g ph t n
    · skip
      have HPV : phM g ph t n = true := decide_eq_true hph
      have HPC : Hid (∀ W, Only (w.heap.size ≤ ·) w W → Calls Tryd.prog 57 #[.agg #[.int .i64 g, .int .i64 ph, .int .i64 t, .int .i64 x, .int .i64 r, .int .i64 p, .int .i64 l, .slice A n c]] W (Told W (.bool true))) := Lib.hid fun W hW => by have h := Mphased_c W g ph t x r p l A n c (hG.later hW); rwa [HPV] at h
      by_cases h2 : 1 ≤ x
      · skip
        have h2d : decide (1 ≤ x) = true := decide_eq_true h2
        by_cases h3 : x ≤ 2147483647
        · skip
          have h3d : decide (x ≤ 2147483647) = true := decide_eq_true h3
          by_cases h4 : p ≤ 16384
          · skip
            have h4d : decide (p ≤ 16384) = true := decide_eq_true h4
            by_cases h5 : 2 ≤ r ∧ r < p
            · skip
              have HRP : Hid (∀ W, Only (w.heap.size ≤ ·) w W → Calls Tryd.prog 58 #[.agg #[.int .i64 g, .int .i64 ph, .int .i64 t, .int .i64 x, .int .i64 r, .int .i64 p, .int .i64 l, .slice A n c], .int .i64 r] W (Told W (.bool true))) := Lib.hid fun W _ => by have h := MisPage_c W g ph t x r p l A n c r; rwa [show iP p r = true from decide_eq_true (by omega)] at h
              by_cases h6 : l = 0
              · skip
                subst h6
                rw [show okM g ph t x r p 0 n = true from decide_eq_true (by unfold okP; first | omega | (intro hk; first | exact hph.elim hk.2.1 | omega) | exact ⟨by omega, hph, by omega⟩)]
                clear hG
                have HI : Hid (Blk (w.alloc (.cells #[.int .i64 g, .int .i64 ph, .int .i64 t, .int .i64 x, .int .i64 r, .int .i64 p, .int .i64 0, .slice A n c] 36)) w.heap.size 36 [.int .i64 g, .int .i64 ph, .int .i64 t, .int .i64 x, .int .i64 r, .int .i64 p, .int .i64 0, .slice A n c]) := Lib.hid (Blk.new w 36 [.int .i64 g, .int .i64 ph, .int .i64 t, .int .i64 x, .int .i64 r, .int .i64 p, .int .i64 0, .slice A n c])
                have HO : Hid (Only (w.heap.size ≤ ·) w (w.alloc (.cells #[.int .i64 g, .int .i64 ph, .int .i64 t, .int .i64 x, .int .i64 r, .int .i64 p, .int .i64 0, .slice A n c] 36))) := Lib.hid ((Only.refl _ w).alloc (fun _ h => h) _)
                go_enter Tryd.func37, Tryd.ntmps37
                go_wp2_with (first
                  | (go_at_call 56; (with_reducible refine (HGC.out _).mono ?_); rintro ee w2 ⟨rfl, rfl⟩; try (obtain ⟨i0, i1, i2, i3, i4, i5, i6, i7⟩ := HI.out.eight))
                  | (go_at_call 57; (with_reducible refine (HPC.out _ HO.out).mono ?_); rintro ee w2 ⟨rfl, ho⟩; (replace HI := Lib.hid (HI.out.later ho)); (replace HO := Lib.hid (on_new HO.out ho)); clear ho; try clear i0 i1 i2 i3 i4 i5 i6 i7; (obtain ⟨i0, i1, i2, i3, i4, i5, i6, i7⟩ := HI.out.eight))
                  | (go_at_call 58; (with_reducible refine (HRP.out _ HO.out).mono ?_); rintro ee w2 ⟨rfl, ho⟩; (replace HI := Lib.hid (HI.out.later ho)); (replace HO := Lib.hid (on_new HO.out ho)); clear ho; try clear i0 i1 i2 i3 i4 i5 i6 i7; (obtain ⟨i0, i1, i2, i3, i4, i5, i6, i7⟩ := HI.out.eight)))
                go_ret
                exact ⟨rfl, HO.out⟩
              · skip
                have h6b : (l == 0) = false := by rw [beq_eq_false_iff_ne]; omega
                have h6n : (l != 0) = true := by rw [bne_iff_ne]; omega
                by_cases h7 : 2 ≤ l ∧ l < p
                · skip
                  have HLP : Hid (∀ W, Only (w.heap.size ≤ ·) w W → Calls Tryd.prog 58 #[.agg #[.int .i64 g, .int .i64 ph, .int .i64 t, .int .i64 x, .int .i64 r, .int .i64 p, .int .i64 l, .slice A n c], .int .i64 l] W (Told W (.bool true))) := Lib.hid fun W _ => by have h := MisPage_c W g ph t x r p l A n c l; rwa [show iP p l = true from decide_eq_true (by omega)] at h
                  rw [show okM g ph t x r p l n = true from decide_eq_true (by unfold okP; first | omega | (intro hk; first | exact hph.elim hk.2.1 | omega) | exact ⟨by omega, hph, by omega⟩)]
                  clear hG
                  have HI : Hid (Blk (w.alloc (.cells #[.int .i64 g, .int .i64 ph, .int .i64 t, .int .i64 x, .int .i64 r, .int .i64 p, .int .i64 l, .slice A n c] 36)) w.heap.size 36 [.int .i64 g, .int .i64 ph, .int .i64 t, .int .i64 x, .int .i64 r, .int .i64 p, .int .i64 l, .slice A n c]) := Lib.hid (Blk.new w 36 [.int .i64 g, .int .i64 ph, .int .i64 t, .int .i64 x, .int .i64 r, .int .i64 p, .int .i64 l, .slice A n c])
                  have HO : Hid (Only (w.heap.size ≤ ·) w (w.alloc (.cells #[.int .i64 g, .int .i64 ph, .int .i64 t, .int .i64 x, .int .i64 r, .int .i64 p, .int .i64 l, .slice A n c] 36))) := Lib.hid ((Only.refl _ w).alloc (fun _ h => h) _)
                  go_enter Tryd.func37, Tryd.ntmps37
                  go_wp2_with (first
                    | (go_at_call 56; (with_reducible refine (HGC.out _).mono ?_); rintro ee w2 ⟨rfl, rfl⟩; try (obtain ⟨i0, i1, i2, i3, i4, i5, i6, i7⟩ := HI.out.eight))
                    | (go_at_call 57; (with_reducible refine (HPC.out _ HO.out).mono ?_); rintro ee w2 ⟨rfl, ho⟩; (replace HI := Lib.hid (HI.out.later ho)); (replace HO := Lib.hid (on_new HO.out ho)); clear ho; try clear i0 i1 i2 i3 i4 i5 i6 i7; (obtain ⟨i0, i1, i2, i3, i4, i5, i6, i7⟩ := HI.out.eight))
                    | (go_at_call 58; (with_reducible refine (HRP.out _ HO.out).mono ?_); rintro ee w2 ⟨rfl, ho⟩; (replace HI := Lib.hid (HI.out.later ho)); (replace HO := Lib.hid (on_new HO.out ho)); clear ho; try clear i0 i1 i2 i3 i4 i5 i6 i7; (obtain ⟨i0, i1, i2, i3, i4, i5, i6, i7⟩ := HI.out.eight))
                    | (go_at_call 58; (with_reducible refine (HLP.out _ HO.out).mono ?_); rintro ee w2 ⟨rfl, ho⟩; (replace HI := Lib.hid (HI.out.later ho)); (replace HO := Lib.hid (on_new HO.out ho)); clear ho; try clear i0 i1 i2 i3 i4 i5 i6 i7; (obtain ⟨i0, i1, i2, i3, i4, i5, i6, i7⟩ := HI.out.eight)))
                  go_ret
                  exact ⟨rfl, HO.out⟩
                · skip
                  have HLP : Hid (∀ W, Only (w.heap.size ≤ ·) w W → Calls Tryd.prog 58 #[.agg #[.int .i64 g, .int .i64 ph, .int .i64 t, .int .i64 x, .int .i64 r, .int .i64 p, .int .i64 l, .slice A n c], .int .i64 l] W (Told W (.bool false))) := Lib.hid fun W _ => by have h := MisPage_c W g ph t x r p l A n c l; rwa [show iP p l = false from decide_eq_false (by omega)] at h
                  rw [show okM g ph t x r p l n = false from decide_eq_false (by unfold okP; first | omega | (intro hk; first | exact hph.elim hk.2.1 | omega) | exact ⟨by omega, hph, by omega⟩)]
                  clear hG
                  have HI : Hid (Blk (w.alloc (.cells #[.int .i64 g, .int .i64 ph, .int .i64 t, .int .i64 x, .int .i64 r, .int .i64 p, .int .i64 l, .slice A n c] 36)) w.heap.size 36 [.int .i64 g, .int .i64 ph, .int .i64 t, .int .i64 x, .int .i64 r, .int .i64 p, .int .i64 l, .slice A n c]) := Lib.hid (Blk.new w 36 [.int .i64 g, .int .i64 ph, .int .i64 t, .int .i64 x, .int .i64 r, .int .i64 p, .int .i64 l, .slice A n c])
                  have HO : Hid (Only (w.heap.size ≤ ·) w (w.alloc (.cells #[.int .i64 g, .int .i64 ph, .int .i64 t, .int .i64 x, .int .i64 r, .int .i64 p, .int .i64 l, .slice A n c] 36))) := Lib.hid ((Only.refl _ w).alloc (fun _ h => h) _)
                  go_enter Tryd.func37, Tryd.ntmps37
                  go_wp2_with (first
                    | (go_at_call 56; (with_reducible refine (HGC.out _).mono ?_); rintro ee w2 ⟨rfl, rfl⟩; try (obtain ⟨i0, i1, i2, i3, i4, i5, i6, i7⟩ := HI.out.eight))
                    | (go_at_call 57; (with_reducible refine (HPC.out _ HO.out).mono ?_); rintro ee w2 ⟨rfl, ho⟩; (replace HI := Lib.hid (HI.out.later ho)); (replace HO := Lib.hid (on_new HO.out ho)); clear ho; try clear i0 i1 i2 i3 i4 i5 i6 i7; (obtain ⟨i0, i1, i2, i3, i4, i5, i6, i7⟩ := HI.out.eight))
                    | (go_at_call 58; (with_reducible refine (HRP.out _ HO.out).mono ?_); rintro ee w2 ⟨rfl, ho⟩; (replace HI := Lib.hid (HI.out.later ho)); (replace HO := Lib.hid (on_new HO.out ho)); clear ho; try clear i0 i1 i2 i3 i4 i5 i6 i7; (obtain ⟨i0, i1, i2, i3, i4, i5, i6, i7⟩ := HI.out.eight))
                    | (go_at_call 58; (with_reducible refine (HLP.out _ HO.out).mono ?_); rintro ee w2 ⟨rfl, ho⟩; (replace HI := Lib.hid (HI.out.later ho)); (replace HO := Lib.hid (on_new HO.out ho)); clear ho; try clear i0 i1 i2 i3 i4 i5 i6 i7; (obtain ⟨i0, i1, i2, i3, i4, i5, i6, i7⟩ := HI.out.eight)))
                  go_ret
                  exact ⟨rfl, HO.out⟩
            · skip
              have HRP : Hid (∀ W, Only (w.heap.size ≤ ·) w W → Calls Tryd.prog 58 #[.agg #[.int .i64 g, .int .i64 ph, .int .i64 t, .int .i64 x, .int .i64 r, .int .i64 p, .int .i64 l, .slice A n c], .int .i64 r] W (Told W (.bool false))) := Lib.hid fun W _ => by have h := MisPage_c W g ph t x r p l A n c r; rwa [show iP p r = false from decide_eq_false (by omega)] at h
              rw [show okM g ph t x r p l n = false from decide_eq_false (by unfold okP; first | omega | (intro hk; first | exact hph.elim hk.2.1 | omega) | exact ⟨by omega, hph, by omega⟩)]
              clear hG
              have HI : Hid (Blk (w.alloc (.cells #[.int .i64 g, .int .i64 ph, .int .i64 t, .int .i64 x, .int .i64 r, .int .i64 p, .int .i64 l, .slice A n c] 36)) w.heap.size 36 [.int .i64 g, .int .i64 ph, .int .i64 t, .int .i64 x, .int .i64 r, .int .i64 p, .int .i64 l, .slice A n c]) := Lib.hid (Blk.new w 36 [.int .i64 g, .int .i64 ph, .int .i64 t, .int .i64 x, .int .i64 r, .int .i64 p, .int .i64 l, .slice A n c])
              have HO : Hid (Only (w.heap.size ≤ ·) w (w.alloc (.cells #[.int .i64 g, .int .i64 ph, .int .i64 t, .int .i64 x, .int .i64 r, .int .i64 p, .int .i64 l, .slice A n c] 36))) := Lib.hid ((Only.refl _ w).alloc (fun _ h => h) _)
              go_enter Tryd.func37, Tryd.ntmps37
              go_wp2_with (first
                | (go_at_call 56; (with_reducible refine (HGC.out _).mono ?_); rintro ee w2 ⟨rfl, rfl⟩; try (obtain ⟨i0, i1, i2, i3, i4, i5, i6, i7⟩ := HI.out.eight))
                | (go_at_call 57; (with_reducible refine (HPC.out _ HO.out).mono ?_); rintro ee w2 ⟨rfl, ho⟩; (replace HI := Lib.hid (HI.out.later ho)); (replace HO := Lib.hid (on_new HO.out ho)); clear ho; try clear i0 i1 i2 i3 i4 i5 i6 i7; (obtain ⟨i0, i1, i2, i3, i4, i5, i6, i7⟩ := HI.out.eight))
                | (go_at_call 58; (with_reducible refine (HRP.out _ HO.out).mono ?_); rintro ee w2 ⟨rfl, ho⟩; (replace HI := Lib.hid (HI.out.later ho)); (replace HO := Lib.hid (on_new HO.out ho)); clear ho; try clear i0 i1 i2 i3 i4 i5 i6 i7; (obtain ⟨i0, i1, i2, i3, i4, i5, i6, i7⟩ := HI.out.eight)))
              go_ret
              exact ⟨rfl, HO.out⟩
          · skip
            have h4d : decide (p ≤ 16384) = false := decide_eq_false h4
            have HRP : Hid (∀ W, Only (w.heap.size ≤ ·) w W → Calls Tryd.prog 58 #[.agg #[.int .i64 g, .int .i64 ph, .int .i64 t, .int .i64 x, .int .i64 r, .int .i64 p, .int .i64 l, .slice A n c], .int .i64 r] W (Told W (.bool (iP p r)))) := Lib.hid fun W _ => by have h := MisPage_c W g ph t x r p l A n c r; exact h
            rw [show okM g ph t x r p l n = false from decide_eq_false (by unfold okP; first | omega | (intro hk; first | exact hph.elim hk.2.1 | omega) | exact ⟨by omega, hph, by omega⟩)]
            clear hG
            have HI : Hid (Blk (w.alloc (.cells #[.int .i64 g, .int .i64 ph, .int .i64 t, .int .i64 x, .int .i64 r, .int .i64 p, .int .i64 l, .slice A n c] 36)) w.heap.size 36 [.int .i64 g, .int .i64 ph, .int .i64 t, .int .i64 x, .int .i64 r, .int .i64 p, .int .i64 l, .slice A n c]) := Lib.hid (Blk.new w 36 [.int .i64 g, .int .i64 ph, .int .i64 t, .int .i64 x, .int .i64 r, .int .i64 p, .int .i64 l, .slice A n c])
            have HO : Hid (Only (w.heap.size ≤ ·) w (w.alloc (.cells #[.int .i64 g, .int .i64 ph, .int .i64 t, .int .i64 x, .int .i64 r, .int .i64 p, .int .i64 l, .slice A n c] 36))) := Lib.hid ((Only.refl _ w).alloc (fun _ h => h) _)
            go_enter Tryd.func37, Tryd.ntmps37
            go_wp2_with (first
              | (go_at_call 56; (with_reducible refine (HGC.out _).mono ?_); rintro ee w2 ⟨rfl, rfl⟩; try (obtain ⟨i0, i1, i2, i3, i4, i5, i6, i7⟩ := HI.out.eight))
              | (go_at_call 57; (with_reducible refine (HPC.out _ HO.out).mono ?_); rintro ee w2 ⟨rfl, ho⟩; (replace HI := Lib.hid (HI.out.later ho)); (replace HO := Lib.hid (on_new HO.out ho)); clear ho; try clear i0 i1 i2 i3 i4 i5 i6 i7; (obtain ⟨i0, i1, i2, i3, i4, i5, i6, i7⟩ := HI.out.eight))
              | (go_at_call 58; (with_reducible refine (HRP.out _ HO.out).mono ?_); rintro ee w2 ⟨rfl, ho⟩; (replace HI := Lib.hid (HI.out.later ho)); (replace HO := Lib.hid (on_new HO.out ho)); clear ho; try clear i0 i1 i2 i3 i4 i5 i6 i7; (obtain ⟨i0, i1, i2, i3, i4, i5, i6, i7⟩ := HI.out.eight)))
            go_ret
            exact ⟨rfl, HO.out⟩
        · skip
          have h3d : decide (x ≤ 2147483647) = false := decide_eq_false h3
          have HRP : Hid (∀ W, Only (w.heap.size ≤ ·) w W → Calls Tryd.prog 58 #[.agg #[.int .i64 g, .int .i64 ph, .int .i64 t, .int .i64 x, .int .i64 r, .int .i64 p, .int .i64 l, .slice A n c], .int .i64 r] W (Told W (.bool (iP p r)))) := Lib.hid fun W _ => by have h := MisPage_c W g ph t x r p l A n c r; exact h
          rw [show okM g ph t x r p l n = false from decide_eq_false (by unfold okP; first | omega | (intro hk; first | exact hph.elim hk.2.1 | omega) | exact ⟨by omega, hph, by omega⟩)]
          clear hG
          have HI : Hid (Blk (w.alloc (.cells #[.int .i64 g, .int .i64 ph, .int .i64 t, .int .i64 x, .int .i64 r, .int .i64 p, .int .i64 l, .slice A n c] 36)) w.heap.size 36 [.int .i64 g, .int .i64 ph, .int .i64 t, .int .i64 x, .int .i64 r, .int .i64 p, .int .i64 l, .slice A n c]) := Lib.hid (Blk.new w 36 [.int .i64 g, .int .i64 ph, .int .i64 t, .int .i64 x, .int .i64 r, .int .i64 p, .int .i64 l, .slice A n c])
          have HO : Hid (Only (w.heap.size ≤ ·) w (w.alloc (.cells #[.int .i64 g, .int .i64 ph, .int .i64 t, .int .i64 x, .int .i64 r, .int .i64 p, .int .i64 l, .slice A n c] 36))) := Lib.hid ((Only.refl _ w).alloc (fun _ h => h) _)
          go_enter Tryd.func37, Tryd.ntmps37
          go_wp2_with (first
            | (go_at_call 56; (with_reducible refine (HGC.out _).mono ?_); rintro ee w2 ⟨rfl, rfl⟩; try (obtain ⟨i0, i1, i2, i3, i4, i5, i6, i7⟩ := HI.out.eight))
            | (go_at_call 57; (with_reducible refine (HPC.out _ HO.out).mono ?_); rintro ee w2 ⟨rfl, ho⟩; (replace HI := Lib.hid (HI.out.later ho)); (replace HO := Lib.hid (on_new HO.out ho)); clear ho; try clear i0 i1 i2 i3 i4 i5 i6 i7; (obtain ⟨i0, i1, i2, i3, i4, i5, i6, i7⟩ := HI.out.eight))
            | (go_at_call 58; (with_reducible refine (HRP.out _ HO.out).mono ?_); rintro ee w2 ⟨rfl, ho⟩; (replace HI := Lib.hid (HI.out.later ho)); (replace HO := Lib.hid (on_new HO.out ho)); clear ho; try clear i0 i1 i2 i3 i4 i5 i6 i7; (obtain ⟨i0, i1, i2, i3, i4, i5, i6, i7⟩ := HI.out.eight)))
          go_ret
          exact ⟨rfl, HO.out⟩
      · skip
        have h2d : decide (1 ≤ x) = false := decide_eq_false h2
        have HRP : Hid (∀ W, Only (w.heap.size ≤ ·) w W → Calls Tryd.prog 58 #[.agg #[.int .i64 g, .int .i64 ph, .int .i64 t, .int .i64 x, .int .i64 r, .int .i64 p, .int .i64 l, .slice A n c], .int .i64 r] W (Told W (.bool (iP p r)))) := Lib.hid fun W _ => by have h := MisPage_c W g ph t x r p l A n c r; exact h
        rw [show okM g ph t x r p l n = false from decide_eq_false (by unfold okP; first | omega | (intro hk; first | exact hph.elim hk.2.1 | omega) | exact ⟨by omega, hph, by omega⟩)]
        clear hG
        have HI : Hid (Blk (w.alloc (.cells #[.int .i64 g, .int .i64 ph, .int .i64 t, .int .i64 x, .int .i64 r, .int .i64 p, .int .i64 l, .slice A n c] 36)) w.heap.size 36 [.int .i64 g, .int .i64 ph, .int .i64 t, .int .i64 x, .int .i64 r, .int .i64 p, .int .i64 l, .slice A n c]) := Lib.hid (Blk.new w 36 [.int .i64 g, .int .i64 ph, .int .i64 t, .int .i64 x, .int .i64 r, .int .i64 p, .int .i64 l, .slice A n c])
        have HO : Hid (Only (w.heap.size ≤ ·) w (w.alloc (.cells #[.int .i64 g, .int .i64 ph, .int .i64 t, .int .i64 x, .int .i64 r, .int .i64 p, .int .i64 l, .slice A n c] 36))) := Lib.hid ((Only.refl _ w).alloc (fun _ h => h) _)
        go_enter Tryd.func37, Tryd.ntmps37
        go_wp2_with (first
          | (go_at_call 56; (with_reducible refine (HGC.out _).mono ?_); rintro ee w2 ⟨rfl, rfl⟩; try (obtain ⟨i0, i1, i2, i3, i4, i5, i6, i7⟩ := HI.out.eight))
          | (go_at_call 57; (with_reducible refine (HPC.out _ HO.out).mono ?_); rintro ee w2 ⟨rfl, ho⟩; (replace HI := Lib.hid (HI.out.later ho)); (replace HO := Lib.hid (on_new HO.out ho)); clear ho; try clear i0 i1 i2 i3 i4 i5 i6 i7; (obtain ⟨i0, i1, i2, i3, i4, i5, i6, i7⟩ := HI.out.eight))
          | (go_at_call 58; (with_reducible refine (HRP.out _ HO.out).mono ?_); rintro ee w2 ⟨rfl, ho⟩; (replace HI := Lib.hid (HI.out.later ho)); (replace HO := Lib.hid (on_new HO.out ho)); clear ho; try clear i0 i1 i2 i3 i4 i5 i6 i7; (obtain ⟨i0, i1, i2, i3, i4, i5, i6, i7⟩ := HI.out.eight)))
        go_ret
        exact ⟨rfl, HO.out⟩
    · skip
      have HPV : phM g ph t n = false := decide_eq_false hph
      have HPC : Hid (∀ W, Only (w.heap.size ≤ ·) w W → Calls Tryd.prog 57 #[.agg #[.int .i64 g, .int .i64 ph, .int .i64 t, .int .i64 x, .int .i64 r, .int .i64 p, .int .i64 l, .slice A n c]] W (Told W (.bool false))) := Lib.hid fun W hW => by have h := Mphased_c W g ph t x r p l A n c (hG.later hW); rwa [HPV] at h
      have HRP : Hid (∀ W, Only (w.heap.size ≤ ·) w W → Calls Tryd.prog 58 #[.agg #[.int .i64 g, .int .i64 ph, .int .i64 t, .int .i64 x, .int .i64 r, .int .i64 p, .int .i64 l, .slice A n c], .int .i64 r] W (Told W (.bool (iP p r)))) := Lib.hid fun W _ => by have h := MisPage_c W g ph t x r p l A n c r; exact h
      rw [show okM g ph t x r p l n = false from decide_eq_false (by unfold okP; first | omega | (intro hk; first | exact hph.elim hk.2.1 | omega) | exact ⟨by omega, hph, by omega⟩)]
      clear hG
      have HI : Hid (Blk (w.alloc (.cells #[.int .i64 g, .int .i64 ph, .int .i64 t, .int .i64 x, .int .i64 r, .int .i64 p, .int .i64 l, .slice A n c] 36)) w.heap.size 36 [.int .i64 g, .int .i64 ph, .int .i64 t, .int .i64 x, .int .i64 r, .int .i64 p, .int .i64 l, .slice A n c]) := Lib.hid (Blk.new w 36 [.int .i64 g, .int .i64 ph, .int .i64 t, .int .i64 x, .int .i64 r, .int .i64 p, .int .i64 l, .slice A n c])
      have HO : Hid (Only (w.heap.size ≤ ·) w (w.alloc (.cells #[.int .i64 g, .int .i64 ph, .int .i64 t, .int .i64 x, .int .i64 r, .int .i64 p, .int .i64 l, .slice A n c] 36))) := Lib.hid ((Only.refl _ w).alloc (fun _ h => h) _)
      go_enter Tryd.func37, Tryd.ntmps37
      go_wp2_with (first
        | (go_at_call 56; (with_reducible refine (HGC.out _).mono ?_); rintro ee w2 ⟨rfl, rfl⟩; try (obtain ⟨i0, i1, i2, i3, i4, i5, i6, i7⟩ := HI.out.eight))
        | (go_at_call 57; (with_reducible refine (HPC.out _ HO.out).mono ?_); rintro ee w2 ⟨rfl, ho⟩; (replace HI := Lib.hid (HI.out.later ho)); (replace HO := Lib.hid (on_new HO.out ho)); clear ho; try clear i0 i1 i2 i3 i4 i5 i6 i7; (obtain ⟨i0, i1, i2, i3, i4, i5, i6, i7⟩ := HI.out.eight))
        | (go_at_call 58; (with_reducible refine (HRP.out _ HO.out).mono ?_); rintro ee w2 ⟨rfl, ho⟩; (replace HI := Lib.hid (HI.out.later ho)); (replace HO := Lib.hid (on_new HO.out ho)); clear ho; try clear i0 i1 i2 i3 i4 i5 i6 i7; (obtain ⟨i0, i1, i2, i3, i4, i5, i6, i7⟩ := HI.out.eight)))
      go_ret
      exact ⟨rfl, HO.out⟩
  · skip
    have HGC : Hid (∀ W, Calls Tryd.prog 56 #[.int .i64 g] W fun e w' => e = .returned (.bool false) ∧ W = w') := Lib.hid fun W => by have h := Gen_c W g; rwa [show gen g = false from decide_eq_false (by omega)] at h
    by_cases hph : phP g ph t n
    · skip
      have HPV : phM g ph t n = true := decide_eq_true hph
      have HPC : Hid (∀ W, Only (w.heap.size ≤ ·) w W → Calls Tryd.prog 57 #[.agg #[.int .i64 g, .int .i64 ph, .int .i64 t, .int .i64 x, .int .i64 r, .int .i64 p, .int .i64 l, .slice A n c]] W (Told W (.bool true))) := Lib.hid fun W hW => by have h := Mphased_c W g ph t x r p l A n c (hG.later hW); rwa [HPV] at h
      have HRP : Hid (∀ W, Only (w.heap.size ≤ ·) w W → Calls Tryd.prog 58 #[.agg #[.int .i64 g, .int .i64 ph, .int .i64 t, .int .i64 x, .int .i64 r, .int .i64 p, .int .i64 l, .slice A n c], .int .i64 r] W (Told W (.bool (iP p r)))) := Lib.hid fun W _ => by have h := MisPage_c W g ph t x r p l A n c r; exact h
      rw [show okM g ph t x r p l n = false from decide_eq_false (by unfold okP; first | omega | (intro hk; first | exact hph.elim hk.2.1 | omega) | exact ⟨by omega, hph, by omega⟩)]
      clear hG
      have HI : Hid (Blk (w.alloc (.cells #[.int .i64 g, .int .i64 ph, .int .i64 t, .int .i64 x, .int .i64 r, .int .i64 p, .int .i64 l, .slice A n c] 36)) w.heap.size 36 [.int .i64 g, .int .i64 ph, .int .i64 t, .int .i64 x, .int .i64 r, .int .i64 p, .int .i64 l, .slice A n c]) := Lib.hid (Blk.new w 36 [.int .i64 g, .int .i64 ph, .int .i64 t, .int .i64 x, .int .i64 r, .int .i64 p, .int .i64 l, .slice A n c])
      have HO : Hid (Only (w.heap.size ≤ ·) w (w.alloc (.cells #[.int .i64 g, .int .i64 ph, .int .i64 t, .int .i64 x, .int .i64 r, .int .i64 p, .int .i64 l, .slice A n c] 36))) := Lib.hid ((Only.refl _ w).alloc (fun _ h => h) _)
      go_enter Tryd.func37, Tryd.ntmps37
      go_wp2_with (first
        | (go_at_call 56; (with_reducible refine (HGC.out _).mono ?_); rintro ee w2 ⟨rfl, rfl⟩; try (obtain ⟨i0, i1, i2, i3, i4, i5, i6, i7⟩ := HI.out.eight))
        | (go_at_call 57; (with_reducible refine (HPC.out _ HO.out).mono ?_); rintro ee w2 ⟨rfl, ho⟩; (replace HI := Lib.hid (HI.out.later ho)); (replace HO := Lib.hid (on_new HO.out ho)); clear ho; try clear i0 i1 i2 i3 i4 i5 i6 i7; (obtain ⟨i0, i1, i2, i3, i4, i5, i6, i7⟩ := HI.out.eight))
        | (go_at_call 58; (with_reducible refine (HRP.out _ HO.out).mono ?_); rintro ee w2 ⟨rfl, ho⟩; (replace HI := Lib.hid (HI.out.later ho)); (replace HO := Lib.hid (on_new HO.out ho)); clear ho; try clear i0 i1 i2 i3 i4 i5 i6 i7; (obtain ⟨i0, i1, i2, i3, i4, i5, i6, i7⟩ := HI.out.eight)))
      go_ret
      exact ⟨rfl, HO.out⟩
    · skip
      have HPV : phM g ph t n = false := decide_eq_false hph
      have HPC : Hid (∀ W, Only (w.heap.size ≤ ·) w W → Calls Tryd.prog 57 #[.agg #[.int .i64 g, .int .i64 ph, .int .i64 t, .int .i64 x, .int .i64 r, .int .i64 p, .int .i64 l, .slice A n c]] W (Told W (.bool false))) := Lib.hid fun W hW => by have h := Mphased_c W g ph t x r p l A n c (hG.later hW); rwa [HPV] at h
      have HRP : Hid (∀ W, Only (w.heap.size ≤ ·) w W → Calls Tryd.prog 58 #[.agg #[.int .i64 g, .int .i64 ph, .int .i64 t, .int .i64 x, .int .i64 r, .int .i64 p, .int .i64 l, .slice A n c], .int .i64 r] W (Told W (.bool (iP p r)))) := Lib.hid fun W _ => by have h := MisPage_c W g ph t x r p l A n c r; exact h
      rw [show okM g ph t x r p l n = false from decide_eq_false (by unfold okP; first | omega | (intro hk; first | exact hph.elim hk.2.1 | omega) | exact ⟨by omega, hph, by omega⟩)]
      clear hG
      have HI : Hid (Blk (w.alloc (.cells #[.int .i64 g, .int .i64 ph, .int .i64 t, .int .i64 x, .int .i64 r, .int .i64 p, .int .i64 l, .slice A n c] 36)) w.heap.size 36 [.int .i64 g, .int .i64 ph, .int .i64 t, .int .i64 x, .int .i64 r, .int .i64 p, .int .i64 l, .slice A n c]) := Lib.hid (Blk.new w 36 [.int .i64 g, .int .i64 ph, .int .i64 t, .int .i64 x, .int .i64 r, .int .i64 p, .int .i64 l, .slice A n c])
      have HO : Hid (Only (w.heap.size ≤ ·) w (w.alloc (.cells #[.int .i64 g, .int .i64 ph, .int .i64 t, .int .i64 x, .int .i64 r, .int .i64 p, .int .i64 l, .slice A n c] 36))) := Lib.hid ((Only.refl _ w).alloc (fun _ h => h) _)
      go_enter Tryd.func37, Tryd.ntmps37
      go_wp2_with (first
        | (go_at_call 56; (with_reducible refine (HGC.out _).mono ?_); rintro ee w2 ⟨rfl, rfl⟩; try (obtain ⟨i0, i1, i2, i3, i4, i5, i6, i7⟩ := HI.out.eight))
        | (go_at_call 57; (with_reducible refine (HPC.out _ HO.out).mono ?_); rintro ee w2 ⟨rfl, ho⟩; (replace HI := Lib.hid (HI.out.later ho)); (replace HO := Lib.hid (on_new HO.out ho)); clear ho; try clear i0 i1 i2 i3 i4 i5 i6 i7; (obtain ⟨i0, i1, i2, i3, i4, i5, i6, i7⟩ := HI.out.eight))
        | (go_at_call 58; (with_reducible refine (HRP.out _ HO.out).mono ?_); rintro ee w2 ⟨rfl, ho⟩; (replace HI := Lib.hid (HI.out.later ho)); (replace HO := Lib.hid (on_new HO.out ho)); clear ho; try clear i0 i1 i2 i3 i4 i5 i6 i7; (obtain ⟨i0, i1, i2, i3, i4, i5, i6, i7⟩ := HI.out.eight)))
      go_ret
      exact ⟨rfl, HO.out⟩

set_option maxRecDepth 100000 in
set_option maxHeartbeats 12800000 in
theorem rmRight_c : Calls Tryd.prog 26 #[.agg #[.int .i64 g, .int .i64 ph, .int .i64 t, .int .i64 x, .int .i64 r, .int .i64 p, .int .i64 l, .slice A n c]] w (Told w (.bool (okM g ph t x r p l n))) := by
  by_cases h1 : g < 1
  · skip
    have h1d : decide (g < 1) = true := decide_eq_true h1
    rw [show okM g ph t x r p l n = false from decide_eq_false (by unfold okP phP; omega)]
    have HI : Hid (Blk (w.alloc (.cells #[.int .i64 g, .int .i64 ph, .int .i64 t, .int .i64 x, .int .i64 r, .int .i64 p, .int .i64 l, .slice A n c] 25)) w.heap.size 25 [.int .i64 g, .int .i64 ph, .int .i64 t, .int .i64 x, .int .i64 r, .int .i64 p, .int .i64 l, .slice A n c]) := Lib.hid (Blk.new w 25 [.int .i64 g, .int .i64 ph, .int .i64 t, .int .i64 x, .int .i64 r, .int .i64 p, .int .i64 l, .slice A n c])
    have HO : Hid (Only (w.heap.size ≤ ·) w (w.alloc (.cells #[.int .i64 g, .int .i64 ph, .int .i64 t, .int .i64 x, .int .i64 r, .int .i64 p, .int .i64 l, .slice A n c] 25))) := Lib.hid ((Only.refl _ w).alloc (fun _ h => h) _)
    go_enter Tryd.func26, Tryd.ntmps26
    go_wp2
    go_ret
    exact ⟨rfl, HO.out⟩
  · skip
    have h1d : decide (g < 1) = false := decide_eq_false h1
    by_cases h2 : 3 < g
    · skip
      have h2d : decide (3 < g) = true := decide_eq_true h2
      rw [show okM g ph t x r p l n = false from decide_eq_false (by unfold okP phP; omega)]
      have HI : Hid (Blk (w.alloc (.cells #[.int .i64 g, .int .i64 ph, .int .i64 t, .int .i64 x, .int .i64 r, .int .i64 p, .int .i64 l, .slice A n c] 25)) w.heap.size 25 [.int .i64 g, .int .i64 ph, .int .i64 t, .int .i64 x, .int .i64 r, .int .i64 p, .int .i64 l, .slice A n c]) := Lib.hid (Blk.new w 25 [.int .i64 g, .int .i64 ph, .int .i64 t, .int .i64 x, .int .i64 r, .int .i64 p, .int .i64 l, .slice A n c])
      have HO : Hid (Only (w.heap.size ≤ ·) w (w.alloc (.cells #[.int .i64 g, .int .i64 ph, .int .i64 t, .int .i64 x, .int .i64 r, .int .i64 p, .int .i64 l, .slice A n c] 25))) := Lib.hid ((Only.refl _ w).alloc (fun _ h => h) _)
      go_enter Tryd.func26, Tryd.ntmps26
      go_wp2
      go_ret
      exact ⟨rfl, HO.out⟩
    · skip
      have h2d : decide (3 < g) = false := decide_eq_false h2
      by_cases h3 : x < 1
      · skip
        have h3d : decide (x < 1) = true := decide_eq_true h3
        rw [show okM g ph t x r p l n = false from decide_eq_false (by unfold okP phP; omega)]
        have HI : Hid (Blk (w.alloc (.cells #[.int .i64 g, .int .i64 ph, .int .i64 t, .int .i64 x, .int .i64 r, .int .i64 p, .int .i64 l, .slice A n c] 25)) w.heap.size 25 [.int .i64 g, .int .i64 ph, .int .i64 t, .int .i64 x, .int .i64 r, .int .i64 p, .int .i64 l, .slice A n c]) := Lib.hid (Blk.new w 25 [.int .i64 g, .int .i64 ph, .int .i64 t, .int .i64 x, .int .i64 r, .int .i64 p, .int .i64 l, .slice A n c])
        have HO : Hid (Only (w.heap.size ≤ ·) w (w.alloc (.cells #[.int .i64 g, .int .i64 ph, .int .i64 t, .int .i64 x, .int .i64 r, .int .i64 p, .int .i64 l, .slice A n c] 25))) := Lib.hid ((Only.refl _ w).alloc (fun _ h => h) _)
        go_enter Tryd.func26, Tryd.ntmps26
        go_wp2
        go_ret
        exact ⟨rfl, HO.out⟩
      · skip
        have h3d : decide (x < 1) = false := decide_eq_false h3
        by_cases h4 : 2147483647 < x
        · skip
          have h4d : decide (2147483647 < x) = true := decide_eq_true h4
          rw [show okM g ph t x r p l n = false from decide_eq_false (by unfold okP phP; omega)]
          have HI : Hid (Blk (w.alloc (.cells #[.int .i64 g, .int .i64 ph, .int .i64 t, .int .i64 x, .int .i64 r, .int .i64 p, .int .i64 l, .slice A n c] 25)) w.heap.size 25 [.int .i64 g, .int .i64 ph, .int .i64 t, .int .i64 x, .int .i64 r, .int .i64 p, .int .i64 l, .slice A n c]) := Lib.hid (Blk.new w 25 [.int .i64 g, .int .i64 ph, .int .i64 t, .int .i64 x, .int .i64 r, .int .i64 p, .int .i64 l, .slice A n c])
          have HO : Hid (Only (w.heap.size ≤ ·) w (w.alloc (.cells #[.int .i64 g, .int .i64 ph, .int .i64 t, .int .i64 x, .int .i64 r, .int .i64 p, .int .i64 l, .slice A n c] 25))) := Lib.hid ((Only.refl _ w).alloc (fun _ h => h) _)
          go_enter Tryd.func26, Tryd.ntmps26
          go_wp2
          go_ret
          exact ⟨rfl, HO.out⟩
        · skip
          have h4d : decide (2147483647 < x) = false := decide_eq_false h4
          by_cases h5 : p < 3
          · skip
            have h5d : decide (p < 3) = true := decide_eq_true h5
            rw [show okM g ph t x r p l n = false from decide_eq_false (by unfold okP phP; omega)]
            have HI : Hid (Blk (w.alloc (.cells #[.int .i64 g, .int .i64 ph, .int .i64 t, .int .i64 x, .int .i64 r, .int .i64 p, .int .i64 l, .slice A n c] 25)) w.heap.size 25 [.int .i64 g, .int .i64 ph, .int .i64 t, .int .i64 x, .int .i64 r, .int .i64 p, .int .i64 l, .slice A n c]) := Lib.hid (Blk.new w 25 [.int .i64 g, .int .i64 ph, .int .i64 t, .int .i64 x, .int .i64 r, .int .i64 p, .int .i64 l, .slice A n c])
            have HO : Hid (Only (w.heap.size ≤ ·) w (w.alloc (.cells #[.int .i64 g, .int .i64 ph, .int .i64 t, .int .i64 x, .int .i64 r, .int .i64 p, .int .i64 l, .slice A n c] 25))) := Lib.hid ((Only.refl _ w).alloc (fun _ h => h) _)
            go_enter Tryd.func26, Tryd.ntmps26
            go_wp2
            go_ret
            exact ⟨rfl, HO.out⟩
          · skip
            have h5d : decide (p < 3) = false := decide_eq_false h5
            by_cases h6 : 16384 < p
            · skip
              have h6d : decide (16384 < p) = true := decide_eq_true h6
              rw [show okM g ph t x r p l n = false from decide_eq_false (by unfold okP phP; omega)]
              have HI : Hid (Blk (w.alloc (.cells #[.int .i64 g, .int .i64 ph, .int .i64 t, .int .i64 x, .int .i64 r, .int .i64 p, .int .i64 l, .slice A n c] 25)) w.heap.size 25 [.int .i64 g, .int .i64 ph, .int .i64 t, .int .i64 x, .int .i64 r, .int .i64 p, .int .i64 l, .slice A n c]) := Lib.hid (Blk.new w 25 [.int .i64 g, .int .i64 ph, .int .i64 t, .int .i64 x, .int .i64 r, .int .i64 p, .int .i64 l, .slice A n c])
              have HO : Hid (Only (w.heap.size ≤ ·) w (w.alloc (.cells #[.int .i64 g, .int .i64 ph, .int .i64 t, .int .i64 x, .int .i64 r, .int .i64 p, .int .i64 l, .slice A n c] 25))) := Lib.hid ((Only.refl _ w).alloc (fun _ h => h) _)
              go_enter Tryd.func26, Tryd.ntmps26
              go_wp2
              go_ret
              exact ⟨rfl, HO.out⟩
            · skip
              have h6d : decide (16384 < p) = false := decide_eq_false h6
              by_cases h7 : r < 2
              · skip
                have h7d : decide (r < 2) = true := decide_eq_true h7
                rw [show okM g ph t x r p l n = false from decide_eq_false (by unfold okP phP; omega)]
                have HI : Hid (Blk (w.alloc (.cells #[.int .i64 g, .int .i64 ph, .int .i64 t, .int .i64 x, .int .i64 r, .int .i64 p, .int .i64 l, .slice A n c] 25)) w.heap.size 25 [.int .i64 g, .int .i64 ph, .int .i64 t, .int .i64 x, .int .i64 r, .int .i64 p, .int .i64 l, .slice A n c]) := Lib.hid (Blk.new w 25 [.int .i64 g, .int .i64 ph, .int .i64 t, .int .i64 x, .int .i64 r, .int .i64 p, .int .i64 l, .slice A n c])
                have HO : Hid (Only (w.heap.size ≤ ·) w (w.alloc (.cells #[.int .i64 g, .int .i64 ph, .int .i64 t, .int .i64 x, .int .i64 r, .int .i64 p, .int .i64 l, .slice A n c] 25))) := Lib.hid ((Only.refl _ w).alloc (fun _ h => h) _)
                go_enter Tryd.func26, Tryd.ntmps26
                go_wp2
                go_ret
                exact ⟨rfl, HO.out⟩
              · skip
                have h7d : decide (r < 2) = false := decide_eq_false h7
                by_cases h8 : p ≤ r
                · skip
                  have h8d : decide (p ≤ r) = true := decide_eq_true h8
                  rw [show okM g ph t x r p l n = false from decide_eq_false (by unfold okP phP; omega)]
                  have HI : Hid (Blk (w.alloc (.cells #[.int .i64 g, .int .i64 ph, .int .i64 t, .int .i64 x, .int .i64 r, .int .i64 p, .int .i64 l, .slice A n c] 25)) w.heap.size 25 [.int .i64 g, .int .i64 ph, .int .i64 t, .int .i64 x, .int .i64 r, .int .i64 p, .int .i64 l, .slice A n c]) := Lib.hid (Blk.new w 25 [.int .i64 g, .int .i64 ph, .int .i64 t, .int .i64 x, .int .i64 r, .int .i64 p, .int .i64 l, .slice A n c])
                  have HO : Hid (Only (w.heap.size ≤ ·) w (w.alloc (.cells #[.int .i64 g, .int .i64 ph, .int .i64 t, .int .i64 x, .int .i64 r, .int .i64 p, .int .i64 l, .slice A n c] 25))) := Lib.hid ((Only.refl _ w).alloc (fun _ h => h) _)
                  go_enter Tryd.func26, Tryd.ntmps26
                  go_wp2
                  go_ret
                  exact ⟨rfl, HO.out⟩
                · skip
                  have h8d : decide (p ≤ r) = false := decide_eq_false h8
                  by_cases h9 : l = 0
                  · skip
                    subst h9
                    by_cases h10 : ph = 0
                    · skip
                      subst h10
                      by_cases h11 : t = 0
                      · skip
                        subst h11
                        by_cases h12 : n = 0
                        · skip
                          subst h12
                          rw [show okM g 0 0 x r p 0 0 = true from decide_eq_true (by unfold okP phP; omega)]
                          have HI : Hid (Blk (w.alloc (.cells #[.int .i64 g, .int .i64 0, .int .i64 0, .int .i64 x, .int .i64 r, .int .i64 p, .int .i64 0, .slice A 0 c] 25)) w.heap.size 25 [.int .i64 g, .int .i64 0, .int .i64 0, .int .i64 x, .int .i64 r, .int .i64 p, .int .i64 0, .slice A 0 c]) := Lib.hid (Blk.new w 25 [.int .i64 g, .int .i64 0, .int .i64 0, .int .i64 x, .int .i64 r, .int .i64 p, .int .i64 0, .slice A 0 c])
                          have HO : Hid (Only (w.heap.size ≤ ·) w (w.alloc (.cells #[.int .i64 g, .int .i64 0, .int .i64 0, .int .i64 x, .int .i64 r, .int .i64 p, .int .i64 0, .slice A 0 c] 25))) := Lib.hid ((Only.refl _ w).alloc (fun _ h => h) _)
                          go_enter Tryd.func26, Tryd.ntmps26
                          go_wp2
                          go_ret
                          exact ⟨rfl, HO.out⟩
                        · skip
                          have h12b : ((n : Int) == 0) = false := by rw [beq_eq_false_iff_ne]; omega
                          have h12n : ((n : Int) != 0) = true := by rw [bne_iff_ne]; omega
                          rw [show okM g 0 0 x r p 0 n = false from decide_eq_false (by unfold okP phP; omega)]
                          have HI : Hid (Blk (w.alloc (.cells #[.int .i64 g, .int .i64 0, .int .i64 0, .int .i64 x, .int .i64 r, .int .i64 p, .int .i64 0, .slice A n c] 25)) w.heap.size 25 [.int .i64 g, .int .i64 0, .int .i64 0, .int .i64 x, .int .i64 r, .int .i64 p, .int .i64 0, .slice A n c]) := Lib.hid (Blk.new w 25 [.int .i64 g, .int .i64 0, .int .i64 0, .int .i64 x, .int .i64 r, .int .i64 p, .int .i64 0, .slice A n c])
                          have HO : Hid (Only (w.heap.size ≤ ·) w (w.alloc (.cells #[.int .i64 g, .int .i64 0, .int .i64 0, .int .i64 x, .int .i64 r, .int .i64 p, .int .i64 0, .slice A n c] 25))) := Lib.hid ((Only.refl _ w).alloc (fun _ h => h) _)
                          go_enter Tryd.func26, Tryd.ntmps26
                          go_wp2
                          go_ret
                          exact ⟨rfl, HO.out⟩
                      · skip
                        have h11b : (t == 0) = false := by rw [beq_eq_false_iff_ne]; omega
                        have h11n : (t != 0) = true := by rw [bne_iff_ne]; omega
                        rw [show okM g 0 t x r p 0 n = false from decide_eq_false (by unfold okP phP; omega)]
                        have HI : Hid (Blk (w.alloc (.cells #[.int .i64 g, .int .i64 0, .int .i64 t, .int .i64 x, .int .i64 r, .int .i64 p, .int .i64 0, .slice A n c] 25)) w.heap.size 25 [.int .i64 g, .int .i64 0, .int .i64 t, .int .i64 x, .int .i64 r, .int .i64 p, .int .i64 0, .slice A n c]) := Lib.hid (Blk.new w 25 [.int .i64 g, .int .i64 0, .int .i64 t, .int .i64 x, .int .i64 r, .int .i64 p, .int .i64 0, .slice A n c])
                        have HO : Hid (Only (w.heap.size ≤ ·) w (w.alloc (.cells #[.int .i64 g, .int .i64 0, .int .i64 t, .int .i64 x, .int .i64 r, .int .i64 p, .int .i64 0, .slice A n c] 25))) := Lib.hid ((Only.refl _ w).alloc (fun _ h => h) _)
                        go_enter Tryd.func26, Tryd.ntmps26
                        go_wp2
                        go_ret
                        exact ⟨rfl, HO.out⟩
                    · skip
                      have h10b : (ph == 0) = false := by rw [beq_eq_false_iff_ne]; omega
                      have h10n : (ph != 0) = true := by rw [bne_iff_ne]; omega
                      by_cases h13 : ph = 1
                      · skip
                        subst h13
                        obtain ⟨mk, hmk⟩ : ∃ mk, mk = tr t 16 20 24 := ⟨_, rfl⟩
                        have HMK : Hid (∀ W, Calls Tryd.prog 45 #[.int .i64 t] W fun e w' => e = .returned (.int .i64 mk) ∧ W = w') := Lib.hid fun W => by rw [hmk]; exact rMaxKey_c W t
                        by_cases h14 : g < t
                        · skip
                          have h14d : decide (g < t) = true := decide_eq_true h14
                          by_cases h15 : t < 4
                          · skip
                            have h15d : decide (t < 4) = true := decide_eq_true h15
                            by_cases h16 : (n : Int) ≤ mk
                            · skip
                              have h16d : decide ((n : Int) ≤ mk) = true := decide_eq_true h16
                              rw [show okM g 1 t x r p 0 n = true from decide_eq_true (by unfold okP phP; omega)]
                              clear hmk
                              have HI : Hid (Blk (w.alloc (.cells #[.int .i64 g, .int .i64 1, .int .i64 t, .int .i64 x, .int .i64 r, .int .i64 p, .int .i64 0, .slice A n c] 25)) w.heap.size 25 [.int .i64 g, .int .i64 1, .int .i64 t, .int .i64 x, .int .i64 r, .int .i64 p, .int .i64 0, .slice A n c]) := Lib.hid (Blk.new w 25 [.int .i64 g, .int .i64 1, .int .i64 t, .int .i64 x, .int .i64 r, .int .i64 p, .int .i64 0, .slice A n c])
                              have HO : Hid (Only (w.heap.size ≤ ·) w (w.alloc (.cells #[.int .i64 g, .int .i64 1, .int .i64 t, .int .i64 x, .int .i64 r, .int .i64 p, .int .i64 0, .slice A n c] 25))) := Lib.hid ((Only.refl _ w).alloc (fun _ h => h) _)
                              go_enter Tryd.func26, Tryd.ntmps26
                              go_upto_region 7 with (fail)
                              replace HI := Lib.hid HI.out.drew
                              replace HO := Lib.hid HO.out.drew
                              refine wp_region_list (B := [false, false, false, false, false, false, false, false, false, false, false, false, false, false, false, false, false, false, false, false, false, false, false, false, false]) (S := (fun W => W.cell? ⟨w.heap.size, 0, none⟩ = some (.int .i64 g) ∧ W.cell? ⟨w.heap.size, 1, none⟩ = some (.int .i64 1) ∧ W.cell? ⟨w.heap.size, 2, none⟩ = some (.int .i64 t) ∧ W.cell? ⟨w.heap.size, 3, none⟩ = some (.int .i64 x) ∧ W.cell? ⟨w.heap.size, 4, none⟩ = some (.int .i64 r) ∧ W.cell? ⟨w.heap.size, 5, none⟩ = some (.int .i64 p) ∧ W.cell? ⟨w.heap.size, 6, none⟩ = some (.int .i64 0) ∧ W.cell? ⟨w.heap.size, 7, none⟩ = some (.slice A n c))) (by kernel_rfl) (by kernel_rfl) (by kernel_rfl) HI.out.eight (fun hsel hHeld => ?_)
                              generalize hwz : World.drew _ = wz at HI HO hHeld ⊢
                              clear hwz
                              refine oneA 0 70 hsel (h := ?_)
                              simp only [Act.put, List.setIfInBounds_toArray, List.set_cons_zero, List.set_cons_succ]
                              refine oneA 1 71 hsel (h := ?_)
                              simp only [Act.put, List.setIfInBounds_toArray, List.set_cons_zero, List.set_cons_succ]
                              refine oneA 2 72 hsel (h := ?_)
                              simp only [Act.put, List.setIfInBounds_toArray, List.set_cons_zero, List.set_cons_succ]
                              refine oneA 3 73 hsel (h := ?_)
                              simp only [Act.put, List.setIfInBounds_toArray, List.set_cons_zero, List.set_cons_succ]
                              refine oneA 4 74 hsel (h := ?_)
                              simp only [Act.put, List.setIfInBounds_toArray, List.set_cons_zero, List.set_cons_succ]
                              refine oneA 5 75 hsel (h := ?_)
                              simp only [Act.put, List.setIfInBounds_toArray, List.set_cons_zero, List.set_cons_succ]
                              refine oneA 6 76 hsel (h := ?_)
                              simp only [Act.put, List.setIfInBounds_toArray, List.set_cons_zero, List.set_cons_succ]
                              refine oneA 7 77 hsel (h := ?_)
                              simp only [Act.put, List.setIfInBounds_toArray, List.set_cons_zero, List.set_cons_succ]
                              refine oneA 8 78 hsel (h := ?_)
                              simp only [Act.put, List.setIfInBounds_toArray, List.set_cons_zero, List.set_cons_succ]
                              refine oneA 9 79 hsel (h := ?_)
                              simp only [Act.put, List.setIfInBounds_toArray, List.set_cons_zero, List.set_cons_succ]
                              refine oneA 10 80 hsel (h := ?_)
                              simp only [Act.put, List.setIfInBounds_toArray, List.set_cons_zero, List.set_cons_succ]
                              refine oneA 11 81 hsel (h := ?_)
                              simp only [Act.put, List.setIfInBounds_toArray, List.set_cons_zero, List.set_cons_succ]
                              refine oneA 12 82 hsel (h := ?_)
                              simp only [Act.put, List.setIfInBounds_toArray, List.set_cons_zero, List.set_cons_succ]
                              refine oneA 13 83 hsel (h := ?_)
                              simp only [Act.put, List.setIfInBounds_toArray, List.set_cons_zero, List.set_cons_succ]
                              refine oneA 14 84 hsel (h := ?_)
                              simp only [Act.put, List.setIfInBounds_toArray, List.set_cons_zero, List.set_cons_succ]
                              refine oneA 15 85 hsel (h := ?_)
                              simp only [Act.put, List.setIfInBounds_toArray, List.set_cons_zero, List.set_cons_succ]
                              refine oneA 16 86 hsel (h := ?_)
                              simp only [Act.put, List.setIfInBounds_toArray, List.set_cons_zero, List.set_cons_succ]
                              refine oneA 17 87 hsel (h := ?_)
                              simp only [Act.put, List.setIfInBounds_toArray, List.set_cons_zero, List.set_cons_succ]
                              refine oneA 18 88 hsel (h := ?_)
                              simp only [Act.put, List.setIfInBounds_toArray, List.set_cons_zero, List.set_cons_succ]
                              refine oneA 19 89 hsel (h := ?_)
                              simp only [Act.put, List.setIfInBounds_toArray, List.set_cons_zero, List.set_cons_succ]
                              refine oneA 20 90 hsel (h := ?_)
                              simp only [Act.put, List.setIfInBounds_toArray, List.set_cons_zero, List.set_cons_succ]
                              refine wpAnyL_ready (rs := [21]) (by kernel_rfl) (by kernel_rfl) (by simp) ?_
                              refine AllReadyL.cons (o := ?_) ?_ (fun K hK => ?_) AllReadyL.nil
                              case refine_2 => (simp only [List.getElem?_cons_succ, List.getElem?_cons_zero]; rfl)
                              go_simp
                              (go_at_call 45; (with_reducible refine (HMK.out _).mono ?_); rintro ee w2 ⟨rfl, rfl⟩)
                              go_wp2_with (fail)
                              clear hHeld
                              refine hK.out _ _ HI.out.eight (fun hHeld => ?_)
                              clear hK K
                              try simp only [List.set_cons_zero, List.set_cons_succ]
                              refine oneA 22 92 hsel (h := ?_)
                              simp only [Act.put, List.setIfInBounds_toArray, List.set_cons_zero, List.set_cons_succ]
                              refine oneA 23 93 hsel (h := ?_)
                              simp only [Act.put, List.setIfInBounds_toArray, List.set_cons_zero, List.set_cons_succ]
                              refine oneA 24 2 hsel (h := ?_)
                              simp only [Act.put, List.setIfInBounds_toArray, List.set_cons_zero, List.set_cons_succ]
                              refine wpAnyL_done (by kernel_rfl) (by kernel_rfl) ?_ _
                              clear hsel hHeld
                              go_wp2
                              go_ret
                              exact ⟨rfl, HO.out⟩
                            · skip
                              have h16d : decide ((n : Int) ≤ mk) = false := decide_eq_false h16
                              rw [show okM g 1 t x r p 0 n = false from decide_eq_false (by unfold okP phP; omega)]
                              clear hmk
                              have HI : Hid (Blk (w.alloc (.cells #[.int .i64 g, .int .i64 1, .int .i64 t, .int .i64 x, .int .i64 r, .int .i64 p, .int .i64 0, .slice A n c] 25)) w.heap.size 25 [.int .i64 g, .int .i64 1, .int .i64 t, .int .i64 x, .int .i64 r, .int .i64 p, .int .i64 0, .slice A n c]) := Lib.hid (Blk.new w 25 [.int .i64 g, .int .i64 1, .int .i64 t, .int .i64 x, .int .i64 r, .int .i64 p, .int .i64 0, .slice A n c])
                              have HO : Hid (Only (w.heap.size ≤ ·) w (w.alloc (.cells #[.int .i64 g, .int .i64 1, .int .i64 t, .int .i64 x, .int .i64 r, .int .i64 p, .int .i64 0, .slice A n c] 25))) := Lib.hid ((Only.refl _ w).alloc (fun _ h => h) _)
                              go_enter Tryd.func26, Tryd.ntmps26
                              go_upto_region 7 with (fail)
                              replace HI := Lib.hid HI.out.drew
                              replace HO := Lib.hid HO.out.drew
                              refine wp_region_list (B := [false, false, false, false, false, false, false, false, false, false, false, false, false, false, false, false, false, false, false, false, false, false, false, false, false]) (S := (fun W => W.cell? ⟨w.heap.size, 0, none⟩ = some (.int .i64 g) ∧ W.cell? ⟨w.heap.size, 1, none⟩ = some (.int .i64 1) ∧ W.cell? ⟨w.heap.size, 2, none⟩ = some (.int .i64 t) ∧ W.cell? ⟨w.heap.size, 3, none⟩ = some (.int .i64 x) ∧ W.cell? ⟨w.heap.size, 4, none⟩ = some (.int .i64 r) ∧ W.cell? ⟨w.heap.size, 5, none⟩ = some (.int .i64 p) ∧ W.cell? ⟨w.heap.size, 6, none⟩ = some (.int .i64 0) ∧ W.cell? ⟨w.heap.size, 7, none⟩ = some (.slice A n c))) (by kernel_rfl) (by kernel_rfl) (by kernel_rfl) HI.out.eight (fun hsel hHeld => ?_)
                              generalize hwz : World.drew _ = wz at HI HO hHeld ⊢
                              clear hwz
                              refine oneA 0 70 hsel (h := ?_)
                              simp only [Act.put, List.setIfInBounds_toArray, List.set_cons_zero, List.set_cons_succ]
                              refine oneA 1 71 hsel (h := ?_)
                              simp only [Act.put, List.setIfInBounds_toArray, List.set_cons_zero, List.set_cons_succ]
                              refine oneA 2 72 hsel (h := ?_)
                              simp only [Act.put, List.setIfInBounds_toArray, List.set_cons_zero, List.set_cons_succ]
                              refine oneA 3 73 hsel (h := ?_)
                              simp only [Act.put, List.setIfInBounds_toArray, List.set_cons_zero, List.set_cons_succ]
                              refine oneA 4 74 hsel (h := ?_)
                              simp only [Act.put, List.setIfInBounds_toArray, List.set_cons_zero, List.set_cons_succ]
                              refine oneA 5 75 hsel (h := ?_)
                              simp only [Act.put, List.setIfInBounds_toArray, List.set_cons_zero, List.set_cons_succ]
                              refine oneA 6 76 hsel (h := ?_)
                              simp only [Act.put, List.setIfInBounds_toArray, List.set_cons_zero, List.set_cons_succ]
                              refine oneA 7 77 hsel (h := ?_)
                              simp only [Act.put, List.setIfInBounds_toArray, List.set_cons_zero, List.set_cons_succ]
                              refine oneA 8 78 hsel (h := ?_)
                              simp only [Act.put, List.setIfInBounds_toArray, List.set_cons_zero, List.set_cons_succ]
                              refine oneA 9 79 hsel (h := ?_)
                              simp only [Act.put, List.setIfInBounds_toArray, List.set_cons_zero, List.set_cons_succ]
                              refine oneA 10 80 hsel (h := ?_)
                              simp only [Act.put, List.setIfInBounds_toArray, List.set_cons_zero, List.set_cons_succ]
                              refine oneA 11 81 hsel (h := ?_)
                              simp only [Act.put, List.setIfInBounds_toArray, List.set_cons_zero, List.set_cons_succ]
                              refine oneA 12 82 hsel (h := ?_)
                              simp only [Act.put, List.setIfInBounds_toArray, List.set_cons_zero, List.set_cons_succ]
                              refine oneA 13 83 hsel (h := ?_)
                              simp only [Act.put, List.setIfInBounds_toArray, List.set_cons_zero, List.set_cons_succ]
                              refine oneA 14 84 hsel (h := ?_)
                              simp only [Act.put, List.setIfInBounds_toArray, List.set_cons_zero, List.set_cons_succ]
                              refine oneA 15 85 hsel (h := ?_)
                              simp only [Act.put, List.setIfInBounds_toArray, List.set_cons_zero, List.set_cons_succ]
                              refine oneA 16 86 hsel (h := ?_)
                              simp only [Act.put, List.setIfInBounds_toArray, List.set_cons_zero, List.set_cons_succ]
                              refine oneA 17 87 hsel (h := ?_)
                              simp only [Act.put, List.setIfInBounds_toArray, List.set_cons_zero, List.set_cons_succ]
                              refine oneA 18 88 hsel (h := ?_)
                              simp only [Act.put, List.setIfInBounds_toArray, List.set_cons_zero, List.set_cons_succ]
                              refine oneA 19 89 hsel (h := ?_)
                              simp only [Act.put, List.setIfInBounds_toArray, List.set_cons_zero, List.set_cons_succ]
                              refine oneA 20 90 hsel (h := ?_)
                              simp only [Act.put, List.setIfInBounds_toArray, List.set_cons_zero, List.set_cons_succ]
                              refine wpAnyL_ready (rs := [21]) (by kernel_rfl) (by kernel_rfl) (by simp) ?_
                              refine AllReadyL.cons (o := ?_) ?_ (fun K hK => ?_) AllReadyL.nil
                              case refine_2 => (simp only [List.getElem?_cons_succ, List.getElem?_cons_zero]; rfl)
                              go_simp
                              (go_at_call 45; (with_reducible refine (HMK.out _).mono ?_); rintro ee w2 ⟨rfl, rfl⟩)
                              go_wp2_with (fail)
                              clear hHeld
                              refine hK.out _ _ HI.out.eight (fun hHeld => ?_)
                              clear hK K
                              try simp only [List.set_cons_zero, List.set_cons_succ]
                              refine oneA 22 92 hsel (h := ?_)
                              simp only [Act.put, List.setIfInBounds_toArray, List.set_cons_zero, List.set_cons_succ]
                              refine oneA 23 93 hsel (h := ?_)
                              simp only [Act.put, List.setIfInBounds_toArray, List.set_cons_zero, List.set_cons_succ]
                              refine oneA 24 2 hsel (h := ?_)
                              simp only [Act.put, List.setIfInBounds_toArray, List.set_cons_zero, List.set_cons_succ]
                              refine wpAnyL_done (by kernel_rfl) (by kernel_rfl) ?_ _
                              clear hsel hHeld
                              go_wp2
                              go_ret
                              exact ⟨rfl, HO.out⟩
                          · skip
                            have h15d : decide (t < 4) = false := decide_eq_false h15
                            rw [show okM g 1 t x r p 0 n = false from decide_eq_false (by unfold okP phP; omega)]
                            clear hmk
                            have HI : Hid (Blk (w.alloc (.cells #[.int .i64 g, .int .i64 1, .int .i64 t, .int .i64 x, .int .i64 r, .int .i64 p, .int .i64 0, .slice A n c] 25)) w.heap.size 25 [.int .i64 g, .int .i64 1, .int .i64 t, .int .i64 x, .int .i64 r, .int .i64 p, .int .i64 0, .slice A n c]) := Lib.hid (Blk.new w 25 [.int .i64 g, .int .i64 1, .int .i64 t, .int .i64 x, .int .i64 r, .int .i64 p, .int .i64 0, .slice A n c])
                            have HO : Hid (Only (w.heap.size ≤ ·) w (w.alloc (.cells #[.int .i64 g, .int .i64 1, .int .i64 t, .int .i64 x, .int .i64 r, .int .i64 p, .int .i64 0, .slice A n c] 25))) := Lib.hid ((Only.refl _ w).alloc (fun _ h => h) _)
                            go_enter Tryd.func26, Tryd.ntmps26
                            go_upto_region 7 with (fail)
                            replace HI := Lib.hid HI.out.drew
                            replace HO := Lib.hid HO.out.drew
                            refine wp_region_list (B := [false, false, false, false, false, false, false, false, false, false, false, false, false, false, false, false, false, false, false, false, false, false, false, false, false]) (S := (fun W => W.cell? ⟨w.heap.size, 0, none⟩ = some (.int .i64 g) ∧ W.cell? ⟨w.heap.size, 1, none⟩ = some (.int .i64 1) ∧ W.cell? ⟨w.heap.size, 2, none⟩ = some (.int .i64 t) ∧ W.cell? ⟨w.heap.size, 3, none⟩ = some (.int .i64 x) ∧ W.cell? ⟨w.heap.size, 4, none⟩ = some (.int .i64 r) ∧ W.cell? ⟨w.heap.size, 5, none⟩ = some (.int .i64 p) ∧ W.cell? ⟨w.heap.size, 6, none⟩ = some (.int .i64 0) ∧ W.cell? ⟨w.heap.size, 7, none⟩ = some (.slice A n c))) (by kernel_rfl) (by kernel_rfl) (by kernel_rfl) HI.out.eight (fun hsel hHeld => ?_)
                            generalize hwz : World.drew _ = wz at HI HO hHeld ⊢
                            clear hwz
                            refine oneA 0 70 hsel (h := ?_)
                            simp only [Act.put, List.setIfInBounds_toArray, List.set_cons_zero, List.set_cons_succ]
                            refine oneA 1 71 hsel (h := ?_)
                            simp only [Act.put, List.setIfInBounds_toArray, List.set_cons_zero, List.set_cons_succ]
                            refine oneA 2 72 hsel (h := ?_)
                            simp only [Act.put, List.setIfInBounds_toArray, List.set_cons_zero, List.set_cons_succ]
                            refine oneA 3 73 hsel (h := ?_)
                            simp only [Act.put, List.setIfInBounds_toArray, List.set_cons_zero, List.set_cons_succ]
                            refine oneA 4 74 hsel (h := ?_)
                            simp only [Act.put, List.setIfInBounds_toArray, List.set_cons_zero, List.set_cons_succ]
                            refine oneA 5 75 hsel (h := ?_)
                            simp only [Act.put, List.setIfInBounds_toArray, List.set_cons_zero, List.set_cons_succ]
                            refine oneA 6 76 hsel (h := ?_)
                            simp only [Act.put, List.setIfInBounds_toArray, List.set_cons_zero, List.set_cons_succ]
                            refine oneA 7 77 hsel (h := ?_)
                            simp only [Act.put, List.setIfInBounds_toArray, List.set_cons_zero, List.set_cons_succ]
                            refine oneA 8 78 hsel (h := ?_)
                            simp only [Act.put, List.setIfInBounds_toArray, List.set_cons_zero, List.set_cons_succ]
                            refine oneA 9 79 hsel (h := ?_)
                            simp only [Act.put, List.setIfInBounds_toArray, List.set_cons_zero, List.set_cons_succ]
                            refine oneA 10 80 hsel (h := ?_)
                            simp only [Act.put, List.setIfInBounds_toArray, List.set_cons_zero, List.set_cons_succ]
                            refine oneA 11 81 hsel (h := ?_)
                            simp only [Act.put, List.setIfInBounds_toArray, List.set_cons_zero, List.set_cons_succ]
                            refine oneA 12 82 hsel (h := ?_)
                            simp only [Act.put, List.setIfInBounds_toArray, List.set_cons_zero, List.set_cons_succ]
                            refine oneA 13 83 hsel (h := ?_)
                            simp only [Act.put, List.setIfInBounds_toArray, List.set_cons_zero, List.set_cons_succ]
                            refine oneA 14 84 hsel (h := ?_)
                            simp only [Act.put, List.setIfInBounds_toArray, List.set_cons_zero, List.set_cons_succ]
                            refine oneA 15 85 hsel (h := ?_)
                            simp only [Act.put, List.setIfInBounds_toArray, List.set_cons_zero, List.set_cons_succ]
                            refine take_skipL (i := 16) (d := 86) (oi := ?_) ?_ hsel (by kernel_rfl) (by kernel_rfl) (fun _ _ _ h => h) ?_ ?_ (by assumption) ?_
                            case refine_2 => (simp only [List.getElem?_cons_succ, List.getElem?_cons_zero]; rfl)
                            case refine_3 => rfl
                            case refine_4 => rfl
                            simp only [Act.put, List.setIfInBounds_toArray, List.set_cons_zero, List.set_cons_succ]
                            refine take_skipL (i := 17) (d := 87) (oi := ?_) ?_ hsel (by kernel_rfl) (by kernel_rfl) (fun _ _ _ h => h) ?_ ?_ (by assumption) ?_
                            case refine_2 => (simp only [List.getElem?_cons_succ, List.getElem?_cons_zero]; rfl)
                            case refine_3 => rfl
                            case refine_4 => rfl
                            simp only [Act.put, List.setIfInBounds_toArray, List.set_cons_zero, List.set_cons_succ]
                            refine take_skipL (i := 18) (d := 88) (oi := ?_) ?_ hsel (by kernel_rfl) (by kernel_rfl) (fun _ _ _ h => h) ?_ ?_ (by assumption) ?_
                            case refine_2 => (simp only [List.getElem?_cons_succ, List.getElem?_cons_zero]; rfl)
                            case refine_3 => rfl
                            case refine_4 => rfl
                            simp only [Act.put, List.setIfInBounds_toArray, List.set_cons_zero, List.set_cons_succ]
                            refine take_skipL (i := 19) (d := 89) (oi := ?_) ?_ hsel (by kernel_rfl) (by kernel_rfl) (fun _ _ _ h => h) ?_ ?_ (by assumption) ?_
                            case refine_2 => (simp only [List.getElem?_cons_succ, List.getElem?_cons_zero]; rfl)
                            case refine_3 => rfl
                            case refine_4 => rfl
                            simp only [Act.put, List.setIfInBounds_toArray, List.set_cons_zero, List.set_cons_succ]
                            refine take_skipL (i := 20) (d := 90) (oi := ?_) ?_ hsel (by kernel_rfl) (by kernel_rfl) (fun _ _ _ h => h) ?_ ?_ (by assumption) ?_
                            case refine_2 => (simp only [List.getElem?_cons_succ, List.getElem?_cons_zero]; rfl)
                            case refine_3 => rfl
                            case refine_4 => rfl
                            simp only [Act.put, List.setIfInBounds_toArray, List.set_cons_zero, List.set_cons_succ]
                            refine take_skipL (i := 21) (d := 91) (oi := ?_) ?_ hsel (by kernel_rfl) (by kernel_rfl) (fun _ _ _ h => h) ?_ ?_ (by assumption) ?_
                            case refine_2 => (simp only [List.getElem?_cons_succ, List.getElem?_cons_zero]; rfl)
                            case refine_3 => rfl
                            case refine_4 => rfl
                            simp only [Act.put, List.setIfInBounds_toArray, List.set_cons_zero, List.set_cons_succ]
                            refine take_skipL (i := 22) (d := 92) (oi := ?_) ?_ hsel (by kernel_rfl) (by kernel_rfl) (fun _ _ _ h => h) ?_ ?_ (by assumption) ?_
                            case refine_2 => (simp only [List.getElem?_cons_succ, List.getElem?_cons_zero]; rfl)
                            case refine_3 => rfl
                            case refine_4 => rfl
                            simp only [Act.put, List.setIfInBounds_toArray, List.set_cons_zero, List.set_cons_succ]
                            refine oneA 23 93 hsel (h := ?_)
                            simp only [Act.put, List.setIfInBounds_toArray, List.set_cons_zero, List.set_cons_succ]
                            refine oneA 24 2 hsel (h := ?_)
                            simp only [Act.put, List.setIfInBounds_toArray, List.set_cons_zero, List.set_cons_succ]
                            refine wpAnyL_done (by kernel_rfl) (by kernel_rfl) ?_ _
                            clear hsel hHeld
                            go_wp2
                            go_ret
                            exact ⟨rfl, HO.out⟩
                        · skip
                          have h14d : decide (g < t) = false := decide_eq_false h14
                          rw [show okM g 1 t x r p 0 n = false from decide_eq_false (by unfold okP phP; omega)]
                          clear hmk
                          have HI : Hid (Blk (w.alloc (.cells #[.int .i64 g, .int .i64 1, .int .i64 t, .int .i64 x, .int .i64 r, .int .i64 p, .int .i64 0, .slice A n c] 25)) w.heap.size 25 [.int .i64 g, .int .i64 1, .int .i64 t, .int .i64 x, .int .i64 r, .int .i64 p, .int .i64 0, .slice A n c]) := Lib.hid (Blk.new w 25 [.int .i64 g, .int .i64 1, .int .i64 t, .int .i64 x, .int .i64 r, .int .i64 p, .int .i64 0, .slice A n c])
                          have HO : Hid (Only (w.heap.size ≤ ·) w (w.alloc (.cells #[.int .i64 g, .int .i64 1, .int .i64 t, .int .i64 x, .int .i64 r, .int .i64 p, .int .i64 0, .slice A n c] 25))) := Lib.hid ((Only.refl _ w).alloc (fun _ h => h) _)
                          go_enter Tryd.func26, Tryd.ntmps26
                          go_upto_region 7 with (fail)
                          replace HI := Lib.hid HI.out.drew
                          replace HO := Lib.hid HO.out.drew
                          refine wp_region_list (B := [false, false, false, false, false, false, false, false, false, false, false, false, false, false, false, false, false, false, false, false, false, false, false, false, false]) (S := (fun W => W.cell? ⟨w.heap.size, 0, none⟩ = some (.int .i64 g) ∧ W.cell? ⟨w.heap.size, 1, none⟩ = some (.int .i64 1) ∧ W.cell? ⟨w.heap.size, 2, none⟩ = some (.int .i64 t) ∧ W.cell? ⟨w.heap.size, 3, none⟩ = some (.int .i64 x) ∧ W.cell? ⟨w.heap.size, 4, none⟩ = some (.int .i64 r) ∧ W.cell? ⟨w.heap.size, 5, none⟩ = some (.int .i64 p) ∧ W.cell? ⟨w.heap.size, 6, none⟩ = some (.int .i64 0) ∧ W.cell? ⟨w.heap.size, 7, none⟩ = some (.slice A n c))) (by kernel_rfl) (by kernel_rfl) (by kernel_rfl) HI.out.eight (fun hsel hHeld => ?_)
                          generalize hwz : World.drew _ = wz at HI HO hHeld ⊢
                          clear hwz
                          refine oneA 0 70 hsel (h := ?_)
                          simp only [Act.put, List.setIfInBounds_toArray, List.set_cons_zero, List.set_cons_succ]
                          refine oneA 1 71 hsel (h := ?_)
                          simp only [Act.put, List.setIfInBounds_toArray, List.set_cons_zero, List.set_cons_succ]
                          refine oneA 2 72 hsel (h := ?_)
                          simp only [Act.put, List.setIfInBounds_toArray, List.set_cons_zero, List.set_cons_succ]
                          refine oneA 3 73 hsel (h := ?_)
                          simp only [Act.put, List.setIfInBounds_toArray, List.set_cons_zero, List.set_cons_succ]
                          refine oneA 4 74 hsel (h := ?_)
                          simp only [Act.put, List.setIfInBounds_toArray, List.set_cons_zero, List.set_cons_succ]
                          refine oneA 5 75 hsel (h := ?_)
                          simp only [Act.put, List.setIfInBounds_toArray, List.set_cons_zero, List.set_cons_succ]
                          refine oneA 6 76 hsel (h := ?_)
                          simp only [Act.put, List.setIfInBounds_toArray, List.set_cons_zero, List.set_cons_succ]
                          refine oneA 7 77 hsel (h := ?_)
                          simp only [Act.put, List.setIfInBounds_toArray, List.set_cons_zero, List.set_cons_succ]
                          refine oneA 8 78 hsel (h := ?_)
                          simp only [Act.put, List.setIfInBounds_toArray, List.set_cons_zero, List.set_cons_succ]
                          refine oneA 9 79 hsel (h := ?_)
                          simp only [Act.put, List.setIfInBounds_toArray, List.set_cons_zero, List.set_cons_succ]
                          refine oneA 10 80 hsel (h := ?_)
                          simp only [Act.put, List.setIfInBounds_toArray, List.set_cons_zero, List.set_cons_succ]
                          refine take_skipL (i := 11) (d := 81) (oi := ?_) ?_ hsel (by kernel_rfl) (by kernel_rfl) (fun _ _ _ h => h) ?_ ?_ (by assumption) ?_
                          case refine_2 => (simp only [List.getElem?_cons_succ, List.getElem?_cons_zero]; rfl)
                          case refine_3 => rfl
                          case refine_4 => rfl
                          simp only [Act.put, List.setIfInBounds_toArray, List.set_cons_zero, List.set_cons_succ]
                          refine take_skipL (i := 12) (d := 82) (oi := ?_) ?_ hsel (by kernel_rfl) (by kernel_rfl) (fun _ _ _ h => h) ?_ ?_ (by assumption) ?_
                          case refine_2 => (simp only [List.getElem?_cons_succ, List.getElem?_cons_zero]; rfl)
                          case refine_3 => rfl
                          case refine_4 => rfl
                          simp only [Act.put, List.setIfInBounds_toArray, List.set_cons_zero, List.set_cons_succ]
                          refine take_skipL (i := 13) (d := 83) (oi := ?_) ?_ hsel (by kernel_rfl) (by kernel_rfl) (fun _ _ _ h => h) ?_ ?_ (by assumption) ?_
                          case refine_2 => (simp only [List.getElem?_cons_succ, List.getElem?_cons_zero]; rfl)
                          case refine_3 => rfl
                          case refine_4 => rfl
                          simp only [Act.put, List.setIfInBounds_toArray, List.set_cons_zero, List.set_cons_succ]
                          refine oneA 14 84 hsel (h := ?_)
                          simp only [Act.put, List.setIfInBounds_toArray, List.set_cons_zero, List.set_cons_succ]
                          refine oneA 15 85 hsel (h := ?_)
                          simp only [Act.put, List.setIfInBounds_toArray, List.set_cons_zero, List.set_cons_succ]
                          refine take_skipL (i := 16) (d := 86) (oi := ?_) ?_ hsel (by kernel_rfl) (by kernel_rfl) (fun _ _ _ h => h) ?_ ?_ (by assumption) ?_
                          case refine_2 => (simp only [List.getElem?_cons_succ, List.getElem?_cons_zero]; rfl)
                          case refine_3 => rfl
                          case refine_4 => rfl
                          simp only [Act.put, List.setIfInBounds_toArray, List.set_cons_zero, List.set_cons_succ]
                          refine take_skipL (i := 17) (d := 87) (oi := ?_) ?_ hsel (by kernel_rfl) (by kernel_rfl) (fun _ _ _ h => h) ?_ ?_ (by assumption) ?_
                          case refine_2 => (simp only [List.getElem?_cons_succ, List.getElem?_cons_zero]; rfl)
                          case refine_3 => rfl
                          case refine_4 => rfl
                          simp only [Act.put, List.setIfInBounds_toArray, List.set_cons_zero, List.set_cons_succ]
                          refine take_skipL (i := 18) (d := 88) (oi := ?_) ?_ hsel (by kernel_rfl) (by kernel_rfl) (fun _ _ _ h => h) ?_ ?_ (by assumption) ?_
                          case refine_2 => (simp only [List.getElem?_cons_succ, List.getElem?_cons_zero]; rfl)
                          case refine_3 => rfl
                          case refine_4 => rfl
                          simp only [Act.put, List.setIfInBounds_toArray, List.set_cons_zero, List.set_cons_succ]
                          refine take_skipL (i := 19) (d := 89) (oi := ?_) ?_ hsel (by kernel_rfl) (by kernel_rfl) (fun _ _ _ h => h) ?_ ?_ (by assumption) ?_
                          case refine_2 => (simp only [List.getElem?_cons_succ, List.getElem?_cons_zero]; rfl)
                          case refine_3 => rfl
                          case refine_4 => rfl
                          simp only [Act.put, List.setIfInBounds_toArray, List.set_cons_zero, List.set_cons_succ]
                          refine take_skipL (i := 20) (d := 90) (oi := ?_) ?_ hsel (by kernel_rfl) (by kernel_rfl) (fun _ _ _ h => h) ?_ ?_ (by assumption) ?_
                          case refine_2 => (simp only [List.getElem?_cons_succ, List.getElem?_cons_zero]; rfl)
                          case refine_3 => rfl
                          case refine_4 => rfl
                          simp only [Act.put, List.setIfInBounds_toArray, List.set_cons_zero, List.set_cons_succ]
                          refine take_skipL (i := 21) (d := 91) (oi := ?_) ?_ hsel (by kernel_rfl) (by kernel_rfl) (fun _ _ _ h => h) ?_ ?_ (by assumption) ?_
                          case refine_2 => (simp only [List.getElem?_cons_succ, List.getElem?_cons_zero]; rfl)
                          case refine_3 => rfl
                          case refine_4 => rfl
                          simp only [Act.put, List.setIfInBounds_toArray, List.set_cons_zero, List.set_cons_succ]
                          refine take_skipL (i := 22) (d := 92) (oi := ?_) ?_ hsel (by kernel_rfl) (by kernel_rfl) (fun _ _ _ h => h) ?_ ?_ (by assumption) ?_
                          case refine_2 => (simp only [List.getElem?_cons_succ, List.getElem?_cons_zero]; rfl)
                          case refine_3 => rfl
                          case refine_4 => rfl
                          simp only [Act.put, List.setIfInBounds_toArray, List.set_cons_zero, List.set_cons_succ]
                          refine oneA 23 93 hsel (h := ?_)
                          simp only [Act.put, List.setIfInBounds_toArray, List.set_cons_zero, List.set_cons_succ]
                          refine oneA 24 2 hsel (h := ?_)
                          simp only [Act.put, List.setIfInBounds_toArray, List.set_cons_zero, List.set_cons_succ]
                          refine wpAnyL_done (by kernel_rfl) (by kernel_rfl) ?_ _
                          clear hsel hHeld
                          go_wp2
                          go_ret
                          exact ⟨rfl, HO.out⟩
                      · skip
                        have h13b : (ph == 1) = false := by rw [beq_eq_false_iff_ne]; omega
                        have h13n : (ph != 1) = true := by rw [bne_iff_ne]; omega
                        rw [show okM g ph t x r p 0 n = false from decide_eq_false (by unfold okP phP; omega)]
                        have HI : Hid (Blk (w.alloc (.cells #[.int .i64 g, .int .i64 ph, .int .i64 t, .int .i64 x, .int .i64 r, .int .i64 p, .int .i64 0, .slice A n c] 25)) w.heap.size 25 [.int .i64 g, .int .i64 ph, .int .i64 t, .int .i64 x, .int .i64 r, .int .i64 p, .int .i64 0, .slice A n c]) := Lib.hid (Blk.new w 25 [.int .i64 g, .int .i64 ph, .int .i64 t, .int .i64 x, .int .i64 r, .int .i64 p, .int .i64 0, .slice A n c])
                        have HO : Hid (Only (w.heap.size ≤ ·) w (w.alloc (.cells #[.int .i64 g, .int .i64 ph, .int .i64 t, .int .i64 x, .int .i64 r, .int .i64 p, .int .i64 0, .slice A n c] 25))) := Lib.hid ((Only.refl _ w).alloc (fun _ h => h) _)
                        go_enter Tryd.func26, Tryd.ntmps26
                        go_upto_region 7 with (fail)
                        replace HI := Lib.hid HI.out.drew
                        replace HO := Lib.hid HO.out.drew
                        refine wp_region_list (B := [false, false, false, false, false, false, false, false, false, false, false, false, false, false, false, false, false, false, false, false, false, false, false, false, false]) (S := (fun W => W.cell? ⟨w.heap.size, 0, none⟩ = some (.int .i64 g) ∧ W.cell? ⟨w.heap.size, 1, none⟩ = some (.int .i64 ph) ∧ W.cell? ⟨w.heap.size, 2, none⟩ = some (.int .i64 t) ∧ W.cell? ⟨w.heap.size, 3, none⟩ = some (.int .i64 x) ∧ W.cell? ⟨w.heap.size, 4, none⟩ = some (.int .i64 r) ∧ W.cell? ⟨w.heap.size, 5, none⟩ = some (.int .i64 p) ∧ W.cell? ⟨w.heap.size, 6, none⟩ = some (.int .i64 0) ∧ W.cell? ⟨w.heap.size, 7, none⟩ = some (.slice A n c))) (by kernel_rfl) (by kernel_rfl) (by kernel_rfl) HI.out.eight (fun hsel hHeld => ?_)
                        generalize hwz : World.drew _ = wz at HI HO hHeld ⊢
                        clear hwz
                        refine oneA 0 70 hsel (h := ?_)
                        simp only [Act.put, List.setIfInBounds_toArray, List.set_cons_zero, List.set_cons_succ]
                        refine oneA 1 71 hsel (h := ?_)
                        simp only [Act.put, List.setIfInBounds_toArray, List.set_cons_zero, List.set_cons_succ]
                        refine oneA 2 72 hsel (h := ?_)
                        simp only [Act.put, List.setIfInBounds_toArray, List.set_cons_zero, List.set_cons_succ]
                        refine oneA 3 73 hsel (h := ?_)
                        simp only [Act.put, List.setIfInBounds_toArray, List.set_cons_zero, List.set_cons_succ]
                        refine take_skipL (i := 4) (d := 74) (oi := ?_) ?_ hsel (by kernel_rfl) (by kernel_rfl) (fun _ _ _ h => h) ?_ ?_ (by assumption) ?_
                        case refine_2 => (simp only [List.getElem?_cons_succ, List.getElem?_cons_zero]; rfl)
                        case refine_3 => rfl
                        case refine_4 => rfl
                        simp only [Act.put, List.setIfInBounds_toArray, List.set_cons_zero, List.set_cons_succ]
                        refine take_skipL (i := 5) (d := 75) (oi := ?_) ?_ hsel (by kernel_rfl) (by kernel_rfl) (fun _ _ _ h => h) ?_ ?_ (by assumption) ?_
                        case refine_2 => (simp only [List.getElem?_cons_succ, List.getElem?_cons_zero]; rfl)
                        case refine_3 => rfl
                        case refine_4 => rfl
                        simp only [Act.put, List.setIfInBounds_toArray, List.set_cons_zero, List.set_cons_succ]
                        refine take_skipL (i := 6) (d := 76) (oi := ?_) ?_ hsel (by kernel_rfl) (by kernel_rfl) (fun _ _ _ h => h) ?_ ?_ (by assumption) ?_
                        case refine_2 => (simp only [List.getElem?_cons_succ, List.getElem?_cons_zero]; rfl)
                        case refine_3 => rfl
                        case refine_4 => rfl
                        simp only [Act.put, List.setIfInBounds_toArray, List.set_cons_zero, List.set_cons_succ]
                        refine take_skipL (i := 7) (d := 77) (oi := ?_) ?_ hsel (by kernel_rfl) (by kernel_rfl) (fun _ _ _ h => h) ?_ ?_ (by assumption) ?_
                        case refine_2 => (simp only [List.getElem?_cons_succ, List.getElem?_cons_zero]; rfl)
                        case refine_3 => rfl
                        case refine_4 => rfl
                        simp only [Act.put, List.setIfInBounds_toArray, List.set_cons_zero, List.set_cons_succ]
                        refine take_skipL (i := 8) (d := 78) (oi := ?_) ?_ hsel (by kernel_rfl) (by kernel_rfl) (fun _ _ _ h => h) ?_ ?_ (by assumption) ?_
                        case refine_2 => (simp only [List.getElem?_cons_succ, List.getElem?_cons_zero]; rfl)
                        case refine_3 => rfl
                        case refine_4 => rfl
                        simp only [Act.put, List.setIfInBounds_toArray, List.set_cons_zero, List.set_cons_succ]
                        refine oneA 9 79 hsel (h := ?_)
                        simp only [Act.put, List.setIfInBounds_toArray, List.set_cons_zero, List.set_cons_succ]
                        refine oneA 10 80 hsel (h := ?_)
                        simp only [Act.put, List.setIfInBounds_toArray, List.set_cons_zero, List.set_cons_succ]
                        refine take_skipL (i := 11) (d := 81) (oi := ?_) ?_ hsel (by kernel_rfl) (by kernel_rfl) (fun _ _ _ h => h) ?_ ?_ (by assumption) ?_
                        case refine_2 => (simp only [List.getElem?_cons_succ, List.getElem?_cons_zero]; rfl)
                        case refine_3 => rfl
                        case refine_4 => rfl
                        simp only [Act.put, List.setIfInBounds_toArray, List.set_cons_zero, List.set_cons_succ]
                        refine take_skipL (i := 12) (d := 82) (oi := ?_) ?_ hsel (by kernel_rfl) (by kernel_rfl) (fun _ _ _ h => h) ?_ ?_ (by assumption) ?_
                        case refine_2 => (simp only [List.getElem?_cons_succ, List.getElem?_cons_zero]; rfl)
                        case refine_3 => rfl
                        case refine_4 => rfl
                        simp only [Act.put, List.setIfInBounds_toArray, List.set_cons_zero, List.set_cons_succ]
                        refine take_skipL (i := 13) (d := 83) (oi := ?_) ?_ hsel (by kernel_rfl) (by kernel_rfl) (fun _ _ _ h => h) ?_ ?_ (by assumption) ?_
                        case refine_2 => (simp only [List.getElem?_cons_succ, List.getElem?_cons_zero]; rfl)
                        case refine_3 => rfl
                        case refine_4 => rfl
                        simp only [Act.put, List.setIfInBounds_toArray, List.set_cons_zero, List.set_cons_succ]
                        refine oneA 14 84 hsel (h := ?_)
                        simp only [Act.put, List.setIfInBounds_toArray, List.set_cons_zero, List.set_cons_succ]
                        refine oneA 15 85 hsel (h := ?_)
                        simp only [Act.put, List.setIfInBounds_toArray, List.set_cons_zero, List.set_cons_succ]
                        refine take_skipL (i := 16) (d := 86) (oi := ?_) ?_ hsel (by kernel_rfl) (by kernel_rfl) (fun _ _ _ h => h) ?_ ?_ (by assumption) ?_
                        case refine_2 => (simp only [List.getElem?_cons_succ, List.getElem?_cons_zero]; rfl)
                        case refine_3 => rfl
                        case refine_4 => rfl
                        simp only [Act.put, List.setIfInBounds_toArray, List.set_cons_zero, List.set_cons_succ]
                        refine take_skipL (i := 17) (d := 87) (oi := ?_) ?_ hsel (by kernel_rfl) (by kernel_rfl) (fun _ _ _ h => h) ?_ ?_ (by assumption) ?_
                        case refine_2 => (simp only [List.getElem?_cons_succ, List.getElem?_cons_zero]; rfl)
                        case refine_3 => rfl
                        case refine_4 => rfl
                        simp only [Act.put, List.setIfInBounds_toArray, List.set_cons_zero, List.set_cons_succ]
                        refine take_skipL (i := 18) (d := 88) (oi := ?_) ?_ hsel (by kernel_rfl) (by kernel_rfl) (fun _ _ _ h => h) ?_ ?_ (by assumption) ?_
                        case refine_2 => (simp only [List.getElem?_cons_succ, List.getElem?_cons_zero]; rfl)
                        case refine_3 => rfl
                        case refine_4 => rfl
                        simp only [Act.put, List.setIfInBounds_toArray, List.set_cons_zero, List.set_cons_succ]
                        refine take_skipL (i := 19) (d := 89) (oi := ?_) ?_ hsel (by kernel_rfl) (by kernel_rfl) (fun _ _ _ h => h) ?_ ?_ (by assumption) ?_
                        case refine_2 => (simp only [List.getElem?_cons_succ, List.getElem?_cons_zero]; rfl)
                        case refine_3 => rfl
                        case refine_4 => rfl
                        simp only [Act.put, List.setIfInBounds_toArray, List.set_cons_zero, List.set_cons_succ]
                        refine take_skipL (i := 20) (d := 90) (oi := ?_) ?_ hsel (by kernel_rfl) (by kernel_rfl) (fun _ _ _ h => h) ?_ ?_ (by assumption) ?_
                        case refine_2 => (simp only [List.getElem?_cons_succ, List.getElem?_cons_zero]; rfl)
                        case refine_3 => rfl
                        case refine_4 => rfl
                        simp only [Act.put, List.setIfInBounds_toArray, List.set_cons_zero, List.set_cons_succ]
                        refine take_skipL (i := 21) (d := 91) (oi := ?_) ?_ hsel (by kernel_rfl) (by kernel_rfl) (fun _ _ _ h => h) ?_ ?_ (by assumption) ?_
                        case refine_2 => (simp only [List.getElem?_cons_succ, List.getElem?_cons_zero]; rfl)
                        case refine_3 => rfl
                        case refine_4 => rfl
                        simp only [Act.put, List.setIfInBounds_toArray, List.set_cons_zero, List.set_cons_succ]
                        refine take_skipL (i := 22) (d := 92) (oi := ?_) ?_ hsel (by kernel_rfl) (by kernel_rfl) (fun _ _ _ h => h) ?_ ?_ (by assumption) ?_
                        case refine_2 => (simp only [List.getElem?_cons_succ, List.getElem?_cons_zero]; rfl)
                        case refine_3 => rfl
                        case refine_4 => rfl
                        simp only [Act.put, List.setIfInBounds_toArray, List.set_cons_zero, List.set_cons_succ]
                        refine oneA 23 93 hsel (h := ?_)
                        simp only [Act.put, List.setIfInBounds_toArray, List.set_cons_zero, List.set_cons_succ]
                        refine oneA 24 2 hsel (h := ?_)
                        simp only [Act.put, List.setIfInBounds_toArray, List.set_cons_zero, List.set_cons_succ]
                        refine wpAnyL_done (by kernel_rfl) (by kernel_rfl) ?_ _
                        clear hsel hHeld
                        go_wp2
                        go_ret
                        exact ⟨rfl, HO.out⟩
                  · skip
                    have h9b : (l == 0) = false := by rw [beq_eq_false_iff_ne]; omega
                    have h9n : (l != 0) = true := by rw [bne_iff_ne]; omega
                    by_cases h17 : l < 2
                    · skip
                      have h17d : decide (l < 2) = true := decide_eq_true h17
                      rw [show okM g ph t x r p l n = false from decide_eq_false (by unfold okP phP; omega)]
                      have HI : Hid (Blk (w.alloc (.cells #[.int .i64 g, .int .i64 ph, .int .i64 t, .int .i64 x, .int .i64 r, .int .i64 p, .int .i64 l, .slice A n c] 25)) w.heap.size 25 [.int .i64 g, .int .i64 ph, .int .i64 t, .int .i64 x, .int .i64 r, .int .i64 p, .int .i64 l, .slice A n c]) := Lib.hid (Blk.new w 25 [.int .i64 g, .int .i64 ph, .int .i64 t, .int .i64 x, .int .i64 r, .int .i64 p, .int .i64 l, .slice A n c])
                      have HO : Hid (Only (w.heap.size ≤ ·) w (w.alloc (.cells #[.int .i64 g, .int .i64 ph, .int .i64 t, .int .i64 x, .int .i64 r, .int .i64 p, .int .i64 l, .slice A n c] 25))) := Lib.hid ((Only.refl _ w).alloc (fun _ h => h) _)
                      go_enter Tryd.func26, Tryd.ntmps26
                      go_wp2
                      go_ret
                      exact ⟨rfl, HO.out⟩
                    · skip
                      have h17d : decide (l < 2) = false := decide_eq_false h17
                      by_cases h18 : p ≤ l
                      · skip
                        have h18d : decide (p ≤ l) = true := decide_eq_true h18
                        rw [show okM g ph t x r p l n = false from decide_eq_false (by unfold okP phP; omega)]
                        have HI : Hid (Blk (w.alloc (.cells #[.int .i64 g, .int .i64 ph, .int .i64 t, .int .i64 x, .int .i64 r, .int .i64 p, .int .i64 l, .slice A n c] 25)) w.heap.size 25 [.int .i64 g, .int .i64 ph, .int .i64 t, .int .i64 x, .int .i64 r, .int .i64 p, .int .i64 l, .slice A n c]) := Lib.hid (Blk.new w 25 [.int .i64 g, .int .i64 ph, .int .i64 t, .int .i64 x, .int .i64 r, .int .i64 p, .int .i64 l, .slice A n c])
                        have HO : Hid (Only (w.heap.size ≤ ·) w (w.alloc (.cells #[.int .i64 g, .int .i64 ph, .int .i64 t, .int .i64 x, .int .i64 r, .int .i64 p, .int .i64 l, .slice A n c] 25))) := Lib.hid ((Only.refl _ w).alloc (fun _ h => h) _)
                        go_enter Tryd.func26, Tryd.ntmps26
                        go_wp2
                        go_ret
                        exact ⟨rfl, HO.out⟩
                      · skip
                        have h18d : decide (p ≤ l) = false := decide_eq_false h18
                        by_cases h19 : ph = 0
                        · skip
                          subst h19
                          by_cases h20 : t = 0
                          · skip
                            subst h20
                            by_cases h21 : n = 0
                            · skip
                              subst h21
                              rw [show okM g 0 0 x r p l 0 = true from decide_eq_true (by unfold okP phP; omega)]
                              have HI : Hid (Blk (w.alloc (.cells #[.int .i64 g, .int .i64 0, .int .i64 0, .int .i64 x, .int .i64 r, .int .i64 p, .int .i64 l, .slice A 0 c] 25)) w.heap.size 25 [.int .i64 g, .int .i64 0, .int .i64 0, .int .i64 x, .int .i64 r, .int .i64 p, .int .i64 l, .slice A 0 c]) := Lib.hid (Blk.new w 25 [.int .i64 g, .int .i64 0, .int .i64 0, .int .i64 x, .int .i64 r, .int .i64 p, .int .i64 l, .slice A 0 c])
                              have HO : Hid (Only (w.heap.size ≤ ·) w (w.alloc (.cells #[.int .i64 g, .int .i64 0, .int .i64 0, .int .i64 x, .int .i64 r, .int .i64 p, .int .i64 l, .slice A 0 c] 25))) := Lib.hid ((Only.refl _ w).alloc (fun _ h => h) _)
                              go_enter Tryd.func26, Tryd.ntmps26
                              go_wp2
                              go_ret
                              exact ⟨rfl, HO.out⟩
                            · skip
                              have h21b : ((n : Int) == 0) = false := by rw [beq_eq_false_iff_ne]; omega
                              have h21n : ((n : Int) != 0) = true := by rw [bne_iff_ne]; omega
                              rw [show okM g 0 0 x r p l n = false from decide_eq_false (by unfold okP phP; omega)]
                              have HI : Hid (Blk (w.alloc (.cells #[.int .i64 g, .int .i64 0, .int .i64 0, .int .i64 x, .int .i64 r, .int .i64 p, .int .i64 l, .slice A n c] 25)) w.heap.size 25 [.int .i64 g, .int .i64 0, .int .i64 0, .int .i64 x, .int .i64 r, .int .i64 p, .int .i64 l, .slice A n c]) := Lib.hid (Blk.new w 25 [.int .i64 g, .int .i64 0, .int .i64 0, .int .i64 x, .int .i64 r, .int .i64 p, .int .i64 l, .slice A n c])
                              have HO : Hid (Only (w.heap.size ≤ ·) w (w.alloc (.cells #[.int .i64 g, .int .i64 0, .int .i64 0, .int .i64 x, .int .i64 r, .int .i64 p, .int .i64 l, .slice A n c] 25))) := Lib.hid ((Only.refl _ w).alloc (fun _ h => h) _)
                              go_enter Tryd.func26, Tryd.ntmps26
                              go_wp2
                              go_ret
                              exact ⟨rfl, HO.out⟩
                          · skip
                            have h20b : (t == 0) = false := by rw [beq_eq_false_iff_ne]; omega
                            have h20n : (t != 0) = true := by rw [bne_iff_ne]; omega
                            rw [show okM g 0 t x r p l n = false from decide_eq_false (by unfold okP phP; omega)]
                            have HI : Hid (Blk (w.alloc (.cells #[.int .i64 g, .int .i64 0, .int .i64 t, .int .i64 x, .int .i64 r, .int .i64 p, .int .i64 l, .slice A n c] 25)) w.heap.size 25 [.int .i64 g, .int .i64 0, .int .i64 t, .int .i64 x, .int .i64 r, .int .i64 p, .int .i64 l, .slice A n c]) := Lib.hid (Blk.new w 25 [.int .i64 g, .int .i64 0, .int .i64 t, .int .i64 x, .int .i64 r, .int .i64 p, .int .i64 l, .slice A n c])
                            have HO : Hid (Only (w.heap.size ≤ ·) w (w.alloc (.cells #[.int .i64 g, .int .i64 0, .int .i64 t, .int .i64 x, .int .i64 r, .int .i64 p, .int .i64 l, .slice A n c] 25))) := Lib.hid ((Only.refl _ w).alloc (fun _ h => h) _)
                            go_enter Tryd.func26, Tryd.ntmps26
                            go_wp2
                            go_ret
                            exact ⟨rfl, HO.out⟩
                        · skip
                          have h19b : (ph == 0) = false := by rw [beq_eq_false_iff_ne]; omega
                          have h19n : (ph != 0) = true := by rw [bne_iff_ne]; omega
                          by_cases h22 : ph = 1
                          · skip
                            subst h22
                            obtain ⟨mk, hmk⟩ : ∃ mk, mk = tr t 16 20 24 := ⟨_, rfl⟩
                            have HMK : Hid (∀ W, Calls Tryd.prog 45 #[.int .i64 t] W fun e w' => e = .returned (.int .i64 mk) ∧ W = w') := Lib.hid fun W => by rw [hmk]; exact rMaxKey_c W t
                            by_cases h23 : g < t
                            · skip
                              have h23d : decide (g < t) = true := decide_eq_true h23
                              by_cases h24 : t < 4
                              · skip
                                have h24d : decide (t < 4) = true := decide_eq_true h24
                                by_cases h25 : (n : Int) ≤ mk
                                · skip
                                  have h25d : decide ((n : Int) ≤ mk) = true := decide_eq_true h25
                                  rw [show okM g 1 t x r p l n = true from decide_eq_true (by unfold okP phP; omega)]
                                  clear hmk
                                  have HI : Hid (Blk (w.alloc (.cells #[.int .i64 g, .int .i64 1, .int .i64 t, .int .i64 x, .int .i64 r, .int .i64 p, .int .i64 l, .slice A n c] 25)) w.heap.size 25 [.int .i64 g, .int .i64 1, .int .i64 t, .int .i64 x, .int .i64 r, .int .i64 p, .int .i64 l, .slice A n c]) := Lib.hid (Blk.new w 25 [.int .i64 g, .int .i64 1, .int .i64 t, .int .i64 x, .int .i64 r, .int .i64 p, .int .i64 l, .slice A n c])
                                  have HO : Hid (Only (w.heap.size ≤ ·) w (w.alloc (.cells #[.int .i64 g, .int .i64 1, .int .i64 t, .int .i64 x, .int .i64 r, .int .i64 p, .int .i64 l, .slice A n c] 25))) := Lib.hid ((Only.refl _ w).alloc (fun _ h => h) _)
                                  go_enter Tryd.func26, Tryd.ntmps26
                                  go_upto_region 7 with (fail)
                                  replace HI := Lib.hid HI.out.drew
                                  replace HO := Lib.hid HO.out.drew
                                  refine wp_region_list (B := [false, false, false, false, false, false, false, false, false, false, false, false, false, false, false, false, false, false, false, false, false, false, false, false, false]) (S := (fun W => W.cell? ⟨w.heap.size, 0, none⟩ = some (.int .i64 g) ∧ W.cell? ⟨w.heap.size, 1, none⟩ = some (.int .i64 1) ∧ W.cell? ⟨w.heap.size, 2, none⟩ = some (.int .i64 t) ∧ W.cell? ⟨w.heap.size, 3, none⟩ = some (.int .i64 x) ∧ W.cell? ⟨w.heap.size, 4, none⟩ = some (.int .i64 r) ∧ W.cell? ⟨w.heap.size, 5, none⟩ = some (.int .i64 p) ∧ W.cell? ⟨w.heap.size, 6, none⟩ = some (.int .i64 l) ∧ W.cell? ⟨w.heap.size, 7, none⟩ = some (.slice A n c))) (by kernel_rfl) (by kernel_rfl) (by kernel_rfl) HI.out.eight (fun hsel hHeld => ?_)
                                  generalize hwz : World.drew _ = wz at HI HO hHeld ⊢
                                  clear hwz
                                  refine oneA 0 70 hsel (h := ?_)
                                  simp only [Act.put, List.setIfInBounds_toArray, List.set_cons_zero, List.set_cons_succ]
                                  refine oneA 1 71 hsel (h := ?_)
                                  simp only [Act.put, List.setIfInBounds_toArray, List.set_cons_zero, List.set_cons_succ]
                                  refine oneA 2 72 hsel (h := ?_)
                                  simp only [Act.put, List.setIfInBounds_toArray, List.set_cons_zero, List.set_cons_succ]
                                  refine oneA 3 73 hsel (h := ?_)
                                  simp only [Act.put, List.setIfInBounds_toArray, List.set_cons_zero, List.set_cons_succ]
                                  refine oneA 4 74 hsel (h := ?_)
                                  simp only [Act.put, List.setIfInBounds_toArray, List.set_cons_zero, List.set_cons_succ]
                                  refine oneA 5 75 hsel (h := ?_)
                                  simp only [Act.put, List.setIfInBounds_toArray, List.set_cons_zero, List.set_cons_succ]
                                  refine oneA 6 76 hsel (h := ?_)
                                  simp only [Act.put, List.setIfInBounds_toArray, List.set_cons_zero, List.set_cons_succ]
                                  refine oneA 7 77 hsel (h := ?_)
                                  simp only [Act.put, List.setIfInBounds_toArray, List.set_cons_zero, List.set_cons_succ]
                                  refine oneA 8 78 hsel (h := ?_)
                                  simp only [Act.put, List.setIfInBounds_toArray, List.set_cons_zero, List.set_cons_succ]
                                  refine oneA 9 79 hsel (h := ?_)
                                  simp only [Act.put, List.setIfInBounds_toArray, List.set_cons_zero, List.set_cons_succ]
                                  refine oneA 10 80 hsel (h := ?_)
                                  simp only [Act.put, List.setIfInBounds_toArray, List.set_cons_zero, List.set_cons_succ]
                                  refine oneA 11 81 hsel (h := ?_)
                                  simp only [Act.put, List.setIfInBounds_toArray, List.set_cons_zero, List.set_cons_succ]
                                  refine oneA 12 82 hsel (h := ?_)
                                  simp only [Act.put, List.setIfInBounds_toArray, List.set_cons_zero, List.set_cons_succ]
                                  refine oneA 13 83 hsel (h := ?_)
                                  simp only [Act.put, List.setIfInBounds_toArray, List.set_cons_zero, List.set_cons_succ]
                                  refine oneA 14 84 hsel (h := ?_)
                                  simp only [Act.put, List.setIfInBounds_toArray, List.set_cons_zero, List.set_cons_succ]
                                  refine oneA 15 85 hsel (h := ?_)
                                  simp only [Act.put, List.setIfInBounds_toArray, List.set_cons_zero, List.set_cons_succ]
                                  refine oneA 16 86 hsel (h := ?_)
                                  simp only [Act.put, List.setIfInBounds_toArray, List.set_cons_zero, List.set_cons_succ]
                                  refine oneA 17 87 hsel (h := ?_)
                                  simp only [Act.put, List.setIfInBounds_toArray, List.set_cons_zero, List.set_cons_succ]
                                  refine oneA 18 88 hsel (h := ?_)
                                  simp only [Act.put, List.setIfInBounds_toArray, List.set_cons_zero, List.set_cons_succ]
                                  refine oneA 19 89 hsel (h := ?_)
                                  simp only [Act.put, List.setIfInBounds_toArray, List.set_cons_zero, List.set_cons_succ]
                                  refine oneA 20 90 hsel (h := ?_)
                                  simp only [Act.put, List.setIfInBounds_toArray, List.set_cons_zero, List.set_cons_succ]
                                  refine wpAnyL_ready (rs := [21]) (by kernel_rfl) (by kernel_rfl) (by simp) ?_
                                  refine AllReadyL.cons (o := ?_) ?_ (fun K hK => ?_) AllReadyL.nil
                                  case refine_2 => (simp only [List.getElem?_cons_succ, List.getElem?_cons_zero]; rfl)
                                  go_simp
                                  (go_at_call 45; (with_reducible refine (HMK.out _).mono ?_); rintro ee w2 ⟨rfl, rfl⟩)
                                  go_wp2_with (fail)
                                  clear hHeld
                                  refine hK.out _ _ HI.out.eight (fun hHeld => ?_)
                                  clear hK K
                                  try simp only [List.set_cons_zero, List.set_cons_succ]
                                  refine oneA 22 92 hsel (h := ?_)
                                  simp only [Act.put, List.setIfInBounds_toArray, List.set_cons_zero, List.set_cons_succ]
                                  refine oneA 23 93 hsel (h := ?_)
                                  simp only [Act.put, List.setIfInBounds_toArray, List.set_cons_zero, List.set_cons_succ]
                                  refine oneA 24 2 hsel (h := ?_)
                                  simp only [Act.put, List.setIfInBounds_toArray, List.set_cons_zero, List.set_cons_succ]
                                  refine wpAnyL_done (by kernel_rfl) (by kernel_rfl) ?_ _
                                  clear hsel hHeld
                                  go_wp2
                                  go_ret
                                  exact ⟨rfl, HO.out⟩
                                · skip
                                  have h25d : decide ((n : Int) ≤ mk) = false := decide_eq_false h25
                                  rw [show okM g 1 t x r p l n = false from decide_eq_false (by unfold okP phP; omega)]
                                  clear hmk
                                  have HI : Hid (Blk (w.alloc (.cells #[.int .i64 g, .int .i64 1, .int .i64 t, .int .i64 x, .int .i64 r, .int .i64 p, .int .i64 l, .slice A n c] 25)) w.heap.size 25 [.int .i64 g, .int .i64 1, .int .i64 t, .int .i64 x, .int .i64 r, .int .i64 p, .int .i64 l, .slice A n c]) := Lib.hid (Blk.new w 25 [.int .i64 g, .int .i64 1, .int .i64 t, .int .i64 x, .int .i64 r, .int .i64 p, .int .i64 l, .slice A n c])
                                  have HO : Hid (Only (w.heap.size ≤ ·) w (w.alloc (.cells #[.int .i64 g, .int .i64 1, .int .i64 t, .int .i64 x, .int .i64 r, .int .i64 p, .int .i64 l, .slice A n c] 25))) := Lib.hid ((Only.refl _ w).alloc (fun _ h => h) _)
                                  go_enter Tryd.func26, Tryd.ntmps26
                                  go_upto_region 7 with (fail)
                                  replace HI := Lib.hid HI.out.drew
                                  replace HO := Lib.hid HO.out.drew
                                  refine wp_region_list (B := [false, false, false, false, false, false, false, false, false, false, false, false, false, false, false, false, false, false, false, false, false, false, false, false, false]) (S := (fun W => W.cell? ⟨w.heap.size, 0, none⟩ = some (.int .i64 g) ∧ W.cell? ⟨w.heap.size, 1, none⟩ = some (.int .i64 1) ∧ W.cell? ⟨w.heap.size, 2, none⟩ = some (.int .i64 t) ∧ W.cell? ⟨w.heap.size, 3, none⟩ = some (.int .i64 x) ∧ W.cell? ⟨w.heap.size, 4, none⟩ = some (.int .i64 r) ∧ W.cell? ⟨w.heap.size, 5, none⟩ = some (.int .i64 p) ∧ W.cell? ⟨w.heap.size, 6, none⟩ = some (.int .i64 l) ∧ W.cell? ⟨w.heap.size, 7, none⟩ = some (.slice A n c))) (by kernel_rfl) (by kernel_rfl) (by kernel_rfl) HI.out.eight (fun hsel hHeld => ?_)
                                  generalize hwz : World.drew _ = wz at HI HO hHeld ⊢
                                  clear hwz
                                  refine oneA 0 70 hsel (h := ?_)
                                  simp only [Act.put, List.setIfInBounds_toArray, List.set_cons_zero, List.set_cons_succ]
                                  refine oneA 1 71 hsel (h := ?_)
                                  simp only [Act.put, List.setIfInBounds_toArray, List.set_cons_zero, List.set_cons_succ]
                                  refine oneA 2 72 hsel (h := ?_)
                                  simp only [Act.put, List.setIfInBounds_toArray, List.set_cons_zero, List.set_cons_succ]
                                  refine oneA 3 73 hsel (h := ?_)
                                  simp only [Act.put, List.setIfInBounds_toArray, List.set_cons_zero, List.set_cons_succ]
                                  refine oneA 4 74 hsel (h := ?_)
                                  simp only [Act.put, List.setIfInBounds_toArray, List.set_cons_zero, List.set_cons_succ]
                                  refine oneA 5 75 hsel (h := ?_)
                                  simp only [Act.put, List.setIfInBounds_toArray, List.set_cons_zero, List.set_cons_succ]
                                  refine oneA 6 76 hsel (h := ?_)
                                  simp only [Act.put, List.setIfInBounds_toArray, List.set_cons_zero, List.set_cons_succ]
                                  refine oneA 7 77 hsel (h := ?_)
                                  simp only [Act.put, List.setIfInBounds_toArray, List.set_cons_zero, List.set_cons_succ]
                                  refine oneA 8 78 hsel (h := ?_)
                                  simp only [Act.put, List.setIfInBounds_toArray, List.set_cons_zero, List.set_cons_succ]
                                  refine oneA 9 79 hsel (h := ?_)
                                  simp only [Act.put, List.setIfInBounds_toArray, List.set_cons_zero, List.set_cons_succ]
                                  refine oneA 10 80 hsel (h := ?_)
                                  simp only [Act.put, List.setIfInBounds_toArray, List.set_cons_zero, List.set_cons_succ]
                                  refine oneA 11 81 hsel (h := ?_)
                                  simp only [Act.put, List.setIfInBounds_toArray, List.set_cons_zero, List.set_cons_succ]
                                  refine oneA 12 82 hsel (h := ?_)
                                  simp only [Act.put, List.setIfInBounds_toArray, List.set_cons_zero, List.set_cons_succ]
                                  refine oneA 13 83 hsel (h := ?_)
                                  simp only [Act.put, List.setIfInBounds_toArray, List.set_cons_zero, List.set_cons_succ]
                                  refine oneA 14 84 hsel (h := ?_)
                                  simp only [Act.put, List.setIfInBounds_toArray, List.set_cons_zero, List.set_cons_succ]
                                  refine oneA 15 85 hsel (h := ?_)
                                  simp only [Act.put, List.setIfInBounds_toArray, List.set_cons_zero, List.set_cons_succ]
                                  refine oneA 16 86 hsel (h := ?_)
                                  simp only [Act.put, List.setIfInBounds_toArray, List.set_cons_zero, List.set_cons_succ]
                                  refine oneA 17 87 hsel (h := ?_)
                                  simp only [Act.put, List.setIfInBounds_toArray, List.set_cons_zero, List.set_cons_succ]
                                  refine oneA 18 88 hsel (h := ?_)
                                  simp only [Act.put, List.setIfInBounds_toArray, List.set_cons_zero, List.set_cons_succ]
                                  refine oneA 19 89 hsel (h := ?_)
                                  simp only [Act.put, List.setIfInBounds_toArray, List.set_cons_zero, List.set_cons_succ]
                                  refine oneA 20 90 hsel (h := ?_)
                                  simp only [Act.put, List.setIfInBounds_toArray, List.set_cons_zero, List.set_cons_succ]
                                  refine wpAnyL_ready (rs := [21]) (by kernel_rfl) (by kernel_rfl) (by simp) ?_
                                  refine AllReadyL.cons (o := ?_) ?_ (fun K hK => ?_) AllReadyL.nil
                                  case refine_2 => (simp only [List.getElem?_cons_succ, List.getElem?_cons_zero]; rfl)
                                  go_simp
                                  (go_at_call 45; (with_reducible refine (HMK.out _).mono ?_); rintro ee w2 ⟨rfl, rfl⟩)
                                  go_wp2_with (fail)
                                  clear hHeld
                                  refine hK.out _ _ HI.out.eight (fun hHeld => ?_)
                                  clear hK K
                                  try simp only [List.set_cons_zero, List.set_cons_succ]
                                  refine oneA 22 92 hsel (h := ?_)
                                  simp only [Act.put, List.setIfInBounds_toArray, List.set_cons_zero, List.set_cons_succ]
                                  refine oneA 23 93 hsel (h := ?_)
                                  simp only [Act.put, List.setIfInBounds_toArray, List.set_cons_zero, List.set_cons_succ]
                                  refine oneA 24 2 hsel (h := ?_)
                                  simp only [Act.put, List.setIfInBounds_toArray, List.set_cons_zero, List.set_cons_succ]
                                  refine wpAnyL_done (by kernel_rfl) (by kernel_rfl) ?_ _
                                  clear hsel hHeld
                                  go_wp2
                                  go_ret
                                  exact ⟨rfl, HO.out⟩
                              · skip
                                have h24d : decide (t < 4) = false := decide_eq_false h24
                                rw [show okM g 1 t x r p l n = false from decide_eq_false (by unfold okP phP; omega)]
                                clear hmk
                                have HI : Hid (Blk (w.alloc (.cells #[.int .i64 g, .int .i64 1, .int .i64 t, .int .i64 x, .int .i64 r, .int .i64 p, .int .i64 l, .slice A n c] 25)) w.heap.size 25 [.int .i64 g, .int .i64 1, .int .i64 t, .int .i64 x, .int .i64 r, .int .i64 p, .int .i64 l, .slice A n c]) := Lib.hid (Blk.new w 25 [.int .i64 g, .int .i64 1, .int .i64 t, .int .i64 x, .int .i64 r, .int .i64 p, .int .i64 l, .slice A n c])
                                have HO : Hid (Only (w.heap.size ≤ ·) w (w.alloc (.cells #[.int .i64 g, .int .i64 1, .int .i64 t, .int .i64 x, .int .i64 r, .int .i64 p, .int .i64 l, .slice A n c] 25))) := Lib.hid ((Only.refl _ w).alloc (fun _ h => h) _)
                                go_enter Tryd.func26, Tryd.ntmps26
                                go_upto_region 7 with (fail)
                                replace HI := Lib.hid HI.out.drew
                                replace HO := Lib.hid HO.out.drew
                                refine wp_region_list (B := [false, false, false, false, false, false, false, false, false, false, false, false, false, false, false, false, false, false, false, false, false, false, false, false, false]) (S := (fun W => W.cell? ⟨w.heap.size, 0, none⟩ = some (.int .i64 g) ∧ W.cell? ⟨w.heap.size, 1, none⟩ = some (.int .i64 1) ∧ W.cell? ⟨w.heap.size, 2, none⟩ = some (.int .i64 t) ∧ W.cell? ⟨w.heap.size, 3, none⟩ = some (.int .i64 x) ∧ W.cell? ⟨w.heap.size, 4, none⟩ = some (.int .i64 r) ∧ W.cell? ⟨w.heap.size, 5, none⟩ = some (.int .i64 p) ∧ W.cell? ⟨w.heap.size, 6, none⟩ = some (.int .i64 l) ∧ W.cell? ⟨w.heap.size, 7, none⟩ = some (.slice A n c))) (by kernel_rfl) (by kernel_rfl) (by kernel_rfl) HI.out.eight (fun hsel hHeld => ?_)
                                generalize hwz : World.drew _ = wz at HI HO hHeld ⊢
                                clear hwz
                                refine oneA 0 70 hsel (h := ?_)
                                simp only [Act.put, List.setIfInBounds_toArray, List.set_cons_zero, List.set_cons_succ]
                                refine oneA 1 71 hsel (h := ?_)
                                simp only [Act.put, List.setIfInBounds_toArray, List.set_cons_zero, List.set_cons_succ]
                                refine oneA 2 72 hsel (h := ?_)
                                simp only [Act.put, List.setIfInBounds_toArray, List.set_cons_zero, List.set_cons_succ]
                                refine oneA 3 73 hsel (h := ?_)
                                simp only [Act.put, List.setIfInBounds_toArray, List.set_cons_zero, List.set_cons_succ]
                                refine oneA 4 74 hsel (h := ?_)
                                simp only [Act.put, List.setIfInBounds_toArray, List.set_cons_zero, List.set_cons_succ]
                                refine oneA 5 75 hsel (h := ?_)
                                simp only [Act.put, List.setIfInBounds_toArray, List.set_cons_zero, List.set_cons_succ]
                                refine oneA 6 76 hsel (h := ?_)
                                simp only [Act.put, List.setIfInBounds_toArray, List.set_cons_zero, List.set_cons_succ]
                                refine oneA 7 77 hsel (h := ?_)
                                simp only [Act.put, List.setIfInBounds_toArray, List.set_cons_zero, List.set_cons_succ]
                                refine oneA 8 78 hsel (h := ?_)
                                simp only [Act.put, List.setIfInBounds_toArray, List.set_cons_zero, List.set_cons_succ]
                                refine oneA 9 79 hsel (h := ?_)
                                simp only [Act.put, List.setIfInBounds_toArray, List.set_cons_zero, List.set_cons_succ]
                                refine oneA 10 80 hsel (h := ?_)
                                simp only [Act.put, List.setIfInBounds_toArray, List.set_cons_zero, List.set_cons_succ]
                                refine oneA 11 81 hsel (h := ?_)
                                simp only [Act.put, List.setIfInBounds_toArray, List.set_cons_zero, List.set_cons_succ]
                                refine oneA 12 82 hsel (h := ?_)
                                simp only [Act.put, List.setIfInBounds_toArray, List.set_cons_zero, List.set_cons_succ]
                                refine oneA 13 83 hsel (h := ?_)
                                simp only [Act.put, List.setIfInBounds_toArray, List.set_cons_zero, List.set_cons_succ]
                                refine oneA 14 84 hsel (h := ?_)
                                simp only [Act.put, List.setIfInBounds_toArray, List.set_cons_zero, List.set_cons_succ]
                                refine oneA 15 85 hsel (h := ?_)
                                simp only [Act.put, List.setIfInBounds_toArray, List.set_cons_zero, List.set_cons_succ]
                                refine take_skipL (i := 16) (d := 86) (oi := ?_) ?_ hsel (by kernel_rfl) (by kernel_rfl) (fun _ _ _ h => h) ?_ ?_ (by assumption) ?_
                                case refine_2 => (simp only [List.getElem?_cons_succ, List.getElem?_cons_zero]; rfl)
                                case refine_3 => rfl
                                case refine_4 => rfl
                                simp only [Act.put, List.setIfInBounds_toArray, List.set_cons_zero, List.set_cons_succ]
                                refine take_skipL (i := 17) (d := 87) (oi := ?_) ?_ hsel (by kernel_rfl) (by kernel_rfl) (fun _ _ _ h => h) ?_ ?_ (by assumption) ?_
                                case refine_2 => (simp only [List.getElem?_cons_succ, List.getElem?_cons_zero]; rfl)
                                case refine_3 => rfl
                                case refine_4 => rfl
                                simp only [Act.put, List.setIfInBounds_toArray, List.set_cons_zero, List.set_cons_succ]
                                refine take_skipL (i := 18) (d := 88) (oi := ?_) ?_ hsel (by kernel_rfl) (by kernel_rfl) (fun _ _ _ h => h) ?_ ?_ (by assumption) ?_
                                case refine_2 => (simp only [List.getElem?_cons_succ, List.getElem?_cons_zero]; rfl)
                                case refine_3 => rfl
                                case refine_4 => rfl
                                simp only [Act.put, List.setIfInBounds_toArray, List.set_cons_zero, List.set_cons_succ]
                                refine take_skipL (i := 19) (d := 89) (oi := ?_) ?_ hsel (by kernel_rfl) (by kernel_rfl) (fun _ _ _ h => h) ?_ ?_ (by assumption) ?_
                                case refine_2 => (simp only [List.getElem?_cons_succ, List.getElem?_cons_zero]; rfl)
                                case refine_3 => rfl
                                case refine_4 => rfl
                                simp only [Act.put, List.setIfInBounds_toArray, List.set_cons_zero, List.set_cons_succ]
                                refine take_skipL (i := 20) (d := 90) (oi := ?_) ?_ hsel (by kernel_rfl) (by kernel_rfl) (fun _ _ _ h => h) ?_ ?_ (by assumption) ?_
                                case refine_2 => (simp only [List.getElem?_cons_succ, List.getElem?_cons_zero]; rfl)
                                case refine_3 => rfl
                                case refine_4 => rfl
                                simp only [Act.put, List.setIfInBounds_toArray, List.set_cons_zero, List.set_cons_succ]
                                refine take_skipL (i := 21) (d := 91) (oi := ?_) ?_ hsel (by kernel_rfl) (by kernel_rfl) (fun _ _ _ h => h) ?_ ?_ (by assumption) ?_
                                case refine_2 => (simp only [List.getElem?_cons_succ, List.getElem?_cons_zero]; rfl)
                                case refine_3 => rfl
                                case refine_4 => rfl
                                simp only [Act.put, List.setIfInBounds_toArray, List.set_cons_zero, List.set_cons_succ]
                                refine take_skipL (i := 22) (d := 92) (oi := ?_) ?_ hsel (by kernel_rfl) (by kernel_rfl) (fun _ _ _ h => h) ?_ ?_ (by assumption) ?_
                                case refine_2 => (simp only [List.getElem?_cons_succ, List.getElem?_cons_zero]; rfl)
                                case refine_3 => rfl
                                case refine_4 => rfl
                                simp only [Act.put, List.setIfInBounds_toArray, List.set_cons_zero, List.set_cons_succ]
                                refine oneA 23 93 hsel (h := ?_)
                                simp only [Act.put, List.setIfInBounds_toArray, List.set_cons_zero, List.set_cons_succ]
                                refine oneA 24 2 hsel (h := ?_)
                                simp only [Act.put, List.setIfInBounds_toArray, List.set_cons_zero, List.set_cons_succ]
                                refine wpAnyL_done (by kernel_rfl) (by kernel_rfl) ?_ _
                                clear hsel hHeld
                                go_wp2
                                go_ret
                                exact ⟨rfl, HO.out⟩
                            · skip
                              have h23d : decide (g < t) = false := decide_eq_false h23
                              rw [show okM g 1 t x r p l n = false from decide_eq_false (by unfold okP phP; omega)]
                              clear hmk
                              have HI : Hid (Blk (w.alloc (.cells #[.int .i64 g, .int .i64 1, .int .i64 t, .int .i64 x, .int .i64 r, .int .i64 p, .int .i64 l, .slice A n c] 25)) w.heap.size 25 [.int .i64 g, .int .i64 1, .int .i64 t, .int .i64 x, .int .i64 r, .int .i64 p, .int .i64 l, .slice A n c]) := Lib.hid (Blk.new w 25 [.int .i64 g, .int .i64 1, .int .i64 t, .int .i64 x, .int .i64 r, .int .i64 p, .int .i64 l, .slice A n c])
                              have HO : Hid (Only (w.heap.size ≤ ·) w (w.alloc (.cells #[.int .i64 g, .int .i64 1, .int .i64 t, .int .i64 x, .int .i64 r, .int .i64 p, .int .i64 l, .slice A n c] 25))) := Lib.hid ((Only.refl _ w).alloc (fun _ h => h) _)
                              go_enter Tryd.func26, Tryd.ntmps26
                              go_upto_region 7 with (fail)
                              replace HI := Lib.hid HI.out.drew
                              replace HO := Lib.hid HO.out.drew
                              refine wp_region_list (B := [false, false, false, false, false, false, false, false, false, false, false, false, false, false, false, false, false, false, false, false, false, false, false, false, false]) (S := (fun W => W.cell? ⟨w.heap.size, 0, none⟩ = some (.int .i64 g) ∧ W.cell? ⟨w.heap.size, 1, none⟩ = some (.int .i64 1) ∧ W.cell? ⟨w.heap.size, 2, none⟩ = some (.int .i64 t) ∧ W.cell? ⟨w.heap.size, 3, none⟩ = some (.int .i64 x) ∧ W.cell? ⟨w.heap.size, 4, none⟩ = some (.int .i64 r) ∧ W.cell? ⟨w.heap.size, 5, none⟩ = some (.int .i64 p) ∧ W.cell? ⟨w.heap.size, 6, none⟩ = some (.int .i64 l) ∧ W.cell? ⟨w.heap.size, 7, none⟩ = some (.slice A n c))) (by kernel_rfl) (by kernel_rfl) (by kernel_rfl) HI.out.eight (fun hsel hHeld => ?_)
                              generalize hwz : World.drew _ = wz at HI HO hHeld ⊢
                              clear hwz
                              refine oneA 0 70 hsel (h := ?_)
                              simp only [Act.put, List.setIfInBounds_toArray, List.set_cons_zero, List.set_cons_succ]
                              refine oneA 1 71 hsel (h := ?_)
                              simp only [Act.put, List.setIfInBounds_toArray, List.set_cons_zero, List.set_cons_succ]
                              refine oneA 2 72 hsel (h := ?_)
                              simp only [Act.put, List.setIfInBounds_toArray, List.set_cons_zero, List.set_cons_succ]
                              refine oneA 3 73 hsel (h := ?_)
                              simp only [Act.put, List.setIfInBounds_toArray, List.set_cons_zero, List.set_cons_succ]
                              refine oneA 4 74 hsel (h := ?_)
                              simp only [Act.put, List.setIfInBounds_toArray, List.set_cons_zero, List.set_cons_succ]
                              refine oneA 5 75 hsel (h := ?_)
                              simp only [Act.put, List.setIfInBounds_toArray, List.set_cons_zero, List.set_cons_succ]
                              refine oneA 6 76 hsel (h := ?_)
                              simp only [Act.put, List.setIfInBounds_toArray, List.set_cons_zero, List.set_cons_succ]
                              refine oneA 7 77 hsel (h := ?_)
                              simp only [Act.put, List.setIfInBounds_toArray, List.set_cons_zero, List.set_cons_succ]
                              refine oneA 8 78 hsel (h := ?_)
                              simp only [Act.put, List.setIfInBounds_toArray, List.set_cons_zero, List.set_cons_succ]
                              refine oneA 9 79 hsel (h := ?_)
                              simp only [Act.put, List.setIfInBounds_toArray, List.set_cons_zero, List.set_cons_succ]
                              refine oneA 10 80 hsel (h := ?_)
                              simp only [Act.put, List.setIfInBounds_toArray, List.set_cons_zero, List.set_cons_succ]
                              refine take_skipL (i := 11) (d := 81) (oi := ?_) ?_ hsel (by kernel_rfl) (by kernel_rfl) (fun _ _ _ h => h) ?_ ?_ (by assumption) ?_
                              case refine_2 => (simp only [List.getElem?_cons_succ, List.getElem?_cons_zero]; rfl)
                              case refine_3 => rfl
                              case refine_4 => rfl
                              simp only [Act.put, List.setIfInBounds_toArray, List.set_cons_zero, List.set_cons_succ]
                              refine take_skipL (i := 12) (d := 82) (oi := ?_) ?_ hsel (by kernel_rfl) (by kernel_rfl) (fun _ _ _ h => h) ?_ ?_ (by assumption) ?_
                              case refine_2 => (simp only [List.getElem?_cons_succ, List.getElem?_cons_zero]; rfl)
                              case refine_3 => rfl
                              case refine_4 => rfl
                              simp only [Act.put, List.setIfInBounds_toArray, List.set_cons_zero, List.set_cons_succ]
                              refine take_skipL (i := 13) (d := 83) (oi := ?_) ?_ hsel (by kernel_rfl) (by kernel_rfl) (fun _ _ _ h => h) ?_ ?_ (by assumption) ?_
                              case refine_2 => (simp only [List.getElem?_cons_succ, List.getElem?_cons_zero]; rfl)
                              case refine_3 => rfl
                              case refine_4 => rfl
                              simp only [Act.put, List.setIfInBounds_toArray, List.set_cons_zero, List.set_cons_succ]
                              refine oneA 14 84 hsel (h := ?_)
                              simp only [Act.put, List.setIfInBounds_toArray, List.set_cons_zero, List.set_cons_succ]
                              refine oneA 15 85 hsel (h := ?_)
                              simp only [Act.put, List.setIfInBounds_toArray, List.set_cons_zero, List.set_cons_succ]
                              refine take_skipL (i := 16) (d := 86) (oi := ?_) ?_ hsel (by kernel_rfl) (by kernel_rfl) (fun _ _ _ h => h) ?_ ?_ (by assumption) ?_
                              case refine_2 => (simp only [List.getElem?_cons_succ, List.getElem?_cons_zero]; rfl)
                              case refine_3 => rfl
                              case refine_4 => rfl
                              simp only [Act.put, List.setIfInBounds_toArray, List.set_cons_zero, List.set_cons_succ]
                              refine take_skipL (i := 17) (d := 87) (oi := ?_) ?_ hsel (by kernel_rfl) (by kernel_rfl) (fun _ _ _ h => h) ?_ ?_ (by assumption) ?_
                              case refine_2 => (simp only [List.getElem?_cons_succ, List.getElem?_cons_zero]; rfl)
                              case refine_3 => rfl
                              case refine_4 => rfl
                              simp only [Act.put, List.setIfInBounds_toArray, List.set_cons_zero, List.set_cons_succ]
                              refine take_skipL (i := 18) (d := 88) (oi := ?_) ?_ hsel (by kernel_rfl) (by kernel_rfl) (fun _ _ _ h => h) ?_ ?_ (by assumption) ?_
                              case refine_2 => (simp only [List.getElem?_cons_succ, List.getElem?_cons_zero]; rfl)
                              case refine_3 => rfl
                              case refine_4 => rfl
                              simp only [Act.put, List.setIfInBounds_toArray, List.set_cons_zero, List.set_cons_succ]
                              refine take_skipL (i := 19) (d := 89) (oi := ?_) ?_ hsel (by kernel_rfl) (by kernel_rfl) (fun _ _ _ h => h) ?_ ?_ (by assumption) ?_
                              case refine_2 => (simp only [List.getElem?_cons_succ, List.getElem?_cons_zero]; rfl)
                              case refine_3 => rfl
                              case refine_4 => rfl
                              simp only [Act.put, List.setIfInBounds_toArray, List.set_cons_zero, List.set_cons_succ]
                              refine take_skipL (i := 20) (d := 90) (oi := ?_) ?_ hsel (by kernel_rfl) (by kernel_rfl) (fun _ _ _ h => h) ?_ ?_ (by assumption) ?_
                              case refine_2 => (simp only [List.getElem?_cons_succ, List.getElem?_cons_zero]; rfl)
                              case refine_3 => rfl
                              case refine_4 => rfl
                              simp only [Act.put, List.setIfInBounds_toArray, List.set_cons_zero, List.set_cons_succ]
                              refine take_skipL (i := 21) (d := 91) (oi := ?_) ?_ hsel (by kernel_rfl) (by kernel_rfl) (fun _ _ _ h => h) ?_ ?_ (by assumption) ?_
                              case refine_2 => (simp only [List.getElem?_cons_succ, List.getElem?_cons_zero]; rfl)
                              case refine_3 => rfl
                              case refine_4 => rfl
                              simp only [Act.put, List.setIfInBounds_toArray, List.set_cons_zero, List.set_cons_succ]
                              refine take_skipL (i := 22) (d := 92) (oi := ?_) ?_ hsel (by kernel_rfl) (by kernel_rfl) (fun _ _ _ h => h) ?_ ?_ (by assumption) ?_
                              case refine_2 => (simp only [List.getElem?_cons_succ, List.getElem?_cons_zero]; rfl)
                              case refine_3 => rfl
                              case refine_4 => rfl
                              simp only [Act.put, List.setIfInBounds_toArray, List.set_cons_zero, List.set_cons_succ]
                              refine oneA 23 93 hsel (h := ?_)
                              simp only [Act.put, List.setIfInBounds_toArray, List.set_cons_zero, List.set_cons_succ]
                              refine oneA 24 2 hsel (h := ?_)
                              simp only [Act.put, List.setIfInBounds_toArray, List.set_cons_zero, List.set_cons_succ]
                              refine wpAnyL_done (by kernel_rfl) (by kernel_rfl) ?_ _
                              clear hsel hHeld
                              go_wp2
                              go_ret
                              exact ⟨rfl, HO.out⟩
                          · skip
                            have h22b : (ph == 1) = false := by rw [beq_eq_false_iff_ne]; omega
                            have h22n : (ph != 1) = true := by rw [bne_iff_ne]; omega
                            rw [show okM g ph t x r p l n = false from decide_eq_false (by unfold okP phP; omega)]
                            have HI : Hid (Blk (w.alloc (.cells #[.int .i64 g, .int .i64 ph, .int .i64 t, .int .i64 x, .int .i64 r, .int .i64 p, .int .i64 l, .slice A n c] 25)) w.heap.size 25 [.int .i64 g, .int .i64 ph, .int .i64 t, .int .i64 x, .int .i64 r, .int .i64 p, .int .i64 l, .slice A n c]) := Lib.hid (Blk.new w 25 [.int .i64 g, .int .i64 ph, .int .i64 t, .int .i64 x, .int .i64 r, .int .i64 p, .int .i64 l, .slice A n c])
                            have HO : Hid (Only (w.heap.size ≤ ·) w (w.alloc (.cells #[.int .i64 g, .int .i64 ph, .int .i64 t, .int .i64 x, .int .i64 r, .int .i64 p, .int .i64 l, .slice A n c] 25))) := Lib.hid ((Only.refl _ w).alloc (fun _ h => h) _)
                            go_enter Tryd.func26, Tryd.ntmps26
                            go_upto_region 7 with (fail)
                            replace HI := Lib.hid HI.out.drew
                            replace HO := Lib.hid HO.out.drew
                            refine wp_region_list (B := [false, false, false, false, false, false, false, false, false, false, false, false, false, false, false, false, false, false, false, false, false, false, false, false, false]) (S := (fun W => W.cell? ⟨w.heap.size, 0, none⟩ = some (.int .i64 g) ∧ W.cell? ⟨w.heap.size, 1, none⟩ = some (.int .i64 ph) ∧ W.cell? ⟨w.heap.size, 2, none⟩ = some (.int .i64 t) ∧ W.cell? ⟨w.heap.size, 3, none⟩ = some (.int .i64 x) ∧ W.cell? ⟨w.heap.size, 4, none⟩ = some (.int .i64 r) ∧ W.cell? ⟨w.heap.size, 5, none⟩ = some (.int .i64 p) ∧ W.cell? ⟨w.heap.size, 6, none⟩ = some (.int .i64 l) ∧ W.cell? ⟨w.heap.size, 7, none⟩ = some (.slice A n c))) (by kernel_rfl) (by kernel_rfl) (by kernel_rfl) HI.out.eight (fun hsel hHeld => ?_)
                            generalize hwz : World.drew _ = wz at HI HO hHeld ⊢
                            clear hwz
                            refine oneA 0 70 hsel (h := ?_)
                            simp only [Act.put, List.setIfInBounds_toArray, List.set_cons_zero, List.set_cons_succ]
                            refine oneA 1 71 hsel (h := ?_)
                            simp only [Act.put, List.setIfInBounds_toArray, List.set_cons_zero, List.set_cons_succ]
                            refine oneA 2 72 hsel (h := ?_)
                            simp only [Act.put, List.setIfInBounds_toArray, List.set_cons_zero, List.set_cons_succ]
                            refine oneA 3 73 hsel (h := ?_)
                            simp only [Act.put, List.setIfInBounds_toArray, List.set_cons_zero, List.set_cons_succ]
                            refine take_skipL (i := 4) (d := 74) (oi := ?_) ?_ hsel (by kernel_rfl) (by kernel_rfl) (fun _ _ _ h => h) ?_ ?_ (by assumption) ?_
                            case refine_2 => (simp only [List.getElem?_cons_succ, List.getElem?_cons_zero]; rfl)
                            case refine_3 => rfl
                            case refine_4 => rfl
                            simp only [Act.put, List.setIfInBounds_toArray, List.set_cons_zero, List.set_cons_succ]
                            refine take_skipL (i := 5) (d := 75) (oi := ?_) ?_ hsel (by kernel_rfl) (by kernel_rfl) (fun _ _ _ h => h) ?_ ?_ (by assumption) ?_
                            case refine_2 => (simp only [List.getElem?_cons_succ, List.getElem?_cons_zero]; rfl)
                            case refine_3 => rfl
                            case refine_4 => rfl
                            simp only [Act.put, List.setIfInBounds_toArray, List.set_cons_zero, List.set_cons_succ]
                            refine take_skipL (i := 6) (d := 76) (oi := ?_) ?_ hsel (by kernel_rfl) (by kernel_rfl) (fun _ _ _ h => h) ?_ ?_ (by assumption) ?_
                            case refine_2 => (simp only [List.getElem?_cons_succ, List.getElem?_cons_zero]; rfl)
                            case refine_3 => rfl
                            case refine_4 => rfl
                            simp only [Act.put, List.setIfInBounds_toArray, List.set_cons_zero, List.set_cons_succ]
                            refine take_skipL (i := 7) (d := 77) (oi := ?_) ?_ hsel (by kernel_rfl) (by kernel_rfl) (fun _ _ _ h => h) ?_ ?_ (by assumption) ?_
                            case refine_2 => (simp only [List.getElem?_cons_succ, List.getElem?_cons_zero]; rfl)
                            case refine_3 => rfl
                            case refine_4 => rfl
                            simp only [Act.put, List.setIfInBounds_toArray, List.set_cons_zero, List.set_cons_succ]
                            refine take_skipL (i := 8) (d := 78) (oi := ?_) ?_ hsel (by kernel_rfl) (by kernel_rfl) (fun _ _ _ h => h) ?_ ?_ (by assumption) ?_
                            case refine_2 => (simp only [List.getElem?_cons_succ, List.getElem?_cons_zero]; rfl)
                            case refine_3 => rfl
                            case refine_4 => rfl
                            simp only [Act.put, List.setIfInBounds_toArray, List.set_cons_zero, List.set_cons_succ]
                            refine oneA 9 79 hsel (h := ?_)
                            simp only [Act.put, List.setIfInBounds_toArray, List.set_cons_zero, List.set_cons_succ]
                            refine oneA 10 80 hsel (h := ?_)
                            simp only [Act.put, List.setIfInBounds_toArray, List.set_cons_zero, List.set_cons_succ]
                            refine take_skipL (i := 11) (d := 81) (oi := ?_) ?_ hsel (by kernel_rfl) (by kernel_rfl) (fun _ _ _ h => h) ?_ ?_ (by assumption) ?_
                            case refine_2 => (simp only [List.getElem?_cons_succ, List.getElem?_cons_zero]; rfl)
                            case refine_3 => rfl
                            case refine_4 => rfl
                            simp only [Act.put, List.setIfInBounds_toArray, List.set_cons_zero, List.set_cons_succ]
                            refine take_skipL (i := 12) (d := 82) (oi := ?_) ?_ hsel (by kernel_rfl) (by kernel_rfl) (fun _ _ _ h => h) ?_ ?_ (by assumption) ?_
                            case refine_2 => (simp only [List.getElem?_cons_succ, List.getElem?_cons_zero]; rfl)
                            case refine_3 => rfl
                            case refine_4 => rfl
                            simp only [Act.put, List.setIfInBounds_toArray, List.set_cons_zero, List.set_cons_succ]
                            refine take_skipL (i := 13) (d := 83) (oi := ?_) ?_ hsel (by kernel_rfl) (by kernel_rfl) (fun _ _ _ h => h) ?_ ?_ (by assumption) ?_
                            case refine_2 => (simp only [List.getElem?_cons_succ, List.getElem?_cons_zero]; rfl)
                            case refine_3 => rfl
                            case refine_4 => rfl
                            simp only [Act.put, List.setIfInBounds_toArray, List.set_cons_zero, List.set_cons_succ]
                            refine oneA 14 84 hsel (h := ?_)
                            simp only [Act.put, List.setIfInBounds_toArray, List.set_cons_zero, List.set_cons_succ]
                            refine oneA 15 85 hsel (h := ?_)
                            simp only [Act.put, List.setIfInBounds_toArray, List.set_cons_zero, List.set_cons_succ]
                            refine take_skipL (i := 16) (d := 86) (oi := ?_) ?_ hsel (by kernel_rfl) (by kernel_rfl) (fun _ _ _ h => h) ?_ ?_ (by assumption) ?_
                            case refine_2 => (simp only [List.getElem?_cons_succ, List.getElem?_cons_zero]; rfl)
                            case refine_3 => rfl
                            case refine_4 => rfl
                            simp only [Act.put, List.setIfInBounds_toArray, List.set_cons_zero, List.set_cons_succ]
                            refine take_skipL (i := 17) (d := 87) (oi := ?_) ?_ hsel (by kernel_rfl) (by kernel_rfl) (fun _ _ _ h => h) ?_ ?_ (by assumption) ?_
                            case refine_2 => (simp only [List.getElem?_cons_succ, List.getElem?_cons_zero]; rfl)
                            case refine_3 => rfl
                            case refine_4 => rfl
                            simp only [Act.put, List.setIfInBounds_toArray, List.set_cons_zero, List.set_cons_succ]
                            refine take_skipL (i := 18) (d := 88) (oi := ?_) ?_ hsel (by kernel_rfl) (by kernel_rfl) (fun _ _ _ h => h) ?_ ?_ (by assumption) ?_
                            case refine_2 => (simp only [List.getElem?_cons_succ, List.getElem?_cons_zero]; rfl)
                            case refine_3 => rfl
                            case refine_4 => rfl
                            simp only [Act.put, List.setIfInBounds_toArray, List.set_cons_zero, List.set_cons_succ]
                            refine take_skipL (i := 19) (d := 89) (oi := ?_) ?_ hsel (by kernel_rfl) (by kernel_rfl) (fun _ _ _ h => h) ?_ ?_ (by assumption) ?_
                            case refine_2 => (simp only [List.getElem?_cons_succ, List.getElem?_cons_zero]; rfl)
                            case refine_3 => rfl
                            case refine_4 => rfl
                            simp only [Act.put, List.setIfInBounds_toArray, List.set_cons_zero, List.set_cons_succ]
                            refine take_skipL (i := 20) (d := 90) (oi := ?_) ?_ hsel (by kernel_rfl) (by kernel_rfl) (fun _ _ _ h => h) ?_ ?_ (by assumption) ?_
                            case refine_2 => (simp only [List.getElem?_cons_succ, List.getElem?_cons_zero]; rfl)
                            case refine_3 => rfl
                            case refine_4 => rfl
                            simp only [Act.put, List.setIfInBounds_toArray, List.set_cons_zero, List.set_cons_succ]
                            refine take_skipL (i := 21) (d := 91) (oi := ?_) ?_ hsel (by kernel_rfl) (by kernel_rfl) (fun _ _ _ h => h) ?_ ?_ (by assumption) ?_
                            case refine_2 => (simp only [List.getElem?_cons_succ, List.getElem?_cons_zero]; rfl)
                            case refine_3 => rfl
                            case refine_4 => rfl
                            simp only [Act.put, List.setIfInBounds_toArray, List.set_cons_zero, List.set_cons_succ]
                            refine take_skipL (i := 22) (d := 92) (oi := ?_) ?_ hsel (by kernel_rfl) (by kernel_rfl) (fun _ _ _ h => h) ?_ ?_ (by assumption) ?_
                            case refine_2 => (simp only [List.getElem?_cons_succ, List.getElem?_cons_zero]; rfl)
                            case refine_3 => rfl
                            case refine_4 => rfl
                            simp only [Act.put, List.setIfInBounds_toArray, List.set_cons_zero, List.set_cons_succ]
                            refine oneA 23 93 hsel (h := ?_)
                            simp only [Act.put, List.setIfInBounds_toArray, List.set_cons_zero, List.set_cons_succ]
                            refine oneA 24 2 hsel (h := ?_)
                            simp only [Act.put, List.setIfInBounds_toArray, List.set_cons_zero, List.set_cons_succ]
                            refine wpAnyL_done (by kernel_rfl) (by kernel_rfl) ?_ _
                            clear hsel hHeld
                            go_wp2
                            go_ret
                            exact ⟨rfl, HO.out⟩
end
end Go.Proofs.YtopaponemjaenaaDoor
