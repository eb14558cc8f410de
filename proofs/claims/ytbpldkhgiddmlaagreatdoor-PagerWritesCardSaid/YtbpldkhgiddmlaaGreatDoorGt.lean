/-
  Mta Mtb Mtc Mpu Men: as one text.
-/
import Derived.Test.YtbpldkhgiddmlaaGreatDoorGm
import Derived.Test.YtbpldkhgiddmlaaGreatDoorGe
import Derived.Lib.SlBytesConst
/-
  Metas: small functions.
-/
set_option linter.unusedVariables false
namespace Go.Proofs.YtbpldkhgiddmlaaGreatDoor
open Go.RowKit

theorem Blk.eight {w : World} {q : Nat} {ty : TypeId} {a b c d e f g h : Value} (H : Blk w q ty [a, b, c, d, e, f, g, h]) : w.cell? ⟨q, 0, none⟩ = some a ∧ w.cell? ⟨q, 1, none⟩ = some b ∧ w.cell? ⟨q, 2, none⟩ = some c ∧ w.cell? ⟨q, 3, none⟩ = some d ∧ w.cell? ⟨q, 4, none⟩ = some e ∧ w.cell? ⟨q, 5, none⟩ = some f ∧ w.cell? ⟨q, 6, none⟩ = some g ∧ w.cell? ⟨q, 7, none⟩ = some h := ⟨H.cell 0, H.cell 1, H.cell 2, H.cell 3, H.cell 4, H.cell 5, H.cell 6, H.cell 7⟩
/-- Is it a page that a meta may name? -/
def iP (p q : Int) : Bool := decide (2 ≤ q ∧ q < p)
section
variable (w : World) (g ph t x r p l : Int) (A : Option Addr) (n c : Nat)
theorem MisPage_c (q : Int) : Calls Tryz.prog 72 #[.agg #[.int .i64 g, .int .i64 ph, .int .i64 t, .int .i64 x, .int .i64 r, .int .i64 p, .int .i64 l, .slice A n c], .int .i64 q] w (Told w (.bool (iP p q))) := by
  by_cases h : 2 ≤ q
  · by_cases h2 : q < p
    · rw [show iP p q = true from decide_eq_true ⟨h, h2⟩]
      go_enter Tryz.func72, Tryz.ntmps72
      go_wp2
      go_ret
      exact ⟨rfl, (Only.refl _ w).alloc (fun _ h => h) _⟩
    · rw [show iP p q = false from decide_eq_false fun e => h2 e.2]
      go_enter Tryz.func72, Tryz.ntmps72
      go_wp2
      go_ret
      exact ⟨rfl, (Only.refl _ w).alloc (fun _ h => h) _⟩
  · rw [show iP p q = false from decide_eq_false fun e => h e.1]
    go_enter Tryz.func72, Tryz.ntmps72
    go_wp2
    go_ret
    exact ⟨rfl, (Only.refl _ w).alloc (fun _ h => h) _⟩
theorem Mwide_c (hG : Gens w) : Calls Tryz.prog 85 #[.int .i64 g] w (Told w (.int .i64 (tr g 4 8 8))) := by
  have HC := Lib.hid (IdWidth_c w g hG)
  clear hG
  go_enter Tryz.func85, Tryz.ntmps85
  go_wp2_with (go_at_call 100; (with_reducible refine HC.out.mono ?_); rintro e w1 ⟨rfl, ho⟩; have HO := Lib.hid ho; clear ho)
  go_ret
  exact ⟨rfl, HO.out⟩
theorem MSlot_c : Calls Tryz.prog 46 #[.int .i64 x] w fun e w' => e = .returned (.int .i64 (bits .and .i64 x 1)) ∧ w = w' := by
  go_enter Tryz.func46, Tryz.ntmps46
  go_wp2
  go_ret
  exact ⟨rfl, rfl⟩
end
end Go.Proofs.YtbpldkhgiddmlaaGreatDoor

/-
  Metas: which may be.
-/
set_option linter.unusedVariables false
namespace Go.Proofs.YtbpldkhgiddmlaaGreatDoor
open Go.RowKit

/-- The target and the cursor are as the phase asks. -/
def phP (g ph t : Int) (n : Nat) : Prop := (ph = 0 ∧ t = 0 ∧ n = 0) ∨ (ph = 1 ∧ (1 ≤ t ∧ t ≤ 3) ∧ g < t ∧ (n : Int) ≤ tr t 16 20 24)
instance (g ph t : Int) (n : Nat) : Decidable (phP g ph t n) := by unfold phP; infer_instance
def phM (g ph t : Int) (n : Nat) : Bool := decide (phP g ph t n)
/-- There may be such a meta. -/
def okP (g ph t x r p l : Int) (n : Nat) : Prop := (1 ≤ g ∧ g ≤ 3) ∧ phP g ph t n ∧ 1 ≤ x ∧ x ≤ 2147483647 ∧ p ≤ 16384 ∧ (2 ≤ r ∧ r < p) ∧ (l = 0 ∨ (2 ≤ l ∧ l < p))
instance (g ph t x r p l : Int) (n : Nat) : Decidable (okP g ph t x r p l n) := by unfold okP; infer_instance
def okM (g ph t x r p l : Int) (n : Nat) : Bool := decide (okP g ph t x r p l n)
section
variable (w : World) (g ph t x r p l : Int) (A : Option Addr) (n c : Nat)
set_option maxRecDepth 100000 in
set_option maxHeartbeats 6400000 in
theorem Mphased_c (hG : Gens w) : Calls Tryz.prog 71 #[.agg #[.int .i64 g, .int .i64 ph, .int .i64 t, .int .i64 x, .int .i64 r, .int .i64 p, .int .i64 l, .slice A n c]] w (Told w (.bool (phM g ph t n))) := by
  by_cases h1 : ph = 0
  · skip
    subst h1
    by_cases h2 : t = 0
    · skip
      subst h2
      by_cases h3 : n = 0
      · skip
        subst h3
        rw [show phM g 0 0 0 = true from decide_eq_true (by unfold phP; omega)]
        have HI : Hid (Blk (w.alloc (.cells #[.int .i64 g, .int .i64 0, .int .i64 0, .int .i64 x, .int .i64 r, .int .i64 p, .int .i64 l, .slice A 0 c] 45)) w.heap.size 45 [.int .i64 g, .int .i64 0, .int .i64 0, .int .i64 x, .int .i64 r, .int .i64 p, .int .i64 l, .slice A 0 c]) := Lib.hid (Blk.new w 45 [.int .i64 g, .int .i64 0, .int .i64 0, .int .i64 x, .int .i64 r, .int .i64 p, .int .i64 l, .slice A 0 c])
        have HO : Hid (Only (w.heap.size ≤ ·) w (w.alloc (.cells #[.int .i64 g, .int .i64 0, .int .i64 0, .int .i64 x, .int .i64 r, .int .i64 p, .int .i64 l, .slice A 0 c] 45))) := Lib.hid ((Only.refl _ w).alloc (fun _ h => h) _)
        go_enter Tryz.func71, Tryz.ntmps71
        go_wp2
        go_ret
        exact ⟨rfl, HO.out⟩
      · skip
        have h3b : ((n : Int) == 0) = false := by rw [beq_eq_false_iff_ne]; omega
        have h3n : ((n : Int) != 0) = true := by rw [bne_iff_ne]; omega
        rw [show phM g 0 0 n = false from decide_eq_false (by unfold phP; omega)]
        have HI : Hid (Blk (w.alloc (.cells #[.int .i64 g, .int .i64 0, .int .i64 0, .int .i64 x, .int .i64 r, .int .i64 p, .int .i64 l, .slice A n c] 45)) w.heap.size 45 [.int .i64 g, .int .i64 0, .int .i64 0, .int .i64 x, .int .i64 r, .int .i64 p, .int .i64 l, .slice A n c]) := Lib.hid (Blk.new w 45 [.int .i64 g, .int .i64 0, .int .i64 0, .int .i64 x, .int .i64 r, .int .i64 p, .int .i64 l, .slice A n c])
        have HO : Hid (Only (w.heap.size ≤ ·) w (w.alloc (.cells #[.int .i64 g, .int .i64 0, .int .i64 0, .int .i64 x, .int .i64 r, .int .i64 p, .int .i64 l, .slice A n c] 45))) := Lib.hid ((Only.refl _ w).alloc (fun _ h => h) _)
        go_enter Tryz.func71, Tryz.ntmps71
        go_wp2
        go_ret
        exact ⟨rfl, HO.out⟩
    · skip
      have h2b : (t == 0) = false := by rw [beq_eq_false_iff_ne]; omega
      have h2n : (t != 0) = true := by rw [bne_iff_ne]; omega
      rw [show phM g 0 t n = false from decide_eq_false (by unfold phP; omega)]
      have HI : Hid (Blk (w.alloc (.cells #[.int .i64 g, .int .i64 0, .int .i64 t, .int .i64 x, .int .i64 r, .int .i64 p, .int .i64 l, .slice A n c] 45)) w.heap.size 45 [.int .i64 g, .int .i64 0, .int .i64 t, .int .i64 x, .int .i64 r, .int .i64 p, .int .i64 l, .slice A n c]) := Lib.hid (Blk.new w 45 [.int .i64 g, .int .i64 0, .int .i64 t, .int .i64 x, .int .i64 r, .int .i64 p, .int .i64 l, .slice A n c])
      have HO : Hid (Only (w.heap.size ≤ ·) w (w.alloc (.cells #[.int .i64 g, .int .i64 0, .int .i64 t, .int .i64 x, .int .i64 r, .int .i64 p, .int .i64 l, .slice A n c] 45))) := Lib.hid ((Only.refl _ w).alloc (fun _ h => h) _)
      go_enter Tryz.func71, Tryz.ntmps71
      go_wp2
      go_ret
      exact ⟨rfl, HO.out⟩
  · skip
    have h1b : (ph == 0) = false := by rw [beq_eq_false_iff_ne]; omega
    have h1n : (ph != 0) = true := by rw [bne_iff_ne]; omega
    by_cases h4 : ph = 1
    · skip
      subst h4
      obtain ⟨mk, hmk⟩ : ∃ mk, mk = tr t 16 20 24 := ⟨_, rfl⟩
      by_cases h5 : 1 ≤ t ∧ t ≤ 3
      · skip
        have HGC : Hid (∀ W, Calls Tryz.prog 70 #[.int .i64 t] W fun e w' => e = .returned (.bool true) ∧ W = w') := Lib.hid fun W => by have h := Gen_c W t; rwa [show gen t = true from decide_eq_true (by omega)] at h
        have HMK : Hid (∀ W, Only (w.heap.size ≤ ·) w W → Calls Tryz.prog 92 #[.int .i64 t] W (Told W (.int .i64 mk))) := Lib.hid fun W hW => by have h := MaxKey_c W t (hG.later hW); rwa [← hmk] at h
        by_cases h6 : g < t
        · skip
          have h6d : decide (g < t) = true := decide_eq_true h6
          by_cases h7 : (n : Int) ≤ mk
          · skip
            have h7d : decide ((n : Int) ≤ mk) = true := decide_eq_true h7
            rw [show phM g 1 t n = true from decide_eq_true (by unfold phP; omega)]
            clear hmk
            have HI : Hid (Blk (w.alloc (.cells #[.int .i64 g, .int .i64 1, .int .i64 t, .int .i64 x, .int .i64 r, .int .i64 p, .int .i64 l, .slice A n c] 45)) w.heap.size 45 [.int .i64 g, .int .i64 1, .int .i64 t, .int .i64 x, .int .i64 r, .int .i64 p, .int .i64 l, .slice A n c]) := Lib.hid (Blk.new w 45 [.int .i64 g, .int .i64 1, .int .i64 t, .int .i64 x, .int .i64 r, .int .i64 p, .int .i64 l, .slice A n c])
            have HO : Hid (Only (w.heap.size ≤ ·) w (w.alloc (.cells #[.int .i64 g, .int .i64 1, .int .i64 t, .int .i64 x, .int .i64 r, .int .i64 p, .int .i64 l, .slice A n c] 45))) := Lib.hid ((Only.refl _ w).alloc (fun _ h => h) _)
            go_enter Tryz.func71, Tryz.ntmps71
            go_upto_region 5 with (fail)
            replace HI := Lib.hid HI.out.drew
            replace HO := Lib.hid HO.out.drew
            refine wp_region_list (B := [false, false, false, false, false, false, false, false, false, false, false, false, false, false, false, false, false, false, false, false]) (S := (fun W => W.cell? ⟨w.heap.size, 0, none⟩ = some (.int .i64 g) ∧ W.cell? ⟨w.heap.size, 1, none⟩ = some (.int .i64 1) ∧ W.cell? ⟨w.heap.size, 2, none⟩ = some (.int .i64 t) ∧ W.cell? ⟨w.heap.size, 3, none⟩ = some (.int .i64 x) ∧ W.cell? ⟨w.heap.size, 4, none⟩ = some (.int .i64 r) ∧ W.cell? ⟨w.heap.size, 5, none⟩ = some (.int .i64 p) ∧ W.cell? ⟨w.heap.size, 6, none⟩ = some (.int .i64 l) ∧ W.cell? ⟨w.heap.size, 7, none⟩ = some (.slice A n c))) (by kernel_rfl) (by kernel_rfl) (by kernel_rfl) HI.out.eight (fun hsel hHeld => ?_)
            generalize hwz : World.drew _ = wz at HI HO hHeld ⊢
            clear hwz
            refine oneA 0 18 hsel (h := ?_)
            simp only [Act.put, lsa, lsz, lss]
            refine oneA 1 19 hsel (h := ?_)
            simp only [Act.put, lsa, lsz, lss]
            refine wpAnyL_ready (rs := [2]) (by kernel_rfl) (by kernel_rfl) (by simp) ?_
            refine AllReadyL.cons (o := ?_) ?_ (fun K hK => ?_) AllReadyL.nil
            case refine_2 => (simp only [List.getElem?_cons_succ, List.getElem?_cons_zero]; rfl)
            go_simp
            (go_at_call 70; (with_reducible refine (HGC.out _).mono ?_); rintro ee w2 ⟨rfl, rfl⟩)
            go_wp2_with (fail)
            clear hHeld
            refine hK.out _ _ HI.out.eight (fun hHeld => ?_)
            clear hK K
            try simp only [List.set_cons_zero, List.set_cons_succ]
            refine oneA 3 21 hsel (h := ?_)
            simp only [Act.put, lsa, lsz, lss]
            refine oneA 4 22 hsel (h := ?_)
            simp only [Act.put, lsa, lsz, lss]
            refine oneA 5 23 hsel (h := ?_)
            simp only [Act.put, lsa, lsz, lss]
            refine oneA 6 24 hsel (h := ?_)
            simp only [Act.put, lsa, lsz, lss]
            refine oneA 7 25 hsel (h := ?_)
            simp only [Act.put, lsa, lsz, lss]
            refine oneA 8 26 hsel (h := ?_)
            simp only [Act.put, lsa, lsz, lss]
            refine oneA 9 27 hsel (h := ?_)
            simp only [Act.put, lsa, lsz, lss]
            refine oneA 10 28 hsel (h := ?_)
            simp only [Act.put, lsa, lsz, lss]
            refine oneA 11 29 hsel (h := ?_)
            simp only [Act.put, lsa, lsz, lss]
            refine oneA 12 30 hsel (h := ?_)
            simp only [Act.put, lsa, lsz, lss]
            refine oneA 13 31 hsel (h := ?_)
            simp only [Act.put, lsa, lsz, lss]
            refine oneA 14 32 hsel (h := ?_)
            simp only [Act.put, lsa, lsz, lss]
            refine oneA 15 33 hsel (h := ?_)
            simp only [Act.put, lsa, lsz, lss]
            refine wpAnyL_ready (rs := [16]) (by kernel_rfl) (by kernel_rfl) (by simp) ?_
            refine AllReadyL.cons (o := ?_) ?_ (fun K hK => ?_) AllReadyL.nil
            case refine_2 => (simp only [List.getElem?_cons_succ, List.getElem?_cons_zero]; rfl)
            go_simp
            (go_at_call 92; (with_reducible refine (HMK.out _ HO.out).mono ?_); rintro ee w2 ⟨rfl, ho⟩; (replace HI := Lib.hid (HI.out.later ho)); (replace HO := Lib.hid (on_new HO.out ho)); clear ho)
            go_wp2_with (fail)
            clear hHeld
            refine hK.out _ _ HI.out.eight (fun hHeld => ?_)
            clear hK K
            try simp only [List.set_cons_zero, List.set_cons_succ]
            refine oneA 17 35 hsel (h := ?_)
            simp only [Act.put, lsa, lsz, lss]
            refine oneA 18 36 hsel (h := ?_)
            simp only [Act.put, lsa, lsz, lss]
            refine oneA 19 2 hsel (h := ?_)
            simp only [Act.put, lsa, lsz, lss]
            refine wpAnyL_done (by kernel_rfl) (by kernel_rfl) ?_ _
            clear hsel hHeld
            go_wp2
            go_ret
            exact ⟨rfl, HO.out⟩
          · skip
            have h7d : decide ((n : Int) ≤ mk) = false := decide_eq_false h7
            rw [show phM g 1 t n = false from decide_eq_false (by unfold phP; omega)]
            clear hmk
            have HI : Hid (Blk (w.alloc (.cells #[.int .i64 g, .int .i64 1, .int .i64 t, .int .i64 x, .int .i64 r, .int .i64 p, .int .i64 l, .slice A n c] 45)) w.heap.size 45 [.int .i64 g, .int .i64 1, .int .i64 t, .int .i64 x, .int .i64 r, .int .i64 p, .int .i64 l, .slice A n c]) := Lib.hid (Blk.new w 45 [.int .i64 g, .int .i64 1, .int .i64 t, .int .i64 x, .int .i64 r, .int .i64 p, .int .i64 l, .slice A n c])
            have HO : Hid (Only (w.heap.size ≤ ·) w (w.alloc (.cells #[.int .i64 g, .int .i64 1, .int .i64 t, .int .i64 x, .int .i64 r, .int .i64 p, .int .i64 l, .slice A n c] 45))) := Lib.hid ((Only.refl _ w).alloc (fun _ h => h) _)
            go_enter Tryz.func71, Tryz.ntmps71
            go_upto_region 5 with (fail)
            replace HI := Lib.hid HI.out.drew
            replace HO := Lib.hid HO.out.drew
            refine wp_region_list (B := [false, false, false, false, false, false, false, false, false, false, false, false, false, false, false, false, false, false, false, false]) (S := (fun W => W.cell? ⟨w.heap.size, 0, none⟩ = some (.int .i64 g) ∧ W.cell? ⟨w.heap.size, 1, none⟩ = some (.int .i64 1) ∧ W.cell? ⟨w.heap.size, 2, none⟩ = some (.int .i64 t) ∧ W.cell? ⟨w.heap.size, 3, none⟩ = some (.int .i64 x) ∧ W.cell? ⟨w.heap.size, 4, none⟩ = some (.int .i64 r) ∧ W.cell? ⟨w.heap.size, 5, none⟩ = some (.int .i64 p) ∧ W.cell? ⟨w.heap.size, 6, none⟩ = some (.int .i64 l) ∧ W.cell? ⟨w.heap.size, 7, none⟩ = some (.slice A n c))) (by kernel_rfl) (by kernel_rfl) (by kernel_rfl) HI.out.eight (fun hsel hHeld => ?_)
            generalize hwz : World.drew _ = wz at HI HO hHeld ⊢
            clear hwz
            refine oneA 0 18 hsel (h := ?_)
            simp only [Act.put, lsa, lsz, lss]
            refine oneA 1 19 hsel (h := ?_)
            simp only [Act.put, lsa, lsz, lss]
            refine wpAnyL_ready (rs := [2]) (by kernel_rfl) (by kernel_rfl) (by simp) ?_
            refine AllReadyL.cons (o := ?_) ?_ (fun K hK => ?_) AllReadyL.nil
            case refine_2 => (simp only [List.getElem?_cons_succ, List.getElem?_cons_zero]; rfl)
            go_simp
            (go_at_call 70; (with_reducible refine (HGC.out _).mono ?_); rintro ee w2 ⟨rfl, rfl⟩)
            go_wp2_with (fail)
            clear hHeld
            refine hK.out _ _ HI.out.eight (fun hHeld => ?_)
            clear hK K
            try simp only [List.set_cons_zero, List.set_cons_succ]
            refine oneA 3 21 hsel (h := ?_)
            simp only [Act.put, lsa, lsz, lss]
            refine oneA 4 22 hsel (h := ?_)
            simp only [Act.put, lsa, lsz, lss]
            refine oneA 5 23 hsel (h := ?_)
            simp only [Act.put, lsa, lsz, lss]
            refine oneA 6 24 hsel (h := ?_)
            simp only [Act.put, lsa, lsz, lss]
            refine oneA 7 25 hsel (h := ?_)
            simp only [Act.put, lsa, lsz, lss]
            refine oneA 8 26 hsel (h := ?_)
            simp only [Act.put, lsa, lsz, lss]
            refine oneA 9 27 hsel (h := ?_)
            simp only [Act.put, lsa, lsz, lss]
            refine oneA 10 28 hsel (h := ?_)
            simp only [Act.put, lsa, lsz, lss]
            refine oneA 11 29 hsel (h := ?_)
            simp only [Act.put, lsa, lsz, lss]
            refine oneA 12 30 hsel (h := ?_)
            simp only [Act.put, lsa, lsz, lss]
            refine oneA 13 31 hsel (h := ?_)
            simp only [Act.put, lsa, lsz, lss]
            refine oneA 14 32 hsel (h := ?_)
            simp only [Act.put, lsa, lsz, lss]
            refine oneA 15 33 hsel (h := ?_)
            simp only [Act.put, lsa, lsz, lss]
            refine wpAnyL_ready (rs := [16]) (by kernel_rfl) (by kernel_rfl) (by simp) ?_
            refine AllReadyL.cons (o := ?_) ?_ (fun K hK => ?_) AllReadyL.nil
            case refine_2 => (simp only [List.getElem?_cons_succ, List.getElem?_cons_zero]; rfl)
            go_simp
            (go_at_call 92; (with_reducible refine (HMK.out _ HO.out).mono ?_); rintro ee w2 ⟨rfl, ho⟩; (replace HI := Lib.hid (HI.out.later ho)); (replace HO := Lib.hid (on_new HO.out ho)); clear ho)
            go_wp2_with (fail)
            clear hHeld
            refine hK.out _ _ HI.out.eight (fun hHeld => ?_)
            clear hK K
            try simp only [List.set_cons_zero, List.set_cons_succ]
            refine oneA 17 35 hsel (h := ?_)
            simp only [Act.put, lsa, lsz, lss]
            refine oneA 18 36 hsel (h := ?_)
            simp only [Act.put, lsa, lsz, lss]
            refine oneA 19 2 hsel (h := ?_)
            simp only [Act.put, lsa, lsz, lss]
            refine wpAnyL_done (by kernel_rfl) (by kernel_rfl) ?_ _
            clear hsel hHeld
            go_wp2
            go_ret
            exact ⟨rfl, HO.out⟩
        · skip
          have h6d : decide (g < t) = false := decide_eq_false h6
          rw [show phM g 1 t n = false from decide_eq_false (by unfold phP; omega)]
          clear hmk
          have HI : Hid (Blk (w.alloc (.cells #[.int .i64 g, .int .i64 1, .int .i64 t, .int .i64 x, .int .i64 r, .int .i64 p, .int .i64 l, .slice A n c] 45)) w.heap.size 45 [.int .i64 g, .int .i64 1, .int .i64 t, .int .i64 x, .int .i64 r, .int .i64 p, .int .i64 l, .slice A n c]) := Lib.hid (Blk.new w 45 [.int .i64 g, .int .i64 1, .int .i64 t, .int .i64 x, .int .i64 r, .int .i64 p, .int .i64 l, .slice A n c])
          have HO : Hid (Only (w.heap.size ≤ ·) w (w.alloc (.cells #[.int .i64 g, .int .i64 1, .int .i64 t, .int .i64 x, .int .i64 r, .int .i64 p, .int .i64 l, .slice A n c] 45))) := Lib.hid ((Only.refl _ w).alloc (fun _ h => h) _)
          go_enter Tryz.func71, Tryz.ntmps71
          go_upto_region 5 with (fail)
          replace HI := Lib.hid HI.out.drew
          replace HO := Lib.hid HO.out.drew
          refine wp_region_list (B := [false, false, false, false, false, false, false, false, false, false, false, false, false, false, false, false, false, false, false, false]) (S := (fun W => W.cell? ⟨w.heap.size, 0, none⟩ = some (.int .i64 g) ∧ W.cell? ⟨w.heap.size, 1, none⟩ = some (.int .i64 1) ∧ W.cell? ⟨w.heap.size, 2, none⟩ = some (.int .i64 t) ∧ W.cell? ⟨w.heap.size, 3, none⟩ = some (.int .i64 x) ∧ W.cell? ⟨w.heap.size, 4, none⟩ = some (.int .i64 r) ∧ W.cell? ⟨w.heap.size, 5, none⟩ = some (.int .i64 p) ∧ W.cell? ⟨w.heap.size, 6, none⟩ = some (.int .i64 l) ∧ W.cell? ⟨w.heap.size, 7, none⟩ = some (.slice A n c))) (by kernel_rfl) (by kernel_rfl) (by kernel_rfl) HI.out.eight (fun hsel hHeld => ?_)
          generalize hwz : World.drew _ = wz at HI HO hHeld ⊢
          clear hwz
          refine oneA 0 18 hsel (h := ?_)
          simp only [Act.put, lsa, lsz, lss]
          refine oneA 1 19 hsel (h := ?_)
          simp only [Act.put, lsa, lsz, lss]
          refine wpAnyL_ready (rs := [2]) (by kernel_rfl) (by kernel_rfl) (by simp) ?_
          refine AllReadyL.cons (o := ?_) ?_ (fun K hK => ?_) AllReadyL.nil
          case refine_2 => (simp only [List.getElem?_cons_succ, List.getElem?_cons_zero]; rfl)
          go_simp
          (go_at_call 70; (with_reducible refine (HGC.out _).mono ?_); rintro ee w2 ⟨rfl, rfl⟩)
          go_wp2_with (fail)
          clear hHeld
          refine hK.out _ _ HI.out.eight (fun hHeld => ?_)
          clear hK K
          try simp only [List.set_cons_zero, List.set_cons_succ]
          refine oneA 3 21 hsel (h := ?_)
          simp only [Act.put, lsa, lsz, lss]
          refine oneA 4 22 hsel (h := ?_)
          simp only [Act.put, lsa, lsz, lss]
          refine oneA 5 23 hsel (h := ?_)
          simp only [Act.put, lsa, lsz, lss]
          refine oneA 6 24 hsel (h := ?_)
          simp only [Act.put, lsa, lsz, lss]
          refine oneA 7 25 hsel (h := ?_)
          simp only [Act.put, lsa, lsz, lss]
          refine oneA 8 26 hsel (h := ?_)
          simp only [Act.put, lsa, lsz, lss]
          refine oneA 9 27 hsel (h := ?_)
          simp only [Act.put, lsa, lsz, lss]
          refine oneA 10 28 hsel (h := ?_)
          simp only [Act.put, lsa, lsz, lss]
          refine take_skipL (i := 11) (d := 29) (oi := ?_) ?_ hsel (by kernel_rfl) (by kernel_rfl) (fun _ _ _ h => h) ?_ ?_ (by assumption) ?_
          case refine_2 => (simp only [List.getElem?_cons_succ, List.getElem?_cons_zero]; rfl)
          case refine_3 => rfl
          case refine_4 => rfl
          simp only [Act.put, lsa, lsz, lss]
          refine take_skipL (i := 12) (d := 30) (oi := ?_) ?_ hsel (by kernel_rfl) (by kernel_rfl) (fun _ _ _ h => h) ?_ ?_ (by assumption) ?_
          case refine_2 => (simp only [List.getElem?_cons_succ, List.getElem?_cons_zero]; rfl)
          case refine_3 => rfl
          case refine_4 => rfl
          simp only [Act.put, lsa, lsz, lss]
          refine take_skipL (i := 13) (d := 31) (oi := ?_) ?_ hsel (by kernel_rfl) (by kernel_rfl) (fun _ _ _ h => h) ?_ ?_ (by assumption) ?_
          case refine_2 => (simp only [List.getElem?_cons_succ, List.getElem?_cons_zero]; rfl)
          case refine_3 => rfl
          case refine_4 => rfl
          simp only [Act.put, lsa, lsz, lss]
          refine take_skipL (i := 14) (d := 32) (oi := ?_) ?_ hsel (by kernel_rfl) (by kernel_rfl) (fun _ _ _ h => h) ?_ ?_ (by assumption) ?_
          case refine_2 => (simp only [List.getElem?_cons_succ, List.getElem?_cons_zero]; rfl)
          case refine_3 => rfl
          case refine_4 => rfl
          simp only [Act.put, lsa, lsz, lss]
          refine take_skipL (i := 15) (d := 33) (oi := ?_) ?_ hsel (by kernel_rfl) (by kernel_rfl) (fun _ _ _ h => h) ?_ ?_ (by assumption) ?_
          case refine_2 => (simp only [List.getElem?_cons_succ, List.getElem?_cons_zero]; rfl)
          case refine_3 => rfl
          case refine_4 => rfl
          simp only [Act.put, lsa, lsz, lss]
          refine take_skipL (i := 16) (d := 34) (oi := ?_) ?_ hsel (by kernel_rfl) (by kernel_rfl) (fun _ _ _ h => h) ?_ ?_ (by assumption) ?_
          case refine_2 => (simp only [List.getElem?_cons_succ, List.getElem?_cons_zero]; rfl)
          case refine_3 => rfl
          case refine_4 => rfl
          simp only [Act.put, lsa, lsz, lss]
          refine take_skipL (i := 17) (d := 35) (oi := ?_) ?_ hsel (by kernel_rfl) (by kernel_rfl) (fun _ _ _ h => h) ?_ ?_ (by assumption) ?_
          case refine_2 => (simp only [List.getElem?_cons_succ, List.getElem?_cons_zero]; rfl)
          case refine_3 => rfl
          case refine_4 => rfl
          simp only [Act.put, lsa, lsz, lss]
          refine oneA 18 36 hsel (h := ?_)
          simp only [Act.put, lsa, lsz, lss]
          refine oneA 19 2 hsel (h := ?_)
          simp only [Act.put, lsa, lsz, lss]
          refine wpAnyL_done (by kernel_rfl) (by kernel_rfl) ?_ _
          clear hsel hHeld
          go_wp2
          go_ret
          exact ⟨rfl, HO.out⟩
      · skip
        have HGC : Hid (∀ W, Calls Tryz.prog 70 #[.int .i64 t] W fun e w' => e = .returned (.bool false) ∧ W = w') := Lib.hid fun W => by have h := Gen_c W t; rwa [show gen t = false from decide_eq_false (by omega)] at h
        have HMK : Hid (∀ W, Only (w.heap.size ≤ ·) w W → Calls Tryz.prog 92 #[.int .i64 t] W (Told W (.int .i64 mk))) := Lib.hid fun W hW => by have h := MaxKey_c W t (hG.later hW); rwa [← hmk] at h
        rw [show phM g 1 t n = false from decide_eq_false (by unfold phP; omega)]
        clear hmk
        have HI : Hid (Blk (w.alloc (.cells #[.int .i64 g, .int .i64 1, .int .i64 t, .int .i64 x, .int .i64 r, .int .i64 p, .int .i64 l, .slice A n c] 45)) w.heap.size 45 [.int .i64 g, .int .i64 1, .int .i64 t, .int .i64 x, .int .i64 r, .int .i64 p, .int .i64 l, .slice A n c]) := Lib.hid (Blk.new w 45 [.int .i64 g, .int .i64 1, .int .i64 t, .int .i64 x, .int .i64 r, .int .i64 p, .int .i64 l, .slice A n c])
        have HO : Hid (Only (w.heap.size ≤ ·) w (w.alloc (.cells #[.int .i64 g, .int .i64 1, .int .i64 t, .int .i64 x, .int .i64 r, .int .i64 p, .int .i64 l, .slice A n c] 45))) := Lib.hid ((Only.refl _ w).alloc (fun _ h => h) _)
        go_enter Tryz.func71, Tryz.ntmps71
        go_upto_region 5 with (fail)
        replace HI := Lib.hid HI.out.drew
        replace HO := Lib.hid HO.out.drew
        refine wp_region_list (B := [false, false, false, false, false, false, false, false, false, false, false, false, false, false, false, false, false, false, false, false]) (S := (fun W => W.cell? ⟨w.heap.size, 0, none⟩ = some (.int .i64 g) ∧ W.cell? ⟨w.heap.size, 1, none⟩ = some (.int .i64 1) ∧ W.cell? ⟨w.heap.size, 2, none⟩ = some (.int .i64 t) ∧ W.cell? ⟨w.heap.size, 3, none⟩ = some (.int .i64 x) ∧ W.cell? ⟨w.heap.size, 4, none⟩ = some (.int .i64 r) ∧ W.cell? ⟨w.heap.size, 5, none⟩ = some (.int .i64 p) ∧ W.cell? ⟨w.heap.size, 6, none⟩ = some (.int .i64 l) ∧ W.cell? ⟨w.heap.size, 7, none⟩ = some (.slice A n c))) (by kernel_rfl) (by kernel_rfl) (by kernel_rfl) HI.out.eight (fun hsel hHeld => ?_)
        generalize hwz : World.drew _ = wz at HI HO hHeld ⊢
        clear hwz
        refine oneA 0 18 hsel (h := ?_)
        simp only [Act.put, lsa, lsz, lss]
        refine oneA 1 19 hsel (h := ?_)
        simp only [Act.put, lsa, lsz, lss]
        refine wpAnyL_ready (rs := [2]) (by kernel_rfl) (by kernel_rfl) (by simp) ?_
        refine AllReadyL.cons (o := ?_) ?_ (fun K hK => ?_) AllReadyL.nil
        case refine_2 => (simp only [List.getElem?_cons_succ, List.getElem?_cons_zero]; rfl)
        go_simp
        (go_at_call 70; (with_reducible refine (HGC.out _).mono ?_); rintro ee w2 ⟨rfl, rfl⟩)
        go_wp2_with (fail)
        clear hHeld
        refine hK.out _ _ HI.out.eight (fun hHeld => ?_)
        clear hK K
        try simp only [List.set_cons_zero, List.set_cons_succ]
        refine oneA 3 21 hsel (h := ?_)
        simp only [Act.put, lsa, lsz, lss]
        refine take_skipL (i := 4) (d := 22) (oi := ?_) ?_ hsel (by kernel_rfl) (by kernel_rfl) (fun _ _ _ h => h) ?_ ?_ (by assumption) ?_
        case refine_2 => (simp only [List.getElem?_cons_succ, List.getElem?_cons_zero]; rfl)
        case refine_3 => rfl
        case refine_4 => rfl
        simp only [Act.put, lsa, lsz, lss]
        refine take_skipL (i := 5) (d := 23) (oi := ?_) ?_ hsel (by kernel_rfl) (by kernel_rfl) (fun _ _ _ h => h) ?_ ?_ (by assumption) ?_
        case refine_2 => (simp only [List.getElem?_cons_succ, List.getElem?_cons_zero]; rfl)
        case refine_3 => rfl
        case refine_4 => rfl
        simp only [Act.put, lsa, lsz, lss]
        refine take_skipL (i := 6) (d := 24) (oi := ?_) ?_ hsel (by kernel_rfl) (by kernel_rfl) (fun _ _ _ h => h) ?_ ?_ (by assumption) ?_
        case refine_2 => (simp only [List.getElem?_cons_succ, List.getElem?_cons_zero]; rfl)
        case refine_3 => rfl
        case refine_4 => rfl
        simp only [Act.put, lsa, lsz, lss]
        refine take_skipL (i := 7) (d := 25) (oi := ?_) ?_ hsel (by kernel_rfl) (by kernel_rfl) (fun _ _ _ h => h) ?_ ?_ (by assumption) ?_
        case refine_2 => (simp only [List.getElem?_cons_succ, List.getElem?_cons_zero]; rfl)
        case refine_3 => rfl
        case refine_4 => rfl
        simp only [Act.put, lsa, lsz, lss]
        refine take_skipL (i := 8) (d := 26) (oi := ?_) ?_ hsel (by kernel_rfl) (by kernel_rfl) (fun _ _ _ h => h) ?_ ?_ (by assumption) ?_
        case refine_2 => (simp only [List.getElem?_cons_succ, List.getElem?_cons_zero]; rfl)
        case refine_3 => rfl
        case refine_4 => rfl
        simp only [Act.put, lsa, lsz, lss]
        refine oneA 9 27 hsel (h := ?_)
        simp only [Act.put, lsa, lsz, lss]
        refine oneA 10 28 hsel (h := ?_)
        simp only [Act.put, lsa, lsz, lss]
        refine take_skipL (i := 11) (d := 29) (oi := ?_) ?_ hsel (by kernel_rfl) (by kernel_rfl) (fun _ _ _ h => h) ?_ ?_ (by assumption) ?_
        case refine_2 => (simp only [List.getElem?_cons_succ, List.getElem?_cons_zero]; rfl)
        case refine_3 => rfl
        case refine_4 => rfl
        simp only [Act.put, lsa, lsz, lss]
        refine take_skipL (i := 12) (d := 30) (oi := ?_) ?_ hsel (by kernel_rfl) (by kernel_rfl) (fun _ _ _ h => h) ?_ ?_ (by assumption) ?_
        case refine_2 => (simp only [List.getElem?_cons_succ, List.getElem?_cons_zero]; rfl)
        case refine_3 => rfl
        case refine_4 => rfl
        simp only [Act.put, lsa, lsz, lss]
        refine take_skipL (i := 13) (d := 31) (oi := ?_) ?_ hsel (by kernel_rfl) (by kernel_rfl) (fun _ _ _ h => h) ?_ ?_ (by assumption) ?_
        case refine_2 => (simp only [List.getElem?_cons_succ, List.getElem?_cons_zero]; rfl)
        case refine_3 => rfl
        case refine_4 => rfl
        simp only [Act.put, lsa, lsz, lss]
        refine take_skipL (i := 14) (d := 32) (oi := ?_) ?_ hsel (by kernel_rfl) (by kernel_rfl) (fun _ _ _ h => h) ?_ ?_ (by assumption) ?_
        case refine_2 => (simp only [List.getElem?_cons_succ, List.getElem?_cons_zero]; rfl)
        case refine_3 => rfl
        case refine_4 => rfl
        simp only [Act.put, lsa, lsz, lss]
        refine take_skipL (i := 15) (d := 33) (oi := ?_) ?_ hsel (by kernel_rfl) (by kernel_rfl) (fun _ _ _ h => h) ?_ ?_ (by assumption) ?_
        case refine_2 => (simp only [List.getElem?_cons_succ, List.getElem?_cons_zero]; rfl)
        case refine_3 => rfl
        case refine_4 => rfl
        simp only [Act.put, lsa, lsz, lss]
        refine take_skipL (i := 16) (d := 34) (oi := ?_) ?_ hsel (by kernel_rfl) (by kernel_rfl) (fun _ _ _ h => h) ?_ ?_ (by assumption) ?_
        case refine_2 => (simp only [List.getElem?_cons_succ, List.getElem?_cons_zero]; rfl)
        case refine_3 => rfl
        case refine_4 => rfl
        simp only [Act.put, lsa, lsz, lss]
        refine take_skipL (i := 17) (d := 35) (oi := ?_) ?_ hsel (by kernel_rfl) (by kernel_rfl) (fun _ _ _ h => h) ?_ ?_ (by assumption) ?_
        case refine_2 => (simp only [List.getElem?_cons_succ, List.getElem?_cons_zero]; rfl)
        case refine_3 => rfl
        case refine_4 => rfl
        simp only [Act.put, lsa, lsz, lss]
        refine oneA 18 36 hsel (h := ?_)
        simp only [Act.put, lsa, lsz, lss]
        refine oneA 19 2 hsel (h := ?_)
        simp only [Act.put, lsa, lsz, lss]
        refine wpAnyL_done (by kernel_rfl) (by kernel_rfl) ?_ _
        clear hsel hHeld
        go_wp2
        go_ret
        exact ⟨rfl, HO.out⟩
    · skip
      have h4b : (ph == 1) = false := by rw [beq_eq_false_iff_ne]; omega
      have h4n : (ph != 1) = true := by rw [bne_iff_ne]; omega
      rw [show phM g ph t n = false from decide_eq_false (by unfold phP; omega)]
      have HI : Hid (Blk (w.alloc (.cells #[.int .i64 g, .int .i64 ph, .int .i64 t, .int .i64 x, .int .i64 r, .int .i64 p, .int .i64 l, .slice A n c] 45)) w.heap.size 45 [.int .i64 g, .int .i64 ph, .int .i64 t, .int .i64 x, .int .i64 r, .int .i64 p, .int .i64 l, .slice A n c]) := Lib.hid (Blk.new w 45 [.int .i64 g, .int .i64 ph, .int .i64 t, .int .i64 x, .int .i64 r, .int .i64 p, .int .i64 l, .slice A n c])
      have HO : Hid (Only (w.heap.size ≤ ·) w (w.alloc (.cells #[.int .i64 g, .int .i64 ph, .int .i64 t, .int .i64 x, .int .i64 r, .int .i64 p, .int .i64 l, .slice A n c] 45))) := Lib.hid ((Only.refl _ w).alloc (fun _ h => h) _)
      go_enter Tryz.func71, Tryz.ntmps71
      go_wp2
      go_ret
      exact ⟨rfl, HO.out⟩

set_option maxRecDepth 100000 in
set_option maxHeartbeats 12800000 in
theorem MRight_c (hG : Gens w) : Calls Tryz.prog 49 #[.agg #[.int .i64 g, .int .i64 ph, .int .i64 t, .int .i64 x, .int .i64 r, .int .i64 p, .int .i64 l, .slice A n c]] w (Told w (.bool (okM g ph t x r p l n))) := by
  by_cases h1 : 1 ≤ g ∧ g ≤ 3
  · skip
    have HGC : Hid (∀ W, Calls Tryz.prog 70 #[.int .i64 g] W fun e w' => e = .returned (.bool true) ∧ W = w') := Lib.hid fun W => by have h := Gen_c W g; rwa [show gen g = true from decide_eq_true (by omega)] at h
    by_cases hph : phP g ph t n
    · skip
      have HPV : phM g ph t n = true := decide_eq_true hph
      have HPC : Hid (∀ W, Only (w.heap.size ≤ ·) w W → Calls Tryz.prog 71 #[.agg #[.int .i64 g, .int .i64 ph, .int .i64 t, .int .i64 x, .int .i64 r, .int .i64 p, .int .i64 l, .slice A n c]] W (Told W (.bool true))) := Lib.hid fun W hW => by have h := Mphased_c W g ph t x r p l A n c (hG.later hW); rwa [HPV] at h
      by_cases h2 : 1 ≤ x
      · skip
        have h2d : decide (1 ≤ x) = true := decide_eq_true h2
        by_cases h3 : x ≤ 2147483647
        · skip
          have h3d : decide (x ≤ 2147483647) = true := decide_eq_true h3
          by_cases h4 : p ≤ 16384
          · skip
            have h4d : decide (p ≤ 16384) = true := decide_eq_true h4
            by_cases h5 : 2 ≤ r ∧ r < p
            · skip
              have HRP : Hid (∀ W, Only (w.heap.size ≤ ·) w W → Calls Tryz.prog 72 #[.agg #[.int .i64 g, .int .i64 ph, .int .i64 t, .int .i64 x, .int .i64 r, .int .i64 p, .int .i64 l, .slice A n c], .int .i64 r] W (Told W (.bool true))) := Lib.hid fun W _ => by have h := MisPage_c W g ph t x r p l A n c r; rwa [show iP p r = true from decide_eq_true (by omega)] at h
              by_cases h6 : l = 0
              · skip
                subst h6
                rw [show okM g ph t x r p 0 n = true from decide_eq_true (by unfold okP; first | omega | (intro hk; first | exact hph.elim hk.2.1 | omega) | exact ⟨by omega, hph, by omega⟩)]
                clear hG
                have HI : Hid (Blk (w.alloc (.cells #[.int .i64 g, .int .i64 ph, .int .i64 t, .int .i64 x, .int .i64 r, .int .i64 p, .int .i64 0, .slice A n c] 45)) w.heap.size 45 [.int .i64 g, .int .i64 ph, .int .i64 t, .int .i64 x, .int .i64 r, .int .i64 p, .int .i64 0, .slice A n c]) := Lib.hid (Blk.new w 45 [.int .i64 g, .int .i64 ph, .int .i64 t, .int .i64 x, .int .i64 r, .int .i64 p, .int .i64 0, .slice A n c])
                have HO : Hid (Only (w.heap.size ≤ ·) w (w.alloc (.cells #[.int .i64 g, .int .i64 ph, .int .i64 t, .int .i64 x, .int .i64 r, .int .i64 p, .int .i64 0, .slice A n c] 45))) := Lib.hid ((Only.refl _ w).alloc (fun _ h => h) _)
                go_enter Tryz.func49, Tryz.ntmps49
                go_wp2_with (first
                  | (go_at_call 70; (with_reducible refine (HGC.out _).mono ?_); rintro ee w2 ⟨rfl, rfl⟩; try (obtain ⟨i0, i1, i2, i3, i4, i5, i6, i7⟩ := HI.out.eight))
                  | (go_at_call 71; (with_reducible refine (HPC.out _ HO.out).mono ?_); rintro ee w2 ⟨rfl, ho⟩; (replace HI := Lib.hid (HI.out.later ho)); (replace HO := Lib.hid (on_new HO.out ho)); clear ho; try clear i0 i1 i2 i3 i4 i5 i6 i7; (obtain ⟨i0, i1, i2, i3, i4, i5, i6, i7⟩ := HI.out.eight))
                  | (go_at_call 72; (with_reducible refine (HRP.out _ HO.out).mono ?_); rintro ee w2 ⟨rfl, ho⟩; (replace HI := Lib.hid (HI.out.later ho)); (replace HO := Lib.hid (on_new HO.out ho)); clear ho; try clear i0 i1 i2 i3 i4 i5 i6 i7; (obtain ⟨i0, i1, i2, i3, i4, i5, i6, i7⟩ := HI.out.eight)))
                go_ret
                exact ⟨rfl, HO.out⟩
              · skip
                have h6b : (l == 0) = false := by rw [beq_eq_false_iff_ne]; omega
                have h6n : (l != 0) = true := by rw [bne_iff_ne]; omega
                by_cases h7 : 2 ≤ l ∧ l < p
                · skip
                  have HLP : Hid (∀ W, Only (w.heap.size ≤ ·) w W → Calls Tryz.prog 72 #[.agg #[.int .i64 g, .int .i64 ph, .int .i64 t, .int .i64 x, .int .i64 r, .int .i64 p, .int .i64 l, .slice A n c], .int .i64 l] W (Told W (.bool true))) := Lib.hid fun W _ => by have h := MisPage_c W g ph t x r p l A n c l; rwa [show iP p l = true from decide_eq_true (by omega)] at h
                  rw [show okM g ph t x r p l n = true from decide_eq_true (by unfold okP; first | omega | (intro hk; first | exact hph.elim hk.2.1 | omega) | exact ⟨by omega, hph, by omega⟩)]
                  clear hG
                  have HI : Hid (Blk (w.alloc (.cells #[.int .i64 g, .int .i64 ph, .int .i64 t, .int .i64 x, .int .i64 r, .int .i64 p, .int .i64 l, .slice A n c] 45)) w.heap.size 45 [.int .i64 g, .int .i64 ph, .int .i64 t, .int .i64 x, .int .i64 r, .int .i64 p, .int .i64 l, .slice A n c]) := Lib.hid (Blk.new w 45 [.int .i64 g, .int .i64 ph, .int .i64 t, .int .i64 x, .int .i64 r, .int .i64 p, .int .i64 l, .slice A n c])
                  have HO : Hid (Only (w.heap.size ≤ ·) w (w.alloc (.cells #[.int .i64 g, .int .i64 ph, .int .i64 t, .int .i64 x, .int .i64 r, .int .i64 p, .int .i64 l, .slice A n c] 45))) := Lib.hid ((Only.refl _ w).alloc (fun _ h => h) _)
                  go_enter Tryz.func49, Tryz.ntmps49
                  go_wp2_with (first
                    | (go_at_call 70; (with_reducible refine (HGC.out _).mono ?_); rintro ee w2 ⟨rfl, rfl⟩; try (obtain ⟨i0, i1, i2, i3, i4, i5, i6, i7⟩ := HI.out.eight))
                    | (go_at_call 71; (with_reducible refine (HPC.out _ HO.out).mono ?_); rintro ee w2 ⟨rfl, ho⟩; (replace HI := Lib.hid (HI.out.later ho)); (replace HO := Lib.hid (on_new HO.out ho)); clear ho; try clear i0 i1 i2 i3 i4 i5 i6 i7; (obtain ⟨i0, i1, i2, i3, i4, i5, i6, i7⟩ := HI.out.eight))
                    | (go_at_call 72; (with_reducible refine (HRP.out _ HO.out).mono ?_); rintro ee w2 ⟨rfl, ho⟩; (replace HI := Lib.hid (HI.out.later ho)); (replace HO := Lib.hid (on_new HO.out ho)); clear ho; try clear i0 i1 i2 i3 i4 i5 i6 i7; (obtain ⟨i0, i1, i2, i3, i4, i5, i6, i7⟩ := HI.out.eight))
                    | (go_at_call 72; (with_reducible refine (HLP.out _ HO.out).mono ?_); rintro ee w2 ⟨rfl, ho⟩; (replace HI := Lib.hid (HI.out.later ho)); (replace HO := Lib.hid (on_new HO.out ho)); clear ho; try clear i0 i1 i2 i3 i4 i5 i6 i7; (obtain ⟨i0, i1, i2, i3, i4, i5, i6, i7⟩ := HI.out.eight)))
                  go_ret
                  exact ⟨rfl, HO.out⟩
                · skip
                  have HLP : Hid (∀ W, Only (w.heap.size ≤ ·) w W → Calls Tryz.prog 72 #[.agg #[.int .i64 g, .int .i64 ph, .int .i64 t, .int .i64 x, .int .i64 r, .int .i64 p, .int .i64 l, .slice A n c], .int .i64 l] W (Told W (.bool false))) := Lib.hid fun W _ => by have h := MisPage_c W g ph t x r p l A n c l; rwa [show iP p l = false from decide_eq_false (by omega)] at h
                  rw [show okM g ph t x r p l n = false from decide_eq_false (by unfold okP; first | omega | (intro hk; first | exact hph.elim hk.2.1 | omega) | exact ⟨by omega, hph, by omega⟩)]
                  clear hG
                  have HI : Hid (Blk (w.alloc (.cells #[.int .i64 g, .int .i64 ph, .int .i64 t, .int .i64 x, .int .i64 r, .int .i64 p, .int .i64 l, .slice A n c] 45)) w.heap.size 45 [.int .i64 g, .int .i64 ph, .int .i64 t, .int .i64 x, .int .i64 r, .int .i64 p, .int .i64 l, .slice A n c]) := Lib.hid (Blk.new w 45 [.int .i64 g, .int .i64 ph, .int .i64 t, .int .i64 x, .int .i64 r, .int .i64 p, .int .i64 l, .slice A n c])
                  have HO : Hid (Only (w.heap.size ≤ ·) w (w.alloc (.cells #[.int .i64 g, .int .i64 ph, .int .i64 t, .int .i64 x, .int .i64 r, .int .i64 p, .int .i64 l, .slice A n c] 45))) := Lib.hid ((Only.refl _ w).alloc (fun _ h => h) _)
                  go_enter Tryz.func49, Tryz.ntmps49
                  go_wp2_with (first
                    | (go_at_call 70; (with_reducible refine (HGC.out _).mono ?_); rintro ee w2 ⟨rfl, rfl⟩; try (obtain ⟨i0, i1, i2, i3, i4, i5, i6, i7⟩ := HI.out.eight))
                    | (go_at_call 71; (with_reducible refine (HPC.out _ HO.out).mono ?_); rintro ee w2 ⟨rfl, ho⟩; (replace HI := Lib.hid (HI.out.later ho)); (replace HO := Lib.hid (on_new HO.out ho)); clear ho; try clear i0 i1 i2 i3 i4 i5 i6 i7; (obtain ⟨i0, i1, i2, i3, i4, i5, i6, i7⟩ := HI.out.eight))
                    | (go_at_call 72; (with_reducible refine (HRP.out _ HO.out).mono ?_); rintro ee w2 ⟨rfl, ho⟩; (replace HI := Lib.hid (HI.out.later ho)); (replace HO := Lib.hid (on_new HO.out ho)); clear ho; try clear i0 i1 i2 i3 i4 i5 i6 i7; (obtain ⟨i0, i1, i2, i3, i4, i5, i6, i7⟩ := HI.out.eight))
                    | (go_at_call 72; (with_reducible refine (HLP.out _ HO.out).mono ?_); rintro ee w2 ⟨rfl, ho⟩; (replace HI := Lib.hid (HI.out.later ho)); (replace HO := Lib.hid (on_new HO.out ho)); clear ho; try clear i0 i1 i2 i3 i4 i5 i6 i7; (obtain ⟨i0, i1, i2, i3, i4, i5, i6, i7⟩ := HI.out.eight)))
                  go_ret
                  exact ⟨rfl, HO.out⟩
            · skip
              have HRP : Hid (∀ W, Only (w.heap.size ≤ ·) w W → Calls Tryz.prog 72 #[.agg #[.int .i64 g, .int .i64 ph, .int .i64 t, .int .i64 x, .int .i64 r, .int .i64 p, .int .i64 l, .slice A n c], .int .i64 r] W (Told W (.bool false))) := Lib.hid fun W _ => by have h := MisPage_c W g ph t x r p l A n c r; rwa [show iP p r = false from decide_eq_false (by omega)] at h
              rw [show okM g ph t x r p l n = false from decide_eq_false (by unfold okP; first | omega | (intro hk; first | exact hph.elim hk.2.1 | omega) | exact ⟨by omega, hph, by omega⟩)]
              clear hG
              have HI : Hid (Blk (w.alloc (.cells #[.int .i64 g, .int .i64 ph, .int .i64 t, .int .i64 x, .int .i64 r, .int .i64 p, .int .i64 l, .slice A n c] 45)) w.heap.size 45 [.int .i64 g, .int .i64 ph, .int .i64 t, .int .i64 x, .int .i64 r, .int .i64 p, .int .i64 l, .slice A n c]) := Lib.hid (Blk.new w 45 [.int .i64 g, .int .i64 ph, .int .i64 t, .int .i64 x, .int .i64 r, .int .i64 p, .int .i64 l, .slice A n c])
              have HO : Hid (Only (w.heap.size ≤ ·) w (w.alloc (.cells #[.int .i64 g, .int .i64 ph, .int .i64 t, .int .i64 x, .int .i64 r, .int .i64 p, .int .i64 l, .slice A n c] 45))) := Lib.hid ((Only.refl _ w).alloc (fun _ h => h) _)
              go_enter Tryz.func49, Tryz.ntmps49
              go_wp2_with (first
                | (go_at_call 70; (with_reducible refine (HGC.out _).mono ?_); rintro ee w2 ⟨rfl, rfl⟩; try (obtain ⟨i0, i1, i2, i3, i4, i5, i6, i7⟩ := HI.out.eight))
                | (go_at_call 71; (with_reducible refine (HPC.out _ HO.out).mono ?_); rintro ee w2 ⟨rfl, ho⟩; (replace HI := Lib.hid (HI.out.later ho)); (replace HO := Lib.hid (on_new HO.out ho)); clear ho; try clear i0 i1 i2 i3 i4 i5 i6 i7; (obtain ⟨i0, i1, i2, i3, i4, i5, i6, i7⟩ := HI.out.eight))
                | (go_at_call 72; (with_reducible refine (HRP.out _ HO.out).mono ?_); rintro ee w2 ⟨rfl, ho⟩; (replace HI := Lib.hid (HI.out.later ho)); (replace HO := Lib.hid (on_new HO.out ho)); clear ho; try clear i0 i1 i2 i3 i4 i5 i6 i7; (obtain ⟨i0, i1, i2, i3, i4, i5, i6, i7⟩ := HI.out.eight)))
              go_ret
              exact ⟨rfl, HO.out⟩
          · skip
            have h4d : decide (p ≤ 16384) = false := decide_eq_false h4
            have HRP : Hid (∀ W, Only (w.heap.size ≤ ·) w W → Calls Tryz.prog 72 #[.agg #[.int .i64 g, .int .i64 ph, .int .i64 t, .int .i64 x, .int .i64 r, .int .i64 p, .int .i64 l, .slice A n c], .int .i64 r] W (Told W (.bool (iP p r)))) := Lib.hid fun W _ => by have h := MisPage_c W g ph t x r p l A n c r; exact h
            rw [show okM g ph t x r p l n = false from decide_eq_false (by unfold okP; first | omega | (intro hk; first | exact hph.elim hk.2.1 | omega) | exact ⟨by omega, hph, by omega⟩)]
            clear hG
            have HI : Hid (Blk (w.alloc (.cells #[.int .i64 g, .int .i64 ph, .int .i64 t, .int .i64 x, .int .i64 r, .int .i64 p, .int .i64 l, .slice A n c] 45)) w.heap.size 45 [.int .i64 g, .int .i64 ph, .int .i64 t, .int .i64 x, .int .i64 r, .int .i64 p, .int .i64 l, .slice A n c]) := Lib.hid (Blk.new w 45 [.int .i64 g, .int .i64 ph, .int .i64 t, .int .i64 x, .int .i64 r, .int .i64 p, .int .i64 l, .slice A n c])
            have HO : Hid (Only (w.heap.size ≤ ·) w (w.alloc (.cells #[.int .i64 g, .int .i64 ph, .int .i64 t, .int .i64 x, .int .i64 r, .int .i64 p, .int .i64 l, .slice A n c] 45))) := Lib.hid ((Only.refl _ w).alloc (fun _ h => h) _)
            go_enter Tryz.func49, Tryz.ntmps49
            go_wp2_with (first
              | (go_at_call 70; (with_reducible refine (HGC.out _).mono ?_); rintro ee w2 ⟨rfl, rfl⟩; try (obtain ⟨i0, i1, i2, i3, i4, i5, i6, i7⟩ := HI.out.eight))
              | (go_at_call 71; (with_reducible refine (HPC.out _ HO.out).mono ?_); rintro ee w2 ⟨rfl, ho⟩; (replace HI := Lib.hid (HI.out.later ho)); (replace HO := Lib.hid (on_new HO.out ho)); clear ho; try clear i0 i1 i2 i3 i4 i5 i6 i7; (obtain ⟨i0, i1, i2, i3, i4, i5, i6, i7⟩ := HI.out.eight))
              | (go_at_call 72; (with_reducible refine (HRP.out _ HO.out).mono ?_); rintro ee w2 ⟨rfl, ho⟩; (replace HI := Lib.hid (HI.out.later ho)); (replace HO := Lib.hid (on_new HO.out ho)); clear ho; try clear i0 i1 i2 i3 i4 i5 i6 i7; (obtain ⟨i0, i1, i2, i3, i4, i5, i6, i7⟩ := HI.out.eight)))
            go_ret
            exact ⟨rfl, HO.out⟩
        · skip
          have h3d : decide (x ≤ 2147483647) = false := decide_eq_false h3
          have HRP : Hid (∀ W, Only (w.heap.size ≤ ·) w W → Calls Tryz.prog 72 #[.agg #[.int .i64 g, .int .i64 ph, .int .i64 t, .int .i64 x, .int .i64 r, .int .i64 p, .int .i64 l, .slice A n c], .int .i64 r] W (Told W (.bool (iP p r)))) := Lib.hid fun W _ => by have h := MisPage_c W g ph t x r p l A n c r; exact h
          rw [show okM g ph t x r p l n = false from decide_eq_false (by unfold okP; first | omega | (intro hk; first | exact hph.elim hk.2.1 | omega) | exact ⟨by omega, hph, by omega⟩)]
          clear hG
          have HI : Hid (Blk (w.alloc (.cells #[.int .i64 g, .int .i64 ph, .int .i64 t, .int .i64 x, .int .i64 r, .int .i64 p, .int .i64 l, .slice A n c] 45)) w.heap.size 45 [.int .i64 g, .int .i64 ph, .int .i64 t, .int .i64 x, .int .i64 r, .int .i64 p, .int .i64 l, .slice A n c]) := Lib.hid (Blk.new w 45 [.int .i64 g, .int .i64 ph, .int .i64 t, .int .i64 x, .int .i64 r, .int .i64 p, .int .i64 l, .slice A n c])
          have HO : Hid (Only (w.heap.size ≤ ·) w (w.alloc (.cells #[.int .i64 g, .int .i64 ph, .int .i64 t, .int .i64 x, .int .i64 r, .int .i64 p, .int .i64 l, .slice A n c] 45))) := Lib.hid ((Only.refl _ w).alloc (fun _ h => h) _)
          go_enter Tryz.func49, Tryz.ntmps49
          go_wp2_with (first
            | (go_at_call 70; (with_reducible refine (HGC.out _).mono ?_); rintro ee w2 ⟨rfl, rfl⟩; try (obtain ⟨i0, i1, i2, i3, i4, i5, i6, i7⟩ := HI.out.eight))
            | (go_at_call 71; (with_reducible refine (HPC.out _ HO.out).mono ?_); rintro ee w2 ⟨rfl, ho⟩; (replace HI := Lib.hid (HI.out.later ho)); (replace HO := Lib.hid (on_new HO.out ho)); clear ho; try clear i0 i1 i2 i3 i4 i5 i6 i7; (obtain ⟨i0, i1, i2, i3, i4, i5, i6, i7⟩ := HI.out.eight))
            | (go_at_call 72; (with_reducible refine (HRP.out _ HO.out).mono ?_); rintro ee w2 ⟨rfl, ho⟩; (replace HI := Lib.hid (HI.out.later ho)); (replace HO := Lib.hid (on_new HO.out ho)); clear ho; try clear i0 i1 i2 i3 i4 i5 i6 i7; (obtain ⟨i0, i1, i2, i3, i4, i5, i6, i7⟩ := HI.out.eight)))
          go_ret
          exact ⟨rfl, HO.out⟩
      · skip
        have h2d : decide (1 ≤ x) = false := decide_eq_false h2
        have HRP : Hid (∀ W, Only (w.heap.size ≤ ·) w W → Calls Tryz.prog 72 #[.agg #[.int .i64 g, .int .i64 ph, .int .i64 t, .int .i64 x, .int .i64 r, .int .i64 p, .int .i64 l, .slice A n c], .int .i64 r] W (Told W (.bool (iP p r)))) := Lib.hid fun W _ => by have h := MisPage_c W g ph t x r p l A n c r; exact h
        rw [show okM g ph t x r p l n = false from decide_eq_false (by unfold okP; first | omega | (intro hk; first | exact hph.elim hk.2.1 | omega) | exact ⟨by omega, hph, by omega⟩)]
        clear hG
        have HI : Hid (Blk (w.alloc (.cells #[.int .i64 g, .int .i64 ph, .int .i64 t, .int .i64 x, .int .i64 r, .int .i64 p, .int .i64 l, .slice A n c] 45)) w.heap.size 45 [.int .i64 g, .int .i64 ph, .int .i64 t, .int .i64 x, .int .i64 r, .int .i64 p, .int .i64 l, .slice A n c]) := Lib.hid (Blk.new w 45 [.int .i64 g, .int .i64 ph, .int .i64 t, .int .i64 x, .int .i64 r, .int .i64 p, .int .i64 l, .slice A n c])
        have HO : Hid (Only (w.heap.size ≤ ·) w (w.alloc (.cells #[.int .i64 g, .int .i64 ph, .int .i64 t, .int .i64 x, .int .i64 r, .int .i64 p, .int .i64 l, .slice A n c] 45))) := Lib.hid ((Only.refl _ w).alloc (fun _ h => h) _)
        go_enter Tryz.func49, Tryz.ntmps49
        go_wp2_with (first
          | (go_at_call 70; (with_reducible refine (HGC.out _).mono ?_); rintro ee w2 ⟨rfl, rfl⟩; try (obtain ⟨i0, i1, i2, i3, i4, i5, i6, i7⟩ := HI.out.eight))
          | (go_at_call 71; (with_reducible refine (HPC.out _ HO.out).mono ?_); rintro ee w2 ⟨rfl, ho⟩; (replace HI := Lib.hid (HI.out.later ho)); (replace HO := Lib.hid (on_new HO.out ho)); clear ho; try clear i0 i1 i2 i3 i4 i5 i6 i7; (obtain ⟨i0, i1, i2, i3, i4, i5, i6, i7⟩ := HI.out.eight))
          | (go_at_call 72; (with_reducible refine (HRP.out _ HO.out).mono ?_); rintro ee w2 ⟨rfl, ho⟩; (replace HI := Lib.hid (HI.out.later ho)); (replace HO := Lib.hid (on_new HO.out ho)); clear ho; try clear i0 i1 i2 i3 i4 i5 i6 i7; (obtain ⟨i0, i1, i2, i3, i4, i5, i6, i7⟩ := HI.out.eight)))
        go_ret
        exact ⟨rfl, HO.out⟩
    · skip
      have HPV : phM g ph t n = false := decide_eq_false hph
      have HPC : Hid (∀ W, Only (w.heap.size ≤ ·) w W → Calls Tryz.prog 71 #[.agg #[.int .i64 g, .int .i64 ph, .int .i64 t, .int .i64 x, .int .i64 r, .int .i64 p, .int .i64 l, .slice A n c]] W (Told W (.bool false))) := Lib.hid fun W hW => by have h := Mphased_c W g ph t x r p l A n c (hG.later hW); rwa [HPV] at h
      have HRP : Hid (∀ W, Only (w.heap.size ≤ ·) w W → Calls Tryz.prog 72 #[.agg #[.int .i64 g, .int .i64 ph, .int .i64 t, .int .i64 x, .int .i64 r, .int .i64 p, .int .i64 l, .slice A n c], .int .i64 r] W (Told W (.bool (iP p r)))) := Lib.hid fun W _ => by have h := MisPage_c W g ph t x r p l A n c r; exact h
      rw [show okM g ph t x r p l n = false from decide_eq_false (by unfold okP; first | omega | (intro hk; first | exact hph.elim hk.2.1 | omega) | exact ⟨by omega, hph, by omega⟩)]
      clear hG
      have HI : Hid (Blk (w.alloc (.cells #[.int .i64 g, .int .i64 ph, .int .i64 t, .int .i64 x, .int .i64 r, .int .i64 p, .int .i64 l, .slice A n c] 45)) w.heap.size 45 [.int .i64 g, .int .i64 ph, .int .i64 t, .int .i64 x, .int .i64 r, .int .i64 p, .int .i64 l, .slice A n c]) := Lib.hid (Blk.new w 45 [.int .i64 g, .int .i64 ph, .int .i64 t, .int .i64 x, .int .i64 r, .int .i64 p, .int .i64 l, .slice A n c])
      have HO : Hid (Only (w.heap.size ≤ ·) w (w.alloc (.cells #[.int .i64 g, .int .i64 ph, .int .i64 t, .int .i64 x, .int .i64 r, .int .i64 p, .int .i64 l, .slice A n c] 45))) := Lib.hid ((Only.refl _ w).alloc (fun _ h => h) _)
      go_enter Tryz.func49, Tryz.ntmps49
      go_wp2_with (first
        | (go_at_call 70; (with_reducible refine (HGC.out _).mono ?_); rintro ee w2 ⟨rfl, rfl⟩; try (obtain ⟨i0, i1, i2, i3, i4, i5, i6, i7⟩ := HI.out.eight))
        | (go_at_call 71; (with_reducible refine (HPC.out _ HO.out).mono ?_); rintro ee w2 ⟨rfl, ho⟩; (replace HI := Lib.hid (HI.out.later ho)); (replace HO := Lib.hid (on_new HO.out ho)); clear ho; try clear i0 i1 i2 i3 i4 i5 i6 i7; (obtain ⟨i0, i1, i2, i3, i4, i5, i6, i7⟩ := HI.out.eight))
        | (go_at_call 72; (with_reducible refine (HRP.out _ HO.out).mono ?_); rintro ee w2 ⟨rfl, ho⟩; (replace HI := Lib.hid (HI.out.later ho)); (replace HO := Lib.hid (on_new HO.out ho)); clear ho; try clear i0 i1 i2 i3 i4 i5 i6 i7; (obtain ⟨i0, i1, i2, i3, i4, i5, i6, i7⟩ := HI.out.eight)))
      go_ret
      exact ⟨rfl, HO.out⟩
  · skip
    have HGC : Hid (∀ W, Calls Tryz.prog 70 #[.int .i64 g] W fun e w' => e = .returned (.bool false) ∧ W = w') := Lib.hid fun W => by have h := Gen_c W g; rwa [show gen g = false from decide_eq_false (by omega)] at h
    by_cases hph : phP g ph t n
    · skip
      have HPV : phM g ph t n = true := decide_eq_true hph
      have HPC : Hid (∀ W, Only (w.heap.size ≤ ·) w W → Calls Tryz.prog 71 #[.agg #[.int .i64 g, .int .i64 ph, .int .i64 t, .int .i64 x, .int .i64 r, .int .i64 p, .int .i64 l, .slice A n c]] W (Told W (.bool true))) := Lib.hid fun W hW => by have h := Mphased_c W g ph t x r p l A n c (hG.later hW); rwa [HPV] at h
      have HRP : Hid (∀ W, Only (w.heap.size ≤ ·) w W → Calls Tryz.prog 72 #[.agg #[.int .i64 g, .int .i64 ph, .int .i64 t, .int .i64 x, .int .i64 r, .int .i64 p, .int .i64 l, .slice A n c], .int .i64 r] W (Told W (.bool (iP p r)))) := Lib.hid fun W _ => by have h := MisPage_c W g ph t x r p l A n c r; exact h
      rw [show okM g ph t x r p l n = false from decide_eq_false (by unfold okP; first | omega | (intro hk; first | exact hph.elim hk.2.1 | omega) | exact ⟨by omega, hph, by omega⟩)]
      clear hG
      have HI : Hid (Blk (w.alloc (.cells #[.int .i64 g, .int .i64 ph, .int .i64 t, .int .i64 x, .int .i64 r, .int .i64 p, .int .i64 l, .slice A n c] 45)) w.heap.size 45 [.int .i64 g, .int .i64 ph, .int .i64 t, .int .i64 x, .int .i64 r, .int .i64 p, .int .i64 l, .slice A n c]) := Lib.hid (Blk.new w 45 [.int .i64 g, .int .i64 ph, .int .i64 t, .int .i64 x, .int .i64 r, .int .i64 p, .int .i64 l, .slice A n c])
      have HO : Hid (Only (w.heap.size ≤ ·) w (w.alloc (.cells #[.int .i64 g, .int .i64 ph, .int .i64 t, .int .i64 x, .int .i64 r, .int .i64 p, .int .i64 l, .slice A n c] 45))) := Lib.hid ((Only.refl _ w).alloc (fun _ h => h) _)
      go_enter Tryz.func49, Tryz.ntmps49
      go_wp2_with (first
        | (go_at_call 70; (with_reducible refine (HGC.out _).mono ?_); rintro ee w2 ⟨rfl, rfl⟩; try (obtain ⟨i0, i1, i2, i3, i4, i5, i6, i7⟩ := HI.out.eight))
        | (go_at_call 71; (with_reducible refine (HPC.out _ HO.out).mono ?_); rintro ee w2 ⟨rfl, ho⟩; (replace HI := Lib.hid (HI.out.later ho)); (replace HO := Lib.hid (on_new HO.out ho)); clear ho; try clear i0 i1 i2 i3 i4 i5 i6 i7; (obtain ⟨i0, i1, i2, i3, i4, i5, i6, i7⟩ := HI.out.eight))
        | (go_at_call 72; (with_reducible refine (HRP.out _ HO.out).mono ?_); rintro ee w2 ⟨rfl, ho⟩; (replace HI := Lib.hid (HI.out.later ho)); (replace HO := Lib.hid (on_new HO.out ho)); clear ho; try clear i0 i1 i2 i3 i4 i5 i6 i7; (obtain ⟨i0, i1, i2, i3, i4, i5, i6, i7⟩ := HI.out.eight)))
      go_ret
      exact ⟨rfl, HO.out⟩
    · skip
      have HPV : phM g ph t n = false := decide_eq_false hph
      have HPC : Hid (∀ W, Only (w.heap.size ≤ ·) w W → Calls Tryz.prog 71 #[.agg #[.int .i64 g, .int .i64 ph, .int .i64 t, .int .i64 x, .int .i64 r, .int .i64 p, .int .i64 l, .slice A n c]] W (Told W (.bool false))) := Lib.hid fun W hW => by have h := Mphased_c W g ph t x r p l A n c (hG.later hW); rwa [HPV] at h
      have HRP : Hid (∀ W, Only (w.heap.size ≤ ·) w W → Calls Tryz.prog 72 #[.agg #[.int .i64 g, .int .i64 ph, .int .i64 t, .int .i64 x, .int .i64 r, .int .i64 p, .int .i64 l, .slice A n c], .int .i64 r] W (Told W (.bool (iP p r)))) := Lib.hid fun W _ => by have h := MisPage_c W g ph t x r p l A n c r; exact h
      rw [show okM g ph t x r p l n = false from decide_eq_false (by unfold okP; first | omega | (intro hk; first | exact hph.elim hk.2.1 | omega) | exact ⟨by omega, hph, by omega⟩)]
      clear hG
      have HI : Hid (Blk (w.alloc (.cells #[.int .i64 g, .int .i64 ph, .int .i64 t, .int .i64 x, .int .i64 r, .int .i64 p, .int .i64 l, .slice A n c] 45)) w.heap.size 45 [.int .i64 g, .int .i64 ph, .int .i64 t, .int .i64 x, .int .i64 r, .int .i64 p, .int .i64 l, .slice A n c]) := Lib.hid (Blk.new w 45 [.int .i64 g, .int .i64 ph, .int .i64 t, .int .i64 x, .int .i64 r, .int .i64 p, .int .i64 l, .slice A n c])
      have HO : Hid (Only (w.heap.size ≤ ·) w (w.alloc (.cells #[.int .i64 g, .int .i64 ph, .int .i64 t, .int .i64 x, .int .i64 r, .int .i64 p, .int .i64 l, .slice A n c] 45))) := Lib.hid ((Only.refl _ w).alloc (fun _ h => h) _)
      go_enter Tryz.func49, Tryz.ntmps49
      go_wp2_with (first
        | (go_at_call 70; (with_reducible refine (HGC.out _).mono ?_); rintro ee w2 ⟨rfl, rfl⟩; try (obtain ⟨i0, i1, i2, i3, i4, i5, i6, i7⟩ := HI.out.eight))
        | (go_at_call 71; (with_reducible refine (HPC.out _ HO.out).mono ?_); rintro ee w2 ⟨rfl, ho⟩; (replace HI := Lib.hid (HI.out.later ho)); (replace HO := Lib.hid (on_new HO.out ho)); clear ho; try clear i0 i1 i2 i3 i4 i5 i6 i7; (obtain ⟨i0, i1, i2, i3, i4, i5, i6, i7⟩ := HI.out.eight))
        | (go_at_call 72; (with_reducible refine (HRP.out _ HO.out).mono ?_); rintro ee w2 ⟨rfl, ho⟩; (replace HI := Lib.hid (HI.out.later ho)); (replace HO := Lib.hid (on_new HO.out ho)); clear ho; try clear i0 i1 i2 i3 i4 i5 i6 i7; (obtain ⟨i0, i1, i2, i3, i4, i5, i6, i7⟩ := HI.out.eight)))
      go_ret
      exact ⟨rfl, HO.out⟩

set_option maxRecDepth 100000 in
set_option maxHeartbeats 12800000 in
theorem rmRight_c : Calls Tryz.prog 47 #[.agg #[.int .i64 g, .int .i64 ph, .int .i64 t, .int .i64 x, .int .i64 r, .int .i64 p, .int .i64 l, .slice A n c]] w (Told w (.bool (okM g ph t x r p l n))) := by
  by_cases h1 : g < 1
  · skip
    have h1d : decide (g < 1) = true := decide_eq_true h1
    rw [show okM g ph t x r p l n = false from decide_eq_false (by unfold okP phP; omega)]
    have HI : Hid (Blk (w.alloc (.cells #[.int .i64 g, .int .i64 ph, .int .i64 t, .int .i64 x, .int .i64 r, .int .i64 p, .int .i64 l, .slice A n c] 25)) w.heap.size 25 [.int .i64 g, .int .i64 ph, .int .i64 t, .int .i64 x, .int .i64 r, .int .i64 p, .int .i64 l, .slice A n c]) := Lib.hid (Blk.new w 25 [.int .i64 g, .int .i64 ph, .int .i64 t, .int .i64 x, .int .i64 r, .int .i64 p, .int .i64 l, .slice A n c])
    have HO : Hid (Only (w.heap.size ≤ ·) w (w.alloc (.cells #[.int .i64 g, .int .i64 ph, .int .i64 t, .int .i64 x, .int .i64 r, .int .i64 p, .int .i64 l, .slice A n c] 25))) := Lib.hid ((Only.refl _ w).alloc (fun _ h => h) _)
    go_enter Tryz.func47, Tryz.ntmps47
    go_wp2
    go_ret
    exact ⟨rfl, HO.out⟩
  · skip
    have h1d : decide (g < 1) = false := decide_eq_false h1
    by_cases h2 : 3 < g
    · skip
      have h2d : decide (3 < g) = true := decide_eq_true h2
      rw [show okM g ph t x r p l n = false from decide_eq_false (by unfold okP phP; omega)]
      have HI : Hid (Blk (w.alloc (.cells #[.int .i64 g, .int .i64 ph, .int .i64 t, .int .i64 x, .int .i64 r, .int .i64 p, .int .i64 l, .slice A n c] 25)) w.heap.size 25 [.int .i64 g, .int .i64 ph, .int .i64 t, .int .i64 x, .int .i64 r, .int .i64 p, .int .i64 l, .slice A n c]) := Lib.hid (Blk.new w 25 [.int .i64 g, .int .i64 ph, .int .i64 t, .int .i64 x, .int .i64 r, .int .i64 p, .int .i64 l, .slice A n c])
      have HO : Hid (Only (w.heap.size ≤ ·) w (w.alloc (.cells #[.int .i64 g, .int .i64 ph, .int .i64 t, .int .i64 x, .int .i64 r, .int .i64 p, .int .i64 l, .slice A n c] 25))) := Lib.hid ((Only.refl _ w).alloc (fun _ h => h) _)
      go_enter Tryz.func47, Tryz.ntmps47
      go_wp2
      go_ret
      exact ⟨rfl, HO.out⟩
    · skip
      have h2d : decide (3 < g) = false := decide_eq_false h2
      by_cases h3 : x < 1
      · skip
        have h3d : decide (x < 1) = true := decide_eq_true h3
        rw [show okM g ph t x r p l n = false from decide_eq_false (by unfold okP phP; omega)]
        have HI : Hid (Blk (w.alloc (.cells #[.int .i64 g, .int .i64 ph, .int .i64 t, .int .i64 x, .int .i64 r, .int .i64 p, .int .i64 l, .slice A n c] 25)) w.heap.size 25 [.int .i64 g, .int .i64 ph, .int .i64 t, .int .i64 x, .int .i64 r, .int .i64 p, .int .i64 l, .slice A n c]) := Lib.hid (Blk.new w 25 [.int .i64 g, .int .i64 ph, .int .i64 t, .int .i64 x, .int .i64 r, .int .i64 p, .int .i64 l, .slice A n c])
        have HO : Hid (Only (w.heap.size ≤ ·) w (w.alloc (.cells #[.int .i64 g, .int .i64 ph, .int .i64 t, .int .i64 x, .int .i64 r, .int .i64 p, .int .i64 l, .slice A n c] 25))) := Lib.hid ((Only.refl _ w).alloc (fun _ h => h) _)
        go_enter Tryz.func47, Tryz.ntmps47
        go_wp2
        go_ret
        exact ⟨rfl, HO.out⟩
      · skip
        have h3d : decide (x < 1) = false := decide_eq_false h3
        by_cases h4 : 2147483647 < x
        · skip
          have h4d : decide (2147483647 < x) = true := decide_eq_true h4
          rw [show okM g ph t x r p l n = false from decide_eq_false (by unfold okP phP; omega)]
          have HI : Hid (Blk (w.alloc (.cells #[.int .i64 g, .int .i64 ph, .int .i64 t, .int .i64 x, .int .i64 r, .int .i64 p, .int .i64 l, .slice A n c] 25)) w.heap.size 25 [.int .i64 g, .int .i64 ph, .int .i64 t, .int .i64 x, .int .i64 r, .int .i64 p, .int .i64 l, .slice A n c]) := Lib.hid (Blk.new w 25 [.int .i64 g, .int .i64 ph, .int .i64 t, .int .i64 x, .int .i64 r, .int .i64 p, .int .i64 l, .slice A n c])
          have HO : Hid (Only (w.heap.size ≤ ·) w (w.alloc (.cells #[.int .i64 g, .int .i64 ph, .int .i64 t, .int .i64 x, .int .i64 r, .int .i64 p, .int .i64 l, .slice A n c] 25))) := Lib.hid ((Only.refl _ w).alloc (fun _ h => h) _)
          go_enter Tryz.func47, Tryz.ntmps47
          go_wp2
          go_ret
          exact ⟨rfl, HO.out⟩
        · skip
          have h4d : decide (2147483647 < x) = false := decide_eq_false h4
          by_cases h5 : p < 3
          · skip
            have h5d : decide (p < 3) = true := decide_eq_true h5
            rw [show okM g ph t x r p l n = false from decide_eq_false (by unfold okP phP; omega)]
            have HI : Hid (Blk (w.alloc (.cells #[.int .i64 g, .int .i64 ph, .int .i64 t, .int .i64 x, .int .i64 r, .int .i64 p, .int .i64 l, .slice A n c] 25)) w.heap.size 25 [.int .i64 g, .int .i64 ph, .int .i64 t, .int .i64 x, .int .i64 r, .int .i64 p, .int .i64 l, .slice A n c]) := Lib.hid (Blk.new w 25 [.int .i64 g, .int .i64 ph, .int .i64 t, .int .i64 x, .int .i64 r, .int .i64 p, .int .i64 l, .slice A n c])
            have HO : Hid (Only (w.heap.size ≤ ·) w (w.alloc (.cells #[.int .i64 g, .int .i64 ph, .int .i64 t, .int .i64 x, .int .i64 r, .int .i64 p, .int .i64 l, .slice A n c] 25))) := Lib.hid ((Only.refl _ w).alloc (fun _ h => h) _)
            go_enter Tryz.func47, Tryz.ntmps47
            go_wp2
            go_ret
            exact ⟨rfl, HO.out⟩
          · skip
            have h5d : decide (p < 3) = false := decide_eq_false h5
            by_cases h6 : 16384 < p
            · skip
              have h6d : decide (16384 < p) = true := decide_eq_true h6
              rw [show okM g ph t x r p l n = false from decide_eq_false (by unfold okP phP; omega)]
              have HI : Hid (Blk (w.alloc (.cells #[.int .i64 g, .int .i64 ph, .int .i64 t, .int .i64 x, .int .i64 r, .int .i64 p, .int .i64 l, .slice A n c] 25)) w.heap.size 25 [.int .i64 g, .int .i64 ph, .int .i64 t, .int .i64 x, .int .i64 r, .int .i64 p, .int .i64 l, .slice A n c]) := Lib.hid (Blk.new w 25 [.int .i64 g, .int .i64 ph, .int .i64 t, .int .i64 x, .int .i64 r, .int .i64 p, .int .i64 l, .slice A n c])
              have HO : Hid (Only (w.heap.size ≤ ·) w (w.alloc (.cells #[.int .i64 g, .int .i64 ph, .int .i64 t, .int .i64 x, .int .i64 r, .int .i64 p, .int .i64 l, .slice A n c] 25))) := Lib.hid ((Only.refl _ w).alloc (fun _ h => h) _)
              go_enter Tryz.func47, Tryz.ntmps47
              go_wp2
              go_ret
              exact ⟨rfl, HO.out⟩
            · skip
              have h6d : decide (16384 < p) = false := decide_eq_false h6
              by_cases h7 : r < 2
              · skip
                have h7d : decide (r < 2) = true := decide_eq_true h7
                rw [show okM g ph t x r p l n = false from decide_eq_false (by unfold okP phP; omega)]
                have HI : Hid (Blk (w.alloc (.cells #[.int .i64 g, .int .i64 ph, .int .i64 t, .int .i64 x, .int .i64 r, .int .i64 p, .int .i64 l, .slice A n c] 25)) w.heap.size 25 [.int .i64 g, .int .i64 ph, .int .i64 t, .int .i64 x, .int .i64 r, .int .i64 p, .int .i64 l, .slice A n c]) := Lib.hid (Blk.new w 25 [.int .i64 g, .int .i64 ph, .int .i64 t, .int .i64 x, .int .i64 r, .int .i64 p, .int .i64 l, .slice A n c])
                have HO : Hid (Only (w.heap.size ≤ ·) w (w.alloc (.cells #[.int .i64 g, .int .i64 ph, .int .i64 t, .int .i64 x, .int .i64 r, .int .i64 p, .int .i64 l, .slice A n c] 25))) := Lib.hid ((Only.refl _ w).alloc (fun _ h => h) _)
                go_enter Tryz.func47, Tryz.ntmps47
                go_wp2
                go_ret
                exact ⟨rfl, HO.out⟩
              · skip
                have h7d : decide (r < 2) = false := decide_eq_false h7
                by_cases h8 : p ≤ r
                · skip
                  have h8d : decide (p ≤ r) = true := decide_eq_true h8
                  rw [show okM g ph t x r p l n = false from decide_eq_false (by unfold okP phP; omega)]
                  have HI : Hid (Blk (w.alloc (.cells #[.int .i64 g, .int .i64 ph, .int .i64 t, .int .i64 x, .int .i64 r, .int .i64 p, .int .i64 l, .slice A n c] 25)) w.heap.size 25 [.int .i64 g, .int .i64 ph, .int .i64 t, .int .i64 x, .int .i64 r, .int .i64 p, .int .i64 l, .slice A n c]) := Lib.hid (Blk.new w 25 [.int .i64 g, .int .i64 ph, .int .i64 t, .int .i64 x, .int .i64 r, .int .i64 p, .int .i64 l, .slice A n c])
                  have HO : Hid (Only (w.heap.size ≤ ·) w (w.alloc (.cells #[.int .i64 g, .int .i64 ph, .int .i64 t, .int .i64 x, .int .i64 r, .int .i64 p, .int .i64 l, .slice A n c] 25))) := Lib.hid ((Only.refl _ w).alloc (fun _ h => h) _)
                  go_enter Tryz.func47, Tryz.ntmps47
                  go_wp2
                  go_ret
                  exact ⟨rfl, HO.out⟩
                · skip
                  have h8d : decide (p ≤ r) = false := decide_eq_false h8
                  by_cases h9 : l = 0
                  · skip
                    subst h9
                    by_cases h10 : ph = 0
                    · skip
                      subst h10
                      by_cases h11 : t = 0
                      · skip
                        subst h11
                        by_cases h12 : n = 0
                        · skip
                          subst h12
                          rw [show okM g 0 0 x r p 0 0 = true from decide_eq_true (by unfold okP phP; omega)]
                          have HI : Hid (Blk (w.alloc (.cells #[.int .i64 g, .int .i64 0, .int .i64 0, .int .i64 x, .int .i64 r, .int .i64 p, .int .i64 0, .slice A 0 c] 25)) w.heap.size 25 [.int .i64 g, .int .i64 0, .int .i64 0, .int .i64 x, .int .i64 r, .int .i64 p, .int .i64 0, .slice A 0 c]) := Lib.hid (Blk.new w 25 [.int .i64 g, .int .i64 0, .int .i64 0, .int .i64 x, .int .i64 r, .int .i64 p, .int .i64 0, .slice A 0 c])
                          have HO : Hid (Only (w.heap.size ≤ ·) w (w.alloc (.cells #[.int .i64 g, .int .i64 0, .int .i64 0, .int .i64 x, .int .i64 r, .int .i64 p, .int .i64 0, .slice A 0 c] 25))) := Lib.hid ((Only.refl _ w).alloc (fun _ h => h) _)
                          go_enter Tryz.func47, Tryz.ntmps47
                          go_wp2
                          go_ret
                          exact ⟨rfl, HO.out⟩
                        · skip
                          have h12b : ((n : Int) == 0) = false := by rw [beq_eq_false_iff_ne]; omega
                          have h12n : ((n : Int) != 0) = true := by rw [bne_iff_ne]; omega
                          rw [show okM g 0 0 x r p 0 n = false from decide_eq_false (by unfold okP phP; omega)]
                          have HI : Hid (Blk (w.alloc (.cells #[.int .i64 g, .int .i64 0, .int .i64 0, .int .i64 x, .int .i64 r, .int .i64 p, .int .i64 0, .slice A n c] 25)) w.heap.size 25 [.int .i64 g, .int .i64 0, .int .i64 0, .int .i64 x, .int .i64 r, .int .i64 p, .int .i64 0, .slice A n c]) := Lib.hid (Blk.new w 25 [.int .i64 g, .int .i64 0, .int .i64 0, .int .i64 x, .int .i64 r, .int .i64 p, .int .i64 0, .slice A n c])
                          have HO : Hid (Only (w.heap.size ≤ ·) w (w.alloc (.cells #[.int .i64 g, .int .i64 0, .int .i64 0, .int .i64 x, .int .i64 r, .int .i64 p, .int .i64 0, .slice A n c] 25))) := Lib.hid ((Only.refl _ w).alloc (fun _ h => h) _)
                          go_enter Tryz.func47, Tryz.ntmps47
                          go_wp2
                          go_ret
                          exact ⟨rfl, HO.out⟩
                      · skip
                        have h11b : (t == 0) = false := by rw [beq_eq_false_iff_ne]; omega
                        have h11n : (t != 0) = true := by rw [bne_iff_ne]; omega
                        rw [show okM g 0 t x r p 0 n = false from decide_eq_false (by unfold okP phP; omega)]
                        have HI : Hid (Blk (w.alloc (.cells #[.int .i64 g, .int .i64 0, .int .i64 t, .int .i64 x, .int .i64 r, .int .i64 p, .int .i64 0, .slice A n c] 25)) w.heap.size 25 [.int .i64 g, .int .i64 0, .int .i64 t, .int .i64 x, .int .i64 r, .int .i64 p, .int .i64 0, .slice A n c]) := Lib.hid (Blk.new w 25 [.int .i64 g, .int .i64 0, .int .i64 t, .int .i64 x, .int .i64 r, .int .i64 p, .int .i64 0, .slice A n c])
                        have HO : Hid (Only (w.heap.size ≤ ·) w (w.alloc (.cells #[.int .i64 g, .int .i64 0, .int .i64 t, .int .i64 x, .int .i64 r, .int .i64 p, .int .i64 0, .slice A n c] 25))) := Lib.hid ((Only.refl _ w).alloc (fun _ h => h) _)
                        go_enter Tryz.func47, Tryz.ntmps47
                        go_wp2
                        go_ret
                        exact ⟨rfl, HO.out⟩
                    · skip
                      have h10b : (ph == 0) = false := by rw [beq_eq_false_iff_ne]; omega
                      have h10n : (ph != 0) = true := by rw [bne_iff_ne]; omega
                      by_cases h13 : ph = 1
                      · skip
                        subst h13
                        obtain ⟨mk, hmk⟩ : ∃ mk, mk = tr t 16 20 24 := ⟨_, rfl⟩
                        have HMK : Hid (∀ W, Calls Tryz.prog 66 #[.int .i64 t] W fun e w' => e = .returned (.int .i64 mk) ∧ W = w') := Lib.hid fun W => by rw [hmk]; exact rMaxKey_c W t
                        by_cases h14 : g < t
                        · skip
                          have h14d : decide (g < t) = true := decide_eq_true h14
                          by_cases h15 : t < 4
                          · skip
                            have h15d : decide (t < 4) = true := decide_eq_true h15
                            by_cases h16 : (n : Int) ≤ mk
                            · skip
                              have h16d : decide ((n : Int) ≤ mk) = true := decide_eq_true h16
                              rw [show okM g 1 t x r p 0 n = true from decide_eq_true (by unfold okP phP; omega)]
                              clear hmk
                              have HI : Hid (Blk (w.alloc (.cells #[.int .i64 g, .int .i64 1, .int .i64 t, .int .i64 x, .int .i64 r, .int .i64 p, .int .i64 0, .slice A n c] 25)) w.heap.size 25 [.int .i64 g, .int .i64 1, .int .i64 t, .int .i64 x, .int .i64 r, .int .i64 p, .int .i64 0, .slice A n c]) := Lib.hid (Blk.new w 25 [.int .i64 g, .int .i64 1, .int .i64 t, .int .i64 x, .int .i64 r, .int .i64 p, .int .i64 0, .slice A n c])
                              have HO : Hid (Only (w.heap.size ≤ ·) w (w.alloc (.cells #[.int .i64 g, .int .i64 1, .int .i64 t, .int .i64 x, .int .i64 r, .int .i64 p, .int .i64 0, .slice A n c] 25))) := Lib.hid ((Only.refl _ w).alloc (fun _ h => h) _)
                              go_enter Tryz.func47, Tryz.ntmps47
                              go_upto_region 7 with (fail)
                              replace HI := Lib.hid HI.out.drew
                              replace HO := Lib.hid HO.out.drew
                              refine wp_region_list (B := [false, false, false, false, false, false, false, false, false, false, false, false, false, false, false, false, false, false, false, false, false, false, false, false, false]) (S := (fun W => W.cell? ⟨w.heap.size, 0, none⟩ = some (.int .i64 g) ∧ W.cell? ⟨w.heap.size, 1, none⟩ = some (.int .i64 1) ∧ W.cell? ⟨w.heap.size, 2, none⟩ = some (.int .i64 t) ∧ W.cell? ⟨w.heap.size, 3, none⟩ = some (.int .i64 x) ∧ W.cell? ⟨w.heap.size, 4, none⟩ = some (.int .i64 r) ∧ W.cell? ⟨w.heap.size, 5, none⟩ = some (.int .i64 p) ∧ W.cell? ⟨w.heap.size, 6, none⟩ = some (.int .i64 0) ∧ W.cell? ⟨w.heap.size, 7, none⟩ = some (.slice A n c))) (by kernel_rfl) (by kernel_rfl) (by kernel_rfl) HI.out.eight (fun hsel hHeld => ?_)
                              generalize hwz : World.drew _ = wz at HI HO hHeld ⊢
                              clear hwz
                              refine oneA 0 70 hsel (h := ?_)
                              simp only [Act.put, lsa, lsz, lss]
                              refine oneA 1 71 hsel (h := ?_)
                              simp only [Act.put, lsa, lsz, lss]
                              refine oneA 2 72 hsel (h := ?_)
                              simp only [Act.put, lsa, lsz, lss]
                              refine oneA 3 73 hsel (h := ?_)
                              simp only [Act.put, lsa, lsz, lss]
                              refine oneA 4 74 hsel (h := ?_)
                              simp only [Act.put, lsa, lsz, lss]
                              refine oneA 5 75 hsel (h := ?_)
                              simp only [Act.put, lsa, lsz, lss]
                              refine oneA 6 76 hsel (h := ?_)
                              simp only [Act.put, lsa, lsz, lss]
                              refine oneA 7 77 hsel (h := ?_)
                              simp only [Act.put, lsa, lsz, lss]
                              refine oneA 8 78 hsel (h := ?_)
                              simp only [Act.put, lsa, lsz, lss]
                              refine oneA 9 79 hsel (h := ?_)
                              simp only [Act.put, lsa, lsz, lss]
                              refine oneA 10 80 hsel (h := ?_)
                              simp only [Act.put, lsa, lsz, lss]
                              refine oneA 11 81 hsel (h := ?_)
                              simp only [Act.put, lsa, lsz, lss]
                              refine oneA 12 82 hsel (h := ?_)
                              simp only [Act.put, lsa, lsz, lss]
                              refine oneA 13 83 hsel (h := ?_)
                              simp only [Act.put, lsa, lsz, lss]
                              refine oneA 14 84 hsel (h := ?_)
                              simp only [Act.put, lsa, lsz, lss]
                              refine oneA 15 85 hsel (h := ?_)
                              simp only [Act.put, lsa, lsz, lss]
                              refine oneA 16 86 hsel (h := ?_)
                              simp only [Act.put, lsa, lsz, lss]
                              refine oneA 17 87 hsel (h := ?_)
                              simp only [Act.put, lsa, lsz, lss]
                              refine oneA 18 88 hsel (h := ?_)
                              simp only [Act.put, lsa, lsz, lss]
                              refine oneA 19 89 hsel (h := ?_)
                              simp only [Act.put, lsa, lsz, lss]
                              refine oneA 20 90 hsel (h := ?_)
                              simp only [Act.put, lsa, lsz, lss]
                              refine wpAnyL_ready (rs := [21]) (by kernel_rfl) (by kernel_rfl) (by simp) ?_
                              refine AllReadyL.cons (o := ?_) ?_ (fun K hK => ?_) AllReadyL.nil
                              case refine_2 => (simp only [List.getElem?_cons_succ, List.getElem?_cons_zero]; rfl)
                              go_simp
                              (go_at_call 66; (with_reducible refine (HMK.out _).mono ?_); rintro ee w2 ⟨rfl, rfl⟩)
                              go_wp2_with (fail)
                              clear hHeld
                              refine hK.out _ _ HI.out.eight (fun hHeld => ?_)
                              clear hK K
                              try simp only [List.set_cons_zero, List.set_cons_succ]
                              refine oneA 22 92 hsel (h := ?_)
                              simp only [Act.put, lsa, lsz, lss]
                              refine oneA 23 93 hsel (h := ?_)
                              simp only [Act.put, lsa, lsz, lss]
                              refine oneA 24 2 hsel (h := ?_)
                              simp only [Act.put, lsa, lsz, lss]
                              refine wpAnyL_done (by kernel_rfl) (by kernel_rfl) ?_ _
                              clear hsel hHeld
                              go_wp2
                              go_ret
                              exact ⟨rfl, HO.out⟩
                            · skip
                              have h16d : decide ((n : Int) ≤ mk) = false := decide_eq_false h16
                              rw [show okM g 1 t x r p 0 n = false from decide_eq_false (by unfold okP phP; omega)]
                              clear hmk
                              have HI : Hid (Blk (w.alloc (.cells #[.int .i64 g, .int .i64 1, .int .i64 t, .int .i64 x, .int .i64 r, .int .i64 p, .int .i64 0, .slice A n c] 25)) w.heap.size 25 [.int .i64 g, .int .i64 1, .int .i64 t, .int .i64 x, .int .i64 r, .int .i64 p, .int .i64 0, .slice A n c]) := Lib.hid (Blk.new w 25 [.int .i64 g, .int .i64 1, .int .i64 t, .int .i64 x, .int .i64 r, .int .i64 p, .int .i64 0, .slice A n c])
                              have HO : Hid (Only (w.heap.size ≤ ·) w (w.alloc (.cells #[.int .i64 g, .int .i64 1, .int .i64 t, .int .i64 x, .int .i64 r, .int .i64 p, .int .i64 0, .slice A n c] 25))) := Lib.hid ((Only.refl _ w).alloc (fun _ h => h) _)
                              go_enter Tryz.func47, Tryz.ntmps47
                              go_upto_region 7 with (fail)
                              replace HI := Lib.hid HI.out.drew
                              replace HO := Lib.hid HO.out.drew
                              refine wp_region_list (B := [false, false, false, false, false, false, false, false, false, false, false, false, false, false, false, false, false, false, false, false, false, false, false, false, false]) (S := (fun W => W.cell? ⟨w.heap.size, 0, none⟩ = some (.int .i64 g) ∧ W.cell? ⟨w.heap.size, 1, none⟩ = some (.int .i64 1) ∧ W.cell? ⟨w.heap.size, 2, none⟩ = some (.int .i64 t) ∧ W.cell? ⟨w.heap.size, 3, none⟩ = some (.int .i64 x) ∧ W.cell? ⟨w.heap.size, 4, none⟩ = some (.int .i64 r) ∧ W.cell? ⟨w.heap.size, 5, none⟩ = some (.int .i64 p) ∧ W.cell? ⟨w.heap.size, 6, none⟩ = some (.int .i64 0) ∧ W.cell? ⟨w.heap.size, 7, none⟩ = some (.slice A n c))) (by kernel_rfl) (by kernel_rfl) (by kernel_rfl) HI.out.eight (fun hsel hHeld => ?_)
                              generalize hwz : World.drew _ = wz at HI HO hHeld ⊢
                              clear hwz
                              refine oneA 0 70 hsel (h := ?_)
                              simp only [Act.put, lsa, lsz, lss]
                              refine oneA 1 71 hsel (h := ?_)
                              simp only [Act.put, lsa, lsz, lss]
                              refine oneA 2 72 hsel (h := ?_)
                              simp only [Act.put, lsa, lsz, lss]
                              refine oneA 3 73 hsel (h := ?_)
                              simp only [Act.put, lsa, lsz, lss]
                              refine oneA 4 74 hsel (h := ?_)
                              simp only [Act.put, lsa, lsz, lss]
                              refine oneA 5 75 hsel (h := ?_)
                              simp only [Act.put, lsa, lsz, lss]
                              refine oneA 6 76 hsel (h := ?_)
                              simp only [Act.put, lsa, lsz, lss]
                              refine oneA 7 77 hsel (h := ?_)
                              simp only [Act.put, lsa, lsz, lss]
                              refine oneA 8 78 hsel (h := ?_)
                              simp only [Act.put, lsa, lsz, lss]
                              refine oneA 9 79 hsel (h := ?_)
                              simp only [Act.put, lsa, lsz, lss]
                              refine oneA 10 80 hsel (h := ?_)
                              simp only [Act.put, lsa, lsz, lss]
                              refine oneA 11 81 hsel (h := ?_)
                              simp only [Act.put, lsa, lsz, lss]
                              refine oneA 12 82 hsel (h := ?_)
                              simp only [Act.put, lsa, lsz, lss]
                              refine oneA 13 83 hsel (h := ?_)
                              simp only [Act.put, lsa, lsz, lss]
                              refine oneA 14 84 hsel (h := ?_)
                              simp only [Act.put, lsa, lsz, lss]
                              refine oneA 15 85 hsel (h := ?_)
                              simp only [Act.put, lsa, lsz, lss]
                              refine oneA 16 86 hsel (h := ?_)
                              simp only [Act.put, lsa, lsz, lss]
                              refine oneA 17 87 hsel (h := ?_)
                              simp only [Act.put, lsa, lsz, lss]
                              refine oneA 18 88 hsel (h := ?_)
                              simp only [Act.put, lsa, lsz, lss]
                              refine oneA 19 89 hsel (h := ?_)
                              simp only [Act.put, lsa, lsz, lss]
                              refine oneA 20 90 hsel (h := ?_)
                              simp only [Act.put, lsa, lsz, lss]
                              refine wpAnyL_ready (rs := [21]) (by kernel_rfl) (by kernel_rfl) (by simp) ?_
                              refine AllReadyL.cons (o := ?_) ?_ (fun K hK => ?_) AllReadyL.nil
                              case refine_2 => (simp only [List.getElem?_cons_succ, List.getElem?_cons_zero]; rfl)
                              go_simp
                              (go_at_call 66; (with_reducible refine (HMK.out _).mono ?_); rintro ee w2 ⟨rfl, rfl⟩)
                              go_wp2_with (fail)
                              clear hHeld
                              refine hK.out _ _ HI.out.eight (fun hHeld => ?_)
                              clear hK K
                              try simp only [List.set_cons_zero, List.set_cons_succ]
                              refine oneA 22 92 hsel (h := ?_)
                              simp only [Act.put, lsa, lsz, lss]
                              refine oneA 23 93 hsel (h := ?_)
                              simp only [Act.put, lsa, lsz, lss]
                              refine oneA 24 2 hsel (h := ?_)
                              simp only [Act.put, lsa, lsz, lss]
                              refine wpAnyL_done (by kernel_rfl) (by kernel_rfl) ?_ _
                              clear hsel hHeld
                              go_wp2
                              go_ret
                              exact ⟨rfl, HO.out⟩
                          · skip
                            have h15d : decide (t < 4) = false := decide_eq_false h15
                            rw [show okM g 1 t x r p 0 n = false from decide_eq_false (by unfold okP phP; omega)]
                            clear hmk
                            have HI : Hid (Blk (w.alloc (.cells #[.int .i64 g, .int .i64 1, .int .i64 t, .int .i64 x, .int .i64 r, .int .i64 p, .int .i64 0, .slice A n c] 25)) w.heap.size 25 [.int .i64 g, .int .i64 1, .int .i64 t, .int .i64 x, .int .i64 r, .int .i64 p, .int .i64 0, .slice A n c]) := Lib.hid (Blk.new w 25 [.int .i64 g, .int .i64 1, .int .i64 t, .int .i64 x, .int .i64 r, .int .i64 p, .int .i64 0, .slice A n c])
                            have HO : Hid (Only (w.heap.size ≤ ·) w (w.alloc (.cells #[.int .i64 g, .int .i64 1, .int .i64 t, .int .i64 x, .int .i64 r, .int .i64 p, .int .i64 0, .slice A n c] 25))) := Lib.hid ((Only.refl _ w).alloc (fun _ h => h) _)
                            go_enter Tryz.func47, Tryz.ntmps47
                            go_upto_region 7 with (fail)
                            replace HI := Lib.hid HI.out.drew
                            replace HO := Lib.hid HO.out.drew
                            refine wp_region_list (B := [false, false, false, false, false, false, false, false, false, false, false, false, false, false, false, false, false, false, false, false, false, false, false, false, false]) (S := (fun W => W.cell? ⟨w.heap.size, 0, none⟩ = some (.int .i64 g) ∧ W.cell? ⟨w.heap.size, 1, none⟩ = some (.int .i64 1) ∧ W.cell? ⟨w.heap.size, 2, none⟩ = some (.int .i64 t) ∧ W.cell? ⟨w.heap.size, 3, none⟩ = some (.int .i64 x) ∧ W.cell? ⟨w.heap.size, 4, none⟩ = some (.int .i64 r) ∧ W.cell? ⟨w.heap.size, 5, none⟩ = some (.int .i64 p) ∧ W.cell? ⟨w.heap.size, 6, none⟩ = some (.int .i64 0) ∧ W.cell? ⟨w.heap.size, 7, none⟩ = some (.slice A n c))) (by kernel_rfl) (by kernel_rfl) (by kernel_rfl) HI.out.eight (fun hsel hHeld => ?_)
                            generalize hwz : World.drew _ = wz at HI HO hHeld ⊢
                            clear hwz
                            refine oneA 0 70 hsel (h := ?_)
                            simp only [Act.put, lsa, lsz, lss]
                            refine oneA 1 71 hsel (h := ?_)
                            simp only [Act.put, lsa, lsz, lss]
                            refine oneA 2 72 hsel (h := ?_)
                            simp only [Act.put, lsa, lsz, lss]
                            refine oneA 3 73 hsel (h := ?_)
                            simp only [Act.put, lsa, lsz, lss]
                            refine oneA 4 74 hsel (h := ?_)
                            simp only [Act.put, lsa, lsz, lss]
                            refine oneA 5 75 hsel (h := ?_)
                            simp only [Act.put, lsa, lsz, lss]
                            refine oneA 6 76 hsel (h := ?_)
                            simp only [Act.put, lsa, lsz, lss]
                            refine oneA 7 77 hsel (h := ?_)
                            simp only [Act.put, lsa, lsz, lss]
                            refine oneA 8 78 hsel (h := ?_)
                            simp only [Act.put, lsa, lsz, lss]
                            refine oneA 9 79 hsel (h := ?_)
                            simp only [Act.put, lsa, lsz, lss]
                            refine oneA 10 80 hsel (h := ?_)
                            simp only [Act.put, lsa, lsz, lss]
                            refine oneA 11 81 hsel (h := ?_)
                            simp only [Act.put, lsa, lsz, lss]
                            refine oneA 12 82 hsel (h := ?_)
                            simp only [Act.put, lsa, lsz, lss]
                            refine oneA 13 83 hsel (h := ?_)
                            simp only [Act.put, lsa, lsz, lss]
                            refine oneA 14 84 hsel (h := ?_)
                            simp only [Act.put, lsa, lsz, lss]
                            refine oneA 15 85 hsel (h := ?_)
                            simp only [Act.put, lsa, lsz, lss]
                            refine take_skipL (i := 16) (d := 86) (oi := ?_) ?_ hsel (by kernel_rfl) (by kernel_rfl) (fun _ _ _ h => h) ?_ ?_ (by assumption) ?_
                            case refine_2 => (simp only [List.getElem?_cons_succ, List.getElem?_cons_zero]; rfl)
                            case refine_3 => rfl
                            case refine_4 => rfl
                            simp only [Act.put, lsa, lsz, lss]
                            refine take_skipL (i := 17) (d := 87) (oi := ?_) ?_ hsel (by kernel_rfl) (by kernel_rfl) (fun _ _ _ h => h) ?_ ?_ (by assumption) ?_
                            case refine_2 => (simp only [List.getElem?_cons_succ, List.getElem?_cons_zero]; rfl)
                            case refine_3 => rfl
                            case refine_4 => rfl
                            simp only [Act.put, lsa, lsz, lss]
                            refine take_skipL (i := 18) (d := 88) (oi := ?_) ?_ hsel (by kernel_rfl) (by kernel_rfl) (fun _ _ _ h => h) ?_ ?_ (by assumption) ?_
                            case refine_2 => (simp only [List.getElem?_cons_succ, List.getElem?_cons_zero]; rfl)
                            case refine_3 => rfl
                            case refine_4 => rfl
                            simp only [Act.put, lsa, lsz, lss]
                            refine take_skipL (i := 19) (d := 89) (oi := ?_) ?_ hsel (by kernel_rfl) (by kernel_rfl) (fun _ _ _ h => h) ?_ ?_ (by assumption) ?_
                            case refine_2 => (simp only [List.getElem?_cons_succ, List.getElem?_cons_zero]; rfl)
                            case refine_3 => rfl
                            case refine_4 => rfl
                            simp only [Act.put, lsa, lsz, lss]
                            refine take_skipL (i := 20) (d := 90) (oi := ?_) ?_ hsel (by kernel_rfl) (by kernel_rfl) (fun _ _ _ h => h) ?_ ?_ (by assumption) ?_
                            case refine_2 => (simp only [List.getElem?_cons_succ, List.getElem?_cons_zero]; rfl)
                            case refine_3 => rfl
                            case refine_4 => rfl
                            simp only [Act.put, lsa, lsz, lss]
                            refine take_skipL (i := 21) (d := 91) (oi := ?_) ?_ hsel (by kernel_rfl) (by kernel_rfl) (fun _ _ _ h => h) ?_ ?_ (by assumption) ?_
                            case refine_2 => (simp only [List.getElem?_cons_succ, List.getElem?_cons_zero]; rfl)
                            case refine_3 => rfl
                            case refine_4 => rfl
                            simp only [Act.put, lsa, lsz, lss]
                            refine take_skipL (i := 22) (d := 92) (oi := ?_) ?_ hsel (by kernel_rfl) (by kernel_rfl) (fun _ _ _ h => h) ?_ ?_ (by assumption) ?_
                            case refine_2 => (simp only [List.getElem?_cons_succ, List.getElem?_cons_zero]; rfl)
                            case refine_3 => rfl
                            case refine_4 => rfl
                            simp only [Act.put, lsa, lsz, lss]
                            refine oneA 23 93 hsel (h := ?_)
                            simp only [Act.put, lsa, lsz, lss]
                            refine oneA 24 2 hsel (h := ?_)
                            simp only [Act.put, lsa, lsz, lss]
                            refine wpAnyL_done (by kernel_rfl) (by kernel_rfl) ?_ _
                            clear hsel hHeld
                            go_wp2
                            go_ret
                            exact ⟨rfl, HO.out⟩
                        · skip
                          have h14d : decide (g < t) = false := decide_eq_false h14
                          rw [show okM g 1 t x r p 0 n = false from decide_eq_false (by unfold okP phP; omega)]
                          clear hmk
                          have HI : Hid (Blk (w.alloc (.cells #[.int .i64 g, .int .i64 1, .int .i64 t, .int .i64 x, .int .i64 r, .int .i64 p, .int .i64 0, .slice A n c] 25)) w.heap.size 25 [.int .i64 g, .int .i64 1, .int .i64 t, .int .i64 x, .int .i64 r, .int .i64 p, .int .i64 0, .slice A n c]) := Lib.hid (Blk.new w 25 [.int .i64 g, .int .i64 1, .int .i64 t, .int .i64 x, .int .i64 r, .int .i64 p, .int .i64 0, .slice A n c])
                          have HO : Hid (Only (w.heap.size ≤ ·) w (w.alloc (.cells #[.int .i64 g, .int .i64 1, .int .i64 t, .int .i64 x, .int .i64 r, .int .i64 p, .int .i64 0, .slice A n c] 25))) := Lib.hid ((Only.refl _ w).alloc (fun _ h => h) _)
                          go_enter Tryz.func47, Tryz.ntmps47
                          go_upto_region 7 with (fail)
                          replace HI := Lib.hid HI.out.drew
                          replace HO := Lib.hid HO.out.drew
                          refine wp_region_list (B := [false, false, false, false, false, false, false, false, false, false, false, false, false, false, false, false, false, false, false, false, false, false, false, false, false]) (S := (fun W => W.cell? ⟨w.heap.size, 0, none⟩ = some (.int .i64 g) ∧ W.cell? ⟨w.heap.size, 1, none⟩ = some (.int .i64 1) ∧ W.cell? ⟨w.heap.size, 2, none⟩ = some (.int .i64 t) ∧ W.cell? ⟨w.heap.size, 3, none⟩ = some (.int .i64 x) ∧ W.cell? ⟨w.heap.size, 4, none⟩ = some (.int .i64 r) ∧ W.cell? ⟨w.heap.size, 5, none⟩ = some (.int .i64 p) ∧ W.cell? ⟨w.heap.size, 6, none⟩ = some (.int .i64 0) ∧ W.cell? ⟨w.heap.size, 7, none⟩ = some (.slice A n c))) (by kernel_rfl) (by kernel_rfl) (by kernel_rfl) HI.out.eight (fun hsel hHeld => ?_)
                          generalize hwz : World.drew _ = wz at HI HO hHeld ⊢
                          clear hwz
                          refine oneA 0 70 hsel (h := ?_)
                          simp only [Act.put, lsa, lsz, lss]
                          refine oneA 1 71 hsel (h := ?_)
                          simp only [Act.put, lsa, lsz, lss]
                          refine oneA 2 72 hsel (h := ?_)
                          simp only [Act.put, lsa, lsz, lss]
                          refine oneA 3 73 hsel (h := ?_)
                          simp only [Act.put, lsa, lsz, lss]
                          refine oneA 4 74 hsel (h := ?_)
                          simp only [Act.put, lsa, lsz, lss]
                          refine oneA 5 75 hsel (h := ?_)
                          simp only [Act.put, lsa, lsz, lss]
                          refine oneA 6 76 hsel (h := ?_)
                          simp only [Act.put, lsa, lsz, lss]
                          refine oneA 7 77 hsel (h := ?_)
                          simp only [Act.put, lsa, lsz, lss]
                          refine oneA 8 78 hsel (h := ?_)
                          simp only [Act.put, lsa, lsz, lss]
                          refine oneA 9 79 hsel (h := ?_)
                          simp only [Act.put, lsa, lsz, lss]
                          refine oneA 10 80 hsel (h := ?_)
                          simp only [Act.put, lsa, lsz, lss]
                          refine take_skipL (i := 11) (d := 81) (oi := ?_) ?_ hsel (by kernel_rfl) (by kernel_rfl) (fun _ _ _ h => h) ?_ ?_ (by assumption) ?_
                          case refine_2 => (simp only [List.getElem?_cons_succ, List.getElem?_cons_zero]; rfl)
                          case refine_3 => rfl
                          case refine_4 => rfl
                          simp only [Act.put, lsa, lsz, lss]
                          refine take_skipL (i := 12) (d := 82) (oi := ?_) ?_ hsel (by kernel_rfl) (by kernel_rfl) (fun _ _ _ h => h) ?_ ?_ (by assumption) ?_
                          case refine_2 => (simp only [List.getElem?_cons_succ, List.getElem?_cons_zero]; rfl)
                          case refine_3 => rfl
                          case refine_4 => rfl
                          simp only [Act.put, lsa, lsz, lss]
                          refine take_skipL (i := 13) (d := 83) (oi := ?_) ?_ hsel (by kernel_rfl) (by kernel_rfl) (fun _ _ _ h => h) ?_ ?_ (by assumption) ?_
                          case refine_2 => (simp only [List.getElem?_cons_succ, List.getElem?_cons_zero]; rfl)
                          case refine_3 => rfl
                          case refine_4 => rfl
                          simp only [Act.put, lsa, lsz, lss]
                          refine oneA 14 84 hsel (h := ?_)
                          simp only [Act.put, lsa, lsz, lss]
                          refine oneA 15 85 hsel (h := ?_)
                          simp only [Act.put, lsa, lsz, lss]
                          refine take_skipL (i := 16) (d := 86) (oi := ?_) ?_ hsel (by kernel_rfl) (by kernel_rfl) (fun _ _ _ h => h) ?_ ?_ (by assumption) ?_
                          case refine_2 => (simp only [List.getElem?_cons_succ, List.getElem?_cons_zero]; rfl)
                          case refine_3 => rfl
                          case refine_4 => rfl
                          simp only [Act.put, lsa, lsz, lss]
                          refine take_skipL (i := 17) (d := 87) (oi := ?_) ?_ hsel (by kernel_rfl) (by kernel_rfl) (fun _ _ _ h => h) ?_ ?_ (by assumption) ?_
                          case refine_2 => (simp only [List.getElem?_cons_succ, List.getElem?_cons_zero]; rfl)
                          case refine_3 => rfl
                          case refine_4 => rfl
                          simp only [Act.put, lsa, lsz, lss]
                          refine take_skipL (i := 18) (d := 88) (oi := ?_) ?_ hsel (by kernel_rfl) (by kernel_rfl) (fun _ _ _ h => h) ?_ ?_ (by assumption) ?_
                          case refine_2 => (simp only [List.getElem?_cons_succ, List.getElem?_cons_zero]; rfl)
                          case refine_3 => rfl
                          case refine_4 => rfl
                          simp only [Act.put, lsa, lsz, lss]
                          refine take_skipL (i := 19) (d := 89) (oi := ?_) ?_ hsel (by kernel_rfl) (by kernel_rfl) (fun _ _ _ h => h) ?_ ?_ (by assumption) ?_
                          case refine_2 => (simp only [List.getElem?_cons_succ, List.getElem?_cons_zero]; rfl)
                          case refine_3 => rfl
                          case refine_4 => rfl
                          simp only [Act.put, lsa, lsz, lss]
                          refine take_skipL (i := 20) (d := 90) (oi := ?_) ?_ hsel (by kernel_rfl) (by kernel_rfl) (fun _ _ _ h => h) ?_ ?_ (by assumption) ?_
                          case refine_2 => (simp only [List.getElem?_cons_succ, List.getElem?_cons_zero]; rfl)
                          case refine_3 => rfl
                          case refine_4 => rfl
                          simp only [Act.put, lsa, lsz, lss]
                          refine take_skipL (i := 21) (d := 91) (oi := ?_) ?_ hsel (by kernel_rfl) (by kernel_rfl) (fun _ _ _ h => h) ?_ ?_ (by assumption) ?_
                          case refine_2 => (simp only [List.getElem?_cons_succ, List.getElem?_cons_zero]; rfl)
                          case refine_3 => rfl
                          case refine_4 => rfl
                          simp only [Act.put, lsa, lsz, lss]
                          refine take_skipL (i := 22) (d := 92) (oi := ?_) ?_ hsel (by kernel_rfl) (by kernel_rfl) (fun _ _ _ h => h) ?_ ?_ (by assumption) ?_
                          case refine_2 => (simp only [List.getElem?_cons_succ, List.getElem?_cons_zero]; rfl)
                          case refine_3 => rfl
                          case refine_4 => rfl
                          simp only [Act.put, lsa, lsz, lss]
                          refine oneA 23 93 hsel (h := ?_)
                          simp only [Act.put, lsa, lsz, lss]
                          refine oneA 24 2 hsel (h := ?_)
                          simp only [Act.put, lsa, lsz, lss]
                          refine wpAnyL_done (by kernel_rfl) (by kernel_rfl) ?_ _
                          clear hsel hHeld
                          go_wp2
                          go_ret
                          exact ⟨rfl, HO.out⟩
                      · skip
                        have h13b : (ph == 1) = false := by rw [beq_eq_false_iff_ne]; omega
                        have h13n : (ph != 1) = true := by rw [bne_iff_ne]; omega
                        rw [show okM g ph t x r p 0 n = false from decide_eq_false (by unfold okP phP; omega)]
                        have HI : Hid (Blk (w.alloc (.cells #[.int .i64 g, .int .i64 ph, .int .i64 t, .int .i64 x, .int .i64 r, .int .i64 p, .int .i64 0, .slice A n c] 25)) w.heap.size 25 [.int .i64 g, .int .i64 ph, .int .i64 t, .int .i64 x, .int .i64 r, .int .i64 p, .int .i64 0, .slice A n c]) := Lib.hid (Blk.new w 25 [.int .i64 g, .int .i64 ph, .int .i64 t, .int .i64 x, .int .i64 r, .int .i64 p, .int .i64 0, .slice A n c])
                        have HO : Hid (Only (w.heap.size ≤ ·) w (w.alloc (.cells #[.int .i64 g, .int .i64 ph, .int .i64 t, .int .i64 x, .int .i64 r, .int .i64 p, .int .i64 0, .slice A n c] 25))) := Lib.hid ((Only.refl _ w).alloc (fun _ h => h) _)
                        go_enter Tryz.func47, Tryz.ntmps47
                        go_upto_region 7 with (fail)
                        replace HI := Lib.hid HI.out.drew
                        replace HO := Lib.hid HO.out.drew
                        refine wp_region_list (B := [false, false, false, false, false, false, false, false, false, false, false, false, false, false, false, false, false, false, false, false, false, false, false, false, false]) (S := (fun W => W.cell? ⟨w.heap.size, 0, none⟩ = some (.int .i64 g) ∧ W.cell? ⟨w.heap.size, 1, none⟩ = some (.int .i64 ph) ∧ W.cell? ⟨w.heap.size, 2, none⟩ = some (.int .i64 t) ∧ W.cell? ⟨w.heap.size, 3, none⟩ = some (.int .i64 x) ∧ W.cell? ⟨w.heap.size, 4, none⟩ = some (.int .i64 r) ∧ W.cell? ⟨w.heap.size, 5, none⟩ = some (.int .i64 p) ∧ W.cell? ⟨w.heap.size, 6, none⟩ = some (.int .i64 0) ∧ W.cell? ⟨w.heap.size, 7, none⟩ = some (.slice A n c))) (by kernel_rfl) (by kernel_rfl) (by kernel_rfl) HI.out.eight (fun hsel hHeld => ?_)
                        generalize hwz : World.drew _ = wz at HI HO hHeld ⊢
                        clear hwz
                        refine oneA 0 70 hsel (h := ?_)
                        simp only [Act.put, lsa, lsz, lss]
                        refine oneA 1 71 hsel (h := ?_)
                        simp only [Act.put, lsa, lsz, lss]
                        refine oneA 2 72 hsel (h := ?_)
                        simp only [Act.put, lsa, lsz, lss]
                        refine oneA 3 73 hsel (h := ?_)
                        simp only [Act.put, lsa, lsz, lss]
                        refine take_skipL (i := 4) (d := 74) (oi := ?_) ?_ hsel (by kernel_rfl) (by kernel_rfl) (fun _ _ _ h => h) ?_ ?_ (by assumption) ?_
                        case refine_2 => (simp only [List.getElem?_cons_succ, List.getElem?_cons_zero]; rfl)
                        case refine_3 => rfl
                        case refine_4 => rfl
                        simp only [Act.put, lsa, lsz, lss]
                        refine take_skipL (i := 5) (d := 75) (oi := ?_) ?_ hsel (by kernel_rfl) (by kernel_rfl) (fun _ _ _ h => h) ?_ ?_ (by assumption) ?_
                        case refine_2 => (simp only [List.getElem?_cons_succ, List.getElem?_cons_zero]; rfl)
                        case refine_3 => rfl
                        case refine_4 => rfl
                        simp only [Act.put, lsa, lsz, lss]
                        refine take_skipL (i := 6) (d := 76) (oi := ?_) ?_ hsel (by kernel_rfl) (by kernel_rfl) (fun _ _ _ h => h) ?_ ?_ (by assumption) ?_
                        case refine_2 => (simp only [List.getElem?_cons_succ, List.getElem?_cons_zero]; rfl)
                        case refine_3 => rfl
                        case refine_4 => rfl
                        simp only [Act.put, lsa, lsz, lss]
                        refine take_skipL (i := 7) (d := 77) (oi := ?_) ?_ hsel (by kernel_rfl) (by kernel_rfl) (fun _ _ _ h => h) ?_ ?_ (by assumption) ?_
                        case refine_2 => (simp only [List.getElem?_cons_succ, List.getElem?_cons_zero]; rfl)
                        case refine_3 => rfl
                        case refine_4 => rfl
                        simp only [Act.put, lsa, lsz, lss]
                        refine take_skipL (i := 8) (d := 78) (oi := ?_) ?_ hsel (by kernel_rfl) (by kernel_rfl) (fun _ _ _ h => h) ?_ ?_ (by assumption) ?_
                        case refine_2 => (simp only [List.getElem?_cons_succ, List.getElem?_cons_zero]; rfl)
                        case refine_3 => rfl
                        case refine_4 => rfl
                        simp only [Act.put, lsa, lsz, lss]
                        refine oneA 9 79 hsel (h := ?_)
                        simp only [Act.put, lsa, lsz, lss]
                        refine oneA 10 80 hsel (h := ?_)
                        simp only [Act.put, lsa, lsz, lss]
                        refine take_skipL (i := 11) (d := 81) (oi := ?_) ?_ hsel (by kernel_rfl) (by kernel_rfl) (fun _ _ _ h => h) ?_ ?_ (by assumption) ?_
                        case refine_2 => (simp only [List.getElem?_cons_succ, List.getElem?_cons_zero]; rfl)
                        case refine_3 => rfl
                        case refine_4 => rfl
                        simp only [Act.put, lsa, lsz, lss]
                        refine take_skipL (i := 12) (d := 82) (oi := ?_) ?_ hsel (by kernel_rfl) (by kernel_rfl) (fun _ _ _ h => h) ?_ ?_ (by assumption) ?_
                        case refine_2 => (simp only [List.getElem?_cons_succ, List.getElem?_cons_zero]; rfl)
                        case refine_3 => rfl
                        case refine_4 => rfl
                        simp only [Act.put, lsa, lsz, lss]
                        refine take_skipL (i := 13) (d := 83) (oi := ?_) ?_ hsel (by kernel_rfl) (by kernel_rfl) (fun _ _ _ h => h) ?_ ?_ (by assumption) ?_
                        case refine_2 => (simp only [List.getElem?_cons_succ, List.getElem?_cons_zero]; rfl)
                        case refine_3 => rfl
                        case refine_4 => rfl
                        simp only [Act.put, lsa, lsz, lss]
                        refine oneA 14 84 hsel (h := ?_)
                        simp only [Act.put, lsa, lsz, lss]
                        refine oneA 15 85 hsel (h := ?_)
                        simp only [Act.put, lsa, lsz, lss]
                        refine take_skipL (i := 16) (d := 86) (oi := ?_) ?_ hsel (by kernel_rfl) (by kernel_rfl) (fun _ _ _ h => h) ?_ ?_ (by assumption) ?_
                        case refine_2 => (simp only [List.getElem?_cons_succ, List.getElem?_cons_zero]; rfl)
                        case refine_3 => rfl
                        case refine_4 => rfl
                        simp only [Act.put, lsa, lsz, lss]
                        refine take_skipL (i := 17) (d := 87) (oi := ?_) ?_ hsel (by kernel_rfl) (by kernel_rfl) (fun _ _ _ h => h) ?_ ?_ (by assumption) ?_
                        case refine_2 => (simp only [List.getElem?_cons_succ, List.getElem?_cons_zero]; rfl)
                        case refine_3 => rfl
                        case refine_4 => rfl
                        simp only [Act.put, lsa, lsz, lss]
                        refine take_skipL (i := 18) (d := 88) (oi := ?_) ?_ hsel (by kernel_rfl) (by kernel_rfl) (fun _ _ _ h => h) ?_ ?_ (by assumption) ?_
                        case refine_2 => (simp only [List.getElem?_cons_succ, List.getElem?_cons_zero]; rfl)
                        case refine_3 => rfl
                        case refine_4 => rfl
                        simp only [Act.put, lsa, lsz, lss]
                        refine take_skipL (i := 19) (d := 89) (oi := ?_) ?_ hsel (by kernel_rfl) (by kernel_rfl) (fun _ _ _ h => h) ?_ ?_ (by assumption) ?_
                        case refine_2 => (simp only [List.getElem?_cons_succ, List.getElem?_cons_zero]; rfl)
                        case refine_3 => rfl
                        case refine_4 => rfl
                        simp only [Act.put, lsa, lsz, lss]
                        refine take_skipL (i := 20) (d := 90) (oi := ?_) ?_ hsel (by kernel_rfl) (by kernel_rfl) (fun _ _ _ h => h) ?_ ?_ (by assumption) ?_
                        case refine_2 => (simp only [List.getElem?_cons_succ, List.getElem?_cons_zero]; rfl)
                        case refine_3 => rfl
                        case refine_4 => rfl
                        simp only [Act.put, lsa, lsz, lss]
                        refine take_skipL (i := 21) (d := 91) (oi := ?_) ?_ hsel (by kernel_rfl) (by kernel_rfl) (fun _ _ _ h => h) ?_ ?_ (by assumption) ?_
                        case refine_2 => (simp only [List.getElem?_cons_succ, List.getElem?_cons_zero]; rfl)
                        case refine_3 => rfl
                        case refine_4 => rfl
                        simp only [Act.put, lsa, lsz, lss]
                        refine take_skipL (i := 22) (d := 92) (oi := ?_) ?_ hsel (by kernel_rfl) (by kernel_rfl) (fun _ _ _ h => h) ?_ ?_ (by assumption) ?_
                        case refine_2 => (simp only [List.getElem?_cons_succ, List.getElem?_cons_zero]; rfl)
                        case refine_3 => rfl
                        case refine_4 => rfl
                        simp only [Act.put, lsa, lsz, lss]
                        refine oneA 23 93 hsel (h := ?_)
                        simp only [Act.put, lsa, lsz, lss]
                        refine oneA 24 2 hsel (h := ?_)
                        simp only [Act.put, lsa, lsz, lss]
                        refine wpAnyL_done (by kernel_rfl) (by kernel_rfl) ?_ _
                        clear hsel hHeld
                        go_wp2
                        go_ret
                        exact ⟨rfl, HO.out⟩
                  · skip
                    have h9b : (l == 0) = false := by rw [beq_eq_false_iff_ne]; omega
                    have h9n : (l != 0) = true := by rw [bne_iff_ne]; omega
                    by_cases h17 : l < 2
                    · skip
                      have h17d : decide (l < 2) = true := decide_eq_true h17
                      rw [show okM g ph t x r p l n = false from decide_eq_false (by unfold okP phP; omega)]
                      have HI : Hid (Blk (w.alloc (.cells #[.int .i64 g, .int .i64 ph, .int .i64 t, .int .i64 x, .int .i64 r, .int .i64 p, .int .i64 l, .slice A n c] 25)) w.heap.size 25 [.int .i64 g, .int .i64 ph, .int .i64 t, .int .i64 x, .int .i64 r, .int .i64 p, .int .i64 l, .slice A n c]) := Lib.hid (Blk.new w 25 [.int .i64 g, .int .i64 ph, .int .i64 t, .int .i64 x, .int .i64 r, .int .i64 p, .int .i64 l, .slice A n c])
                      have HO : Hid (Only (w.heap.size ≤ ·) w (w.alloc (.cells #[.int .i64 g, .int .i64 ph, .int .i64 t, .int .i64 x, .int .i64 r, .int .i64 p, .int .i64 l, .slice A n c] 25))) := Lib.hid ((Only.refl _ w).alloc (fun _ h => h) _)
                      go_enter Tryz.func47, Tryz.ntmps47
                      go_wp2
                      go_ret
                      exact ⟨rfl, HO.out⟩
                    · skip
                      have h17d : decide (l < 2) = false := decide_eq_false h17
                      by_cases h18 : p ≤ l
                      · skip
                        have h18d : decide (p ≤ l) = true := decide_eq_true h18
                        rw [show okM g ph t x r p l n = false from decide_eq_false (by unfold okP phP; omega)]
                        have HI : Hid (Blk (w.alloc (.cells #[.int .i64 g, .int .i64 ph, .int .i64 t, .int .i64 x, .int .i64 r, .int .i64 p, .int .i64 l, .slice A n c] 25)) w.heap.size 25 [.int .i64 g, .int .i64 ph, .int .i64 t, .int .i64 x, .int .i64 r, .int .i64 p, .int .i64 l, .slice A n c]) := Lib.hid (Blk.new w 25 [.int .i64 g, .int .i64 ph, .int .i64 t, .int .i64 x, .int .i64 r, .int .i64 p, .int .i64 l, .slice A n c])
                        have HO : Hid (Only (w.heap.size ≤ ·) w (w.alloc (.cells #[.int .i64 g, .int .i64 ph, .int .i64 t, .int .i64 x, .int .i64 r, .int .i64 p, .int .i64 l, .slice A n c] 25))) := Lib.hid ((Only.refl _ w).alloc (fun _ h => h) _)
                        go_enter Tryz.func47, Tryz.ntmps47
                        go_wp2
                        go_ret
                        exact ⟨rfl, HO.out⟩
                      · skip
                        have h18d : decide (p ≤ l) = false := decide_eq_false h18
                        by_cases h19 : ph = 0
                        · skip
                          subst h19
                          by_cases h20 : t = 0
                          · skip
                            subst h20
                            by_cases h21 : n = 0
                            · skip
                              subst h21
                              rw [show okM g 0 0 x r p l 0 = true from decide_eq_true (by unfold okP phP; omega)]
                              have HI : Hid (Blk (w.alloc (.cells #[.int .i64 g, .int .i64 0, .int .i64 0, .int .i64 x, .int .i64 r, .int .i64 p, .int .i64 l, .slice A 0 c] 25)) w.heap.size 25 [.int .i64 g, .int .i64 0, .int .i64 0, .int .i64 x, .int .i64 r, .int .i64 p, .int .i64 l, .slice A 0 c]) := Lib.hid (Blk.new w 25 [.int .i64 g, .int .i64 0, .int .i64 0, .int .i64 x, .int .i64 r, .int .i64 p, .int .i64 l, .slice A 0 c])
                              have HO : Hid (Only (w.heap.size ≤ ·) w (w.alloc (.cells #[.int .i64 g, .int .i64 0, .int .i64 0, .int .i64 x, .int .i64 r, .int .i64 p, .int .i64 l, .slice A 0 c] 25))) := Lib.hid ((Only.refl _ w).alloc (fun _ h => h) _)
                              go_enter Tryz.func47, Tryz.ntmps47
                              go_wp2
                              go_ret
                              exact ⟨rfl, HO.out⟩
                            · skip
                              have h21b : ((n : Int) == 0) = false := by rw [beq_eq_false_iff_ne]; omega
                              have h21n : ((n : Int) != 0) = true := by rw [bne_iff_ne]; omega
                              rw [show okM g 0 0 x r p l n = false from decide_eq_false (by unfold okP phP; omega)]
                              have HI : Hid (Blk (w.alloc (.cells #[.int .i64 g, .int .i64 0, .int .i64 0, .int .i64 x, .int .i64 r, .int .i64 p, .int .i64 l, .slice A n c] 25)) w.heap.size 25 [.int .i64 g, .int .i64 0, .int .i64 0, .int .i64 x, .int .i64 r, .int .i64 p, .int .i64 l, .slice A n c]) := Lib.hid (Blk.new w 25 [.int .i64 g, .int .i64 0, .int .i64 0, .int .i64 x, .int .i64 r, .int .i64 p, .int .i64 l, .slice A n c])
                              have HO : Hid (Only (w.heap.size ≤ ·) w (w.alloc (.cells #[.int .i64 g, .int .i64 0, .int .i64 0, .int .i64 x, .int .i64 r, .int .i64 p, .int .i64 l, .slice A n c] 25))) := Lib.hid ((Only.refl _ w).alloc (fun _ h => h) _)
                              go_enter Tryz.func47, Tryz.ntmps47
                              go_wp2
                              go_ret
                              exact ⟨rfl, HO.out⟩
                          · skip
                            have h20b : (t == 0) = false := by rw [beq_eq_false_iff_ne]; omega
                            have h20n : (t != 0) = true := by rw [bne_iff_ne]; omega
                            rw [show okM g 0 t x r p l n = false from decide_eq_false (by unfold okP phP; omega)]
                            have HI : Hid (Blk (w.alloc (.cells #[.int .i64 g, .int .i64 0, .int .i64 t, .int .i64 x, .int .i64 r, .int .i64 p, .int .i64 l, .slice A n c] 25)) w.heap.size 25 [.int .i64 g, .int .i64 0, .int .i64 t, .int .i64 x, .int .i64 r, .int .i64 p, .int .i64 l, .slice A n c]) := Lib.hid (Blk.new w 25 [.int .i64 g, .int .i64 0, .int .i64 t, .int .i64 x, .int .i64 r, .int .i64 p, .int .i64 l, .slice A n c])
                            have HO : Hid (Only (w.heap.size ≤ ·) w (w.alloc (.cells #[.int .i64 g, .int .i64 0, .int .i64 t, .int .i64 x, .int .i64 r, .int .i64 p, .int .i64 l, .slice A n c] 25))) := Lib.hid ((Only.refl _ w).alloc (fun _ h => h) _)
                            go_enter Tryz.func47, Tryz.ntmps47
                            go_wp2
                            go_ret
                            exact ⟨rfl, HO.out⟩
                        · skip
                          have h19b : (ph == 0) = false := by rw [beq_eq_false_iff_ne]; omega
                          have h19n : (ph != 0) = true := by rw [bne_iff_ne]; omega
                          by_cases h22 : ph = 1
                          · skip
                            subst h22
                            obtain ⟨mk, hmk⟩ : ∃ mk, mk = tr t 16 20 24 := ⟨_, rfl⟩
                            have HMK : Hid (∀ W, Calls Tryz.prog 66 #[.int .i64 t] W fun e w' => e = .returned (.int .i64 mk) ∧ W = w') := Lib.hid fun W => by rw [hmk]; exact rMaxKey_c W t
                            by_cases h23 : g < t
                            · skip
                              have h23d : decide (g < t) = true := decide_eq_true h23
                              by_cases h24 : t < 4
                              · skip
                                have h24d : decide (t < 4) = true := decide_eq_true h24
                                by_cases h25 : (n : Int) ≤ mk
                                · skip
                                  have h25d : decide ((n : Int) ≤ mk) = true := decide_eq_true h25
                                  rw [show okM g 1 t x r p l n = true from decide_eq_true (by unfold okP phP; omega)]
                                  clear hmk
                                  have HI : Hid (Blk (w.alloc (.cells #[.int .i64 g, .int .i64 1, .int .i64 t, .int .i64 x, .int .i64 r, .int .i64 p, .int .i64 l, .slice A n c] 25)) w.heap.size 25 [.int .i64 g, .int .i64 1, .int .i64 t, .int .i64 x, .int .i64 r, .int .i64 p, .int .i64 l, .slice A n c]) := Lib.hid (Blk.new w 25 [.int .i64 g, .int .i64 1, .int .i64 t, .int .i64 x, .int .i64 r, .int .i64 p, .int .i64 l, .slice A n c])
                                  have HO : Hid (Only (w.heap.size ≤ ·) w (w.alloc (.cells #[.int .i64 g, .int .i64 1, .int .i64 t, .int .i64 x, .int .i64 r, .int .i64 p, .int .i64 l, .slice A n c] 25))) := Lib.hid ((Only.refl _ w).alloc (fun _ h => h) _)
                                  go_enter Tryz.func47, Tryz.ntmps47
                                  go_upto_region 7 with (fail)
                                  replace HI := Lib.hid HI.out.drew
                                  replace HO := Lib.hid HO.out.drew
                                  refine wp_region_list (B := [false, false, false, false, false, false, false, false, false, false, false, false, false, false, false, false, false, false, false, false, false, false, false, false, false]) (S := (fun W => W.cell? ⟨w.heap.size, 0, none⟩ = some (.int .i64 g) ∧ W.cell? ⟨w.heap.size, 1, none⟩ = some (.int .i64 1) ∧ W.cell? ⟨w.heap.size, 2, none⟩ = some (.int .i64 t) ∧ W.cell? ⟨w.heap.size, 3, none⟩ = some (.int .i64 x) ∧ W.cell? ⟨w.heap.size, 4, none⟩ = some (.int .i64 r) ∧ W.cell? ⟨w.heap.size, 5, none⟩ = some (.int .i64 p) ∧ W.cell? ⟨w.heap.size, 6, none⟩ = some (.int .i64 l) ∧ W.cell? ⟨w.heap.size, 7, none⟩ = some (.slice A n c))) (by kernel_rfl) (by kernel_rfl) (by kernel_rfl) HI.out.eight (fun hsel hHeld => ?_)
                                  generalize hwz : World.drew _ = wz at HI HO hHeld ⊢
                                  clear hwz
                                  refine oneA 0 70 hsel (h := ?_)
                                  simp only [Act.put, lsa, lsz, lss]
                                  refine oneA 1 71 hsel (h := ?_)
                                  simp only [Act.put, lsa, lsz, lss]
                                  refine oneA 2 72 hsel (h := ?_)
                                  simp only [Act.put, lsa, lsz, lss]
                                  refine oneA 3 73 hsel (h := ?_)
                                  simp only [Act.put, lsa, lsz, lss]
                                  refine oneA 4 74 hsel (h := ?_)
                                  simp only [Act.put, lsa, lsz, lss]
                                  refine oneA 5 75 hsel (h := ?_)
                                  simp only [Act.put, lsa, lsz, lss]
                                  refine oneA 6 76 hsel (h := ?_)
                                  simp only [Act.put, lsa, lsz, lss]
                                  refine oneA 7 77 hsel (h := ?_)
                                  simp only [Act.put, lsa, lsz, lss]
                                  refine oneA 8 78 hsel (h := ?_)
                                  simp only [Act.put, lsa, lsz, lss]
                                  refine oneA 9 79 hsel (h := ?_)
                                  simp only [Act.put, lsa, lsz, lss]
                                  refine oneA 10 80 hsel (h := ?_)
                                  simp only [Act.put, lsa, lsz, lss]
                                  refine oneA 11 81 hsel (h := ?_)
                                  simp only [Act.put, lsa, lsz, lss]
                                  refine oneA 12 82 hsel (h := ?_)
                                  simp only [Act.put, lsa, lsz, lss]
                                  refine oneA 13 83 hsel (h := ?_)
                                  simp only [Act.put, lsa, lsz, lss]
                                  refine oneA 14 84 hsel (h := ?_)
                                  simp only [Act.put, lsa, lsz, lss]
                                  refine oneA 15 85 hsel (h := ?_)
                                  simp only [Act.put, lsa, lsz, lss]
                                  refine oneA 16 86 hsel (h := ?_)
                                  simp only [Act.put, lsa, lsz, lss]
                                  refine oneA 17 87 hsel (h := ?_)
                                  simp only [Act.put, lsa, lsz, lss]
                                  refine oneA 18 88 hsel (h := ?_)
                                  simp only [Act.put, lsa, lsz, lss]
                                  refine oneA 19 89 hsel (h := ?_)
                                  simp only [Act.put, lsa, lsz, lss]
                                  refine oneA 20 90 hsel (h := ?_)
                                  simp only [Act.put, lsa, lsz, lss]
                                  refine wpAnyL_ready (rs := [21]) (by kernel_rfl) (by kernel_rfl) (by simp) ?_
                                  refine AllReadyL.cons (o := ?_) ?_ (fun K hK => ?_) AllReadyL.nil
                                  case refine_2 => (simp only [List.getElem?_cons_succ, List.getElem?_cons_zero]; rfl)
                                  go_simp
                                  (go_at_call 66; (with_reducible refine (HMK.out _).mono ?_); rintro ee w2 ⟨rfl, rfl⟩)
                                  go_wp2_with (fail)
                                  clear hHeld
                                  refine hK.out _ _ HI.out.eight (fun hHeld => ?_)
                                  clear hK K
                                  try simp only [List.set_cons_zero, List.set_cons_succ]
                                  refine oneA 22 92 hsel (h := ?_)
                                  simp only [Act.put, lsa, lsz, lss]
                                  refine oneA 23 93 hsel (h := ?_)
                                  simp only [Act.put, lsa, lsz, lss]
                                  refine oneA 24 2 hsel (h := ?_)
                                  simp only [Act.put, lsa, lsz, lss]
                                  refine wpAnyL_done (by kernel_rfl) (by kernel_rfl) ?_ _
                                  clear hsel hHeld
                                  go_wp2
                                  go_ret
                                  exact ⟨rfl, HO.out⟩
                                · skip
                                  have h25d : decide ((n : Int) ≤ mk) = false := decide_eq_false h25
                                  rw [show okM g 1 t x r p l n = false from decide_eq_false (by unfold okP phP; omega)]
                                  clear hmk
                                  have HI : Hid (Blk (w.alloc (.cells #[.int .i64 g, .int .i64 1, .int .i64 t, .int .i64 x, .int .i64 r, .int .i64 p, .int .i64 l, .slice A n c] 25)) w.heap.size 25 [.int .i64 g, .int .i64 1, .int .i64 t, .int .i64 x, .int .i64 r, .int .i64 p, .int .i64 l, .slice A n c]) := Lib.hid (Blk.new w 25 [.int .i64 g, .int .i64 1, .int .i64 t, .int .i64 x, .int .i64 r, .int .i64 p, .int .i64 l, .slice A n c])
                                  have HO : Hid (Only (w.heap.size ≤ ·) w (w.alloc (.cells #[.int .i64 g, .int .i64 1, .int .i64 t, .int .i64 x, .int .i64 r, .int .i64 p, .int .i64 l, .slice A n c] 25))) := Lib.hid ((Only.refl _ w).alloc (fun _ h => h) _)
                                  go_enter Tryz.func47, Tryz.ntmps47
                                  go_upto_region 7 with (fail)
                                  replace HI := Lib.hid HI.out.drew
                                  replace HO := Lib.hid HO.out.drew
                                  refine wp_region_list (B := [false, false, false, false, false, false, false, false, false, false, false, false, false, false, false, false, false, false, false, false, false, false, false, false, false]) (S := (fun W => W.cell? ⟨w.heap.size, 0, none⟩ = some (.int .i64 g) ∧ W.cell? ⟨w.heap.size, 1, none⟩ = some (.int .i64 1) ∧ W.cell? ⟨w.heap.size, 2, none⟩ = some (.int .i64 t) ∧ W.cell? ⟨w.heap.size, 3, none⟩ = some (.int .i64 x) ∧ W.cell? ⟨w.heap.size, 4, none⟩ = some (.int .i64 r) ∧ W.cell? ⟨w.heap.size, 5, none⟩ = some (.int .i64 p) ∧ W.cell? ⟨w.heap.size, 6, none⟩ = some (.int .i64 l) ∧ W.cell? ⟨w.heap.size, 7, none⟩ = some (.slice A n c))) (by kernel_rfl) (by kernel_rfl) (by kernel_rfl) HI.out.eight (fun hsel hHeld => ?_)
                                  generalize hwz : World.drew _ = wz at HI HO hHeld ⊢
                                  clear hwz
                                  refine oneA 0 70 hsel (h := ?_)
                                  simp only [Act.put, lsa, lsz, lss]
                                  refine oneA 1 71 hsel (h := ?_)
                                  simp only [Act.put, lsa, lsz, lss]
                                  refine oneA 2 72 hsel (h := ?_)
                                  simp only [Act.put, lsa, lsz, lss]
                                  refine oneA 3 73 hsel (h := ?_)
                                  simp only [Act.put, lsa, lsz, lss]
                                  refine oneA 4 74 hsel (h := ?_)
                                  simp only [Act.put, lsa, lsz, lss]
                                  refine oneA 5 75 hsel (h := ?_)
                                  simp only [Act.put, lsa, lsz, lss]
                                  refine oneA 6 76 hsel (h := ?_)
                                  simp only [Act.put, lsa, lsz, lss]
                                  refine oneA 7 77 hsel (h := ?_)
                                  simp only [Act.put, lsa, lsz, lss]
                                  refine oneA 8 78 hsel (h := ?_)
                                  simp only [Act.put, lsa, lsz, lss]
                                  refine oneA 9 79 hsel (h := ?_)
                                  simp only [Act.put, lsa, lsz, lss]
                                  refine oneA 10 80 hsel (h := ?_)
                                  simp only [Act.put, lsa, lsz, lss]
                                  refine oneA 11 81 hsel (h := ?_)
                                  simp only [Act.put, lsa, lsz, lss]
                                  refine oneA 12 82 hsel (h := ?_)
                                  simp only [Act.put, lsa, lsz, lss]
                                  refine oneA 13 83 hsel (h := ?_)
                                  simp only [Act.put, lsa, lsz, lss]
                                  refine oneA 14 84 hsel (h := ?_)
                                  simp only [Act.put, lsa, lsz, lss]
                                  refine oneA 15 85 hsel (h := ?_)
                                  simp only [Act.put, lsa, lsz, lss]
                                  refine oneA 16 86 hsel (h := ?_)
                                  simp only [Act.put, lsa, lsz, lss]
                                  refine oneA 17 87 hsel (h := ?_)
                                  simp only [Act.put, lsa, lsz, lss]
                                  refine oneA 18 88 hsel (h := ?_)
                                  simp only [Act.put, lsa, lsz, lss]
                                  refine oneA 19 89 hsel (h := ?_)
                                  simp only [Act.put, lsa, lsz, lss]
                                  refine oneA 20 90 hsel (h := ?_)
                                  simp only [Act.put, lsa, lsz, lss]
                                  refine wpAnyL_ready (rs := [21]) (by kernel_rfl) (by kernel_rfl) (by simp) ?_
                                  refine AllReadyL.cons (o := ?_) ?_ (fun K hK => ?_) AllReadyL.nil
                                  case refine_2 => (simp only [List.getElem?_cons_succ, List.getElem?_cons_zero]; rfl)
                                  go_simp
                                  (go_at_call 66; (with_reducible refine (HMK.out _).mono ?_); rintro ee w2 ⟨rfl, rfl⟩)
                                  go_wp2_with (fail)
                                  clear hHeld
                                  refine hK.out _ _ HI.out.eight (fun hHeld => ?_)
                                  clear hK K
                                  try simp only [List.set_cons_zero, List.set_cons_succ]
                                  refine oneA 22 92 hsel (h := ?_)
                                  simp only [Act.put, lsa, lsz, lss]
                                  refine oneA 23 93 hsel (h := ?_)
                                  simp only [Act.put, lsa, lsz, lss]
                                  refine oneA 24 2 hsel (h := ?_)
                                  simp only [Act.put, lsa, lsz, lss]
                                  refine wpAnyL_done (by kernel_rfl) (by kernel_rfl) ?_ _
                                  clear hsel hHeld
                                  go_wp2
                                  go_ret
                                  exact ⟨rfl, HO.out⟩
                              · skip
                                have h24d : decide (t < 4) = false := decide_eq_false h24
                                rw [show okM g 1 t x r p l n = false from decide_eq_false (by unfold okP phP; omega)]
                                clear hmk
                                have HI : Hid (Blk (w.alloc (.cells #[.int .i64 g, .int .i64 1, .int .i64 t, .int .i64 x, .int .i64 r, .int .i64 p, .int .i64 l, .slice A n c] 25)) w.heap.size 25 [.int .i64 g, .int .i64 1, .int .i64 t, .int .i64 x, .int .i64 r, .int .i64 p, .int .i64 l, .slice A n c]) := Lib.hid (Blk.new w 25 [.int .i64 g, .int .i64 1, .int .i64 t, .int .i64 x, .int .i64 r, .int .i64 p, .int .i64 l, .slice A n c])
                                have HO : Hid (Only (w.heap.size ≤ ·) w (w.alloc (.cells #[.int .i64 g, .int .i64 1, .int .i64 t, .int .i64 x, .int .i64 r, .int .i64 p, .int .i64 l, .slice A n c] 25))) := Lib.hid ((Only.refl _ w).alloc (fun _ h => h) _)
                                go_enter Tryz.func47, Tryz.ntmps47
                                go_upto_region 7 with (fail)
                                replace HI := Lib.hid HI.out.drew
                                replace HO := Lib.hid HO.out.drew
                                refine wp_region_list (B := [false, false, false, false, false, false, false, false, false, false, false, false, false, false, false, false, false, false, false, false, false, false, false, false, false]) (S := (fun W => W.cell? ⟨w.heap.size, 0, none⟩ = some (.int .i64 g) ∧ W.cell? ⟨w.heap.size, 1, none⟩ = some (.int .i64 1) ∧ W.cell? ⟨w.heap.size, 2, none⟩ = some (.int .i64 t) ∧ W.cell? ⟨w.heap.size, 3, none⟩ = some (.int .i64 x) ∧ W.cell? ⟨w.heap.size, 4, none⟩ = some (.int .i64 r) ∧ W.cell? ⟨w.heap.size, 5, none⟩ = some (.int .i64 p) ∧ W.cell? ⟨w.heap.size, 6, none⟩ = some (.int .i64 l) ∧ W.cell? ⟨w.heap.size, 7, none⟩ = some (.slice A n c))) (by kernel_rfl) (by kernel_rfl) (by kernel_rfl) HI.out.eight (fun hsel hHeld => ?_)
                                generalize hwz : World.drew _ = wz at HI HO hHeld ⊢
                                clear hwz
                                refine oneA 0 70 hsel (h := ?_)
                                simp only [Act.put, lsa, lsz, lss]
                                refine oneA 1 71 hsel (h := ?_)
                                simp only [Act.put, lsa, lsz, lss]
                                refine oneA 2 72 hsel (h := ?_)
                                simp only [Act.put, lsa, lsz, lss]
                                refine oneA 3 73 hsel (h := ?_)
                                simp only [Act.put, lsa, lsz, lss]
                                refine oneA 4 74 hsel (h := ?_)
                                simp only [Act.put, lsa, lsz, lss]
                                refine oneA 5 75 hsel (h := ?_)
                                simp only [Act.put, lsa, lsz, lss]
                                refine oneA 6 76 hsel (h := ?_)
                                simp only [Act.put, lsa, lsz, lss]
                                refine oneA 7 77 hsel (h := ?_)
                                simp only [Act.put, lsa, lsz, lss]
                                refine oneA 8 78 hsel (h := ?_)
                                simp only [Act.put, lsa, lsz, lss]
                                refine oneA 9 79 hsel (h := ?_)
                                simp only [Act.put, lsa, lsz, lss]
                                refine oneA 10 80 hsel (h := ?_)
                                simp only [Act.put, lsa, lsz, lss]
                                refine oneA 11 81 hsel (h := ?_)
                                simp only [Act.put, lsa, lsz, lss]
                                refine oneA 12 82 hsel (h := ?_)
                                simp only [Act.put, lsa, lsz, lss]
                                refine oneA 13 83 hsel (h := ?_)
                                simp only [Act.put, lsa, lsz, lss]
                                refine oneA 14 84 hsel (h := ?_)
                                simp only [Act.put, lsa, lsz, lss]
                                refine oneA 15 85 hsel (h := ?_)
                                simp only [Act.put, lsa, lsz, lss]
                                refine take_skipL (i := 16) (d := 86) (oi := ?_) ?_ hsel (by kernel_rfl) (by kernel_rfl) (fun _ _ _ h => h) ?_ ?_ (by assumption) ?_
                                case refine_2 => (simp only [List.getElem?_cons_succ, List.getElem?_cons_zero]; rfl)
                                case refine_3 => rfl
                                case refine_4 => rfl
                                simp only [Act.put, lsa, lsz, lss]
                                refine take_skipL (i := 17) (d := 87) (oi := ?_) ?_ hsel (by kernel_rfl) (by kernel_rfl) (fun _ _ _ h => h) ?_ ?_ (by assumption) ?_
                                case refine_2 => (simp only [List.getElem?_cons_succ, List.getElem?_cons_zero]; rfl)
                                case refine_3 => rfl
                                case refine_4 => rfl
                                simp only [Act.put, lsa, lsz, lss]
                                refine take_skipL (i := 18) (d := 88) (oi := ?_) ?_ hsel (by kernel_rfl) (by kernel_rfl) (fun _ _ _ h => h) ?_ ?_ (by assumption) ?_
                                case refine_2 => (simp only [List.getElem?_cons_succ, List.getElem?_cons_zero]; rfl)
                                case refine_3 => rfl
                                case refine_4 => rfl
                                simp only [Act.put, lsa, lsz, lss]
                                refine take_skipL (i := 19) (d := 89) (oi := ?_) ?_ hsel (by kernel_rfl) (by kernel_rfl) (fun _ _ _ h => h) ?_ ?_ (by assumption) ?_
                                case refine_2 => (simp only [List.getElem?_cons_succ, List.getElem?_cons_zero]; rfl)
                                case refine_3 => rfl
                                case refine_4 => rfl
                                simp only [Act.put, lsa, lsz, lss]
                                refine take_skipL (i := 20) (d := 90) (oi := ?_) ?_ hsel (by kernel_rfl) (by kernel_rfl) (fun _ _ _ h => h) ?_ ?_ (by assumption) ?_
                                case refine_2 => (simp only [List.getElem?_cons_succ, List.getElem?_cons_zero]; rfl)
                                case refine_3 => rfl
                                case refine_4 => rfl
                                simp only [Act.put, lsa, lsz, lss]
                                refine take_skipL (i := 21) (d := 91) (oi := ?_) ?_ hsel (by kernel_rfl) (by kernel_rfl) (fun _ _ _ h => h) ?_ ?_ (by assumption) ?_
                                case refine_2 => (simp only [List.getElem?_cons_succ, List.getElem?_cons_zero]; rfl)
                                case refine_3 => rfl
                                case refine_4 => rfl
                                simp only [Act.put, lsa, lsz, lss]
                                refine take_skipL (i := 22) (d := 92) (oi := ?_) ?_ hsel (by kernel_rfl) (by kernel_rfl) (fun _ _ _ h => h) ?_ ?_ (by assumption) ?_
                                case refine_2 => (simp only [List.getElem?_cons_succ, List.getElem?_cons_zero]; rfl)
                                case refine_3 => rfl
                                case refine_4 => rfl
                                simp only [Act.put, lsa, lsz, lss]
                                refine oneA 23 93 hsel (h := ?_)
                                simp only [Act.put, lsa, lsz, lss]
                                refine oneA 24 2 hsel (h := ?_)
                                simp only [Act.put, lsa, lsz, lss]
                                refine wpAnyL_done (by kernel_rfl) (by kernel_rfl) ?_ _
                                clear hsel hHeld
                                go_wp2
                                go_ret
                                exact ⟨rfl, HO.out⟩
                            · skip
                              have h23d : decide (g < t) = false := decide_eq_false h23
                              rw [show okM g 1 t x r p l n = false from decide_eq_false (by unfold okP phP; omega)]
                              clear hmk
                              have HI : Hid (Blk (w.alloc (.cells #[.int .i64 g, .int .i64 1, .int .i64 t, .int .i64 x, .int .i64 r, .int .i64 p, .int .i64 l, .slice A n c] 25)) w.heap.size 25 [.int .i64 g, .int .i64 1, .int .i64 t, .int .i64 x, .int .i64 r, .int .i64 p, .int .i64 l, .slice A n c]) := Lib.hid (Blk.new w 25 [.int .i64 g, .int .i64 1, .int .i64 t, .int .i64 x, .int .i64 r, .int .i64 p, .int .i64 l, .slice A n c])
                              have HO : Hid (Only (w.heap.size ≤ ·) w (w.alloc (.cells #[.int .i64 g, .int .i64 1, .int .i64 t, .int .i64 x, .int .i64 r, .int .i64 p, .int .i64 l, .slice A n c] 25))) := Lib.hid ((Only.refl _ w).alloc (fun _ h => h) _)
                              go_enter Tryz.func47, Tryz.ntmps47
                              go_upto_region 7 with (fail)
                              replace HI := Lib.hid HI.out.drew
                              replace HO := Lib.hid HO.out.drew
                              refine wp_region_list (B := [false, false, false, false, false, false, false, false, false, false, false, false, false, false, false, false, false, false, false, false, false, false, false, false, false]) (S := (fun W => W.cell? ⟨w.heap.size, 0, none⟩ = some (.int .i64 g) ∧ W.cell? ⟨w.heap.size, 1, none⟩ = some (.int .i64 1) ∧ W.cell? ⟨w.heap.size, 2, none⟩ = some (.int .i64 t) ∧ W.cell? ⟨w.heap.size, 3, none⟩ = some (.int .i64 x) ∧ W.cell? ⟨w.heap.size, 4, none⟩ = some (.int .i64 r) ∧ W.cell? ⟨w.heap.size, 5, none⟩ = some (.int .i64 p) ∧ W.cell? ⟨w.heap.size, 6, none⟩ = some (.int .i64 l) ∧ W.cell? ⟨w.heap.size, 7, none⟩ = some (.slice A n c))) (by kernel_rfl) (by kernel_rfl) (by kernel_rfl) HI.out.eight (fun hsel hHeld => ?_)
                              generalize hwz : World.drew _ = wz at HI HO hHeld ⊢
                              clear hwz
                              refine oneA 0 70 hsel (h := ?_)
                              simp only [Act.put, lsa, lsz, lss]
                              refine oneA 1 71 hsel (h := ?_)
                              simp only [Act.put, lsa, lsz, lss]
                              refine oneA 2 72 hsel (h := ?_)
                              simp only [Act.put, lsa, lsz, lss]
                              refine oneA 3 73 hsel (h := ?_)
                              simp only [Act.put, lsa, lsz, lss]
                              refine oneA 4 74 hsel (h := ?_)
                              simp only [Act.put, lsa, lsz, lss]
                              refine oneA 5 75 hsel (h := ?_)
                              simp only [Act.put, lsa, lsz, lss]
                              refine oneA 6 76 hsel (h := ?_)
                              simp only [Act.put, lsa, lsz, lss]
                              refine oneA 7 77 hsel (h := ?_)
                              simp only [Act.put, lsa, lsz, lss]
                              refine oneA 8 78 hsel (h := ?_)
                              simp only [Act.put, lsa, lsz, lss]
                              refine oneA 9 79 hsel (h := ?_)
                              simp only [Act.put, lsa, lsz, lss]
                              refine oneA 10 80 hsel (h := ?_)
                              simp only [Act.put, lsa, lsz, lss]
                              refine take_skipL (i := 11) (d := 81) (oi := ?_) ?_ hsel (by kernel_rfl) (by kernel_rfl) (fun _ _ _ h => h) ?_ ?_ (by assumption) ?_
                              case refine_2 => (simp only [List.getElem?_cons_succ, List.getElem?_cons_zero]; rfl)
                              case refine_3 => rfl
                              case refine_4 => rfl
                              simp only [Act.put, lsa, lsz, lss]
                              refine take_skipL (i := 12) (d := 82) (oi := ?_) ?_ hsel (by kernel_rfl) (by kernel_rfl) (fun _ _ _ h => h) ?_ ?_ (by assumption) ?_
                              case refine_2 => (simp only [List.getElem?_cons_succ, List.getElem?_cons_zero]; rfl)
                              case refine_3 => rfl
                              case refine_4 => rfl
                              simp only [Act.put, lsa, lsz, lss]
                              refine take_skipL (i := 13) (d := 83) (oi := ?_) ?_ hsel (by kernel_rfl) (by kernel_rfl) (fun _ _ _ h => h) ?_ ?_ (by assumption) ?_
                              case refine_2 => (simp only [List.getElem?_cons_succ, List.getElem?_cons_zero]; rfl)
                              case refine_3 => rfl
                              case refine_4 => rfl
                              simp only [Act.put, lsa, lsz, lss]
                              refine oneA 14 84 hsel (h := ?_)
                              simp only [Act.put, lsa, lsz, lss]
                              refine oneA 15 85 hsel (h := ?_)
                              simp only [Act.put, lsa, lsz, lss]
                              refine take_skipL (i := 16) (d := 86) (oi := ?_) ?_ hsel (by kernel_rfl) (by kernel_rfl) (fun _ _ _ h => h) ?_ ?_ (by assumption) ?_
                              case refine_2 => (simp only [List.getElem?_cons_succ, List.getElem?_cons_zero]; rfl)
                              case refine_3 => rfl
                              case refine_4 => rfl
                              simp only [Act.put, lsa, lsz, lss]
                              refine take_skipL (i := 17) (d := 87) (oi := ?_) ?_ hsel (by kernel_rfl) (by kernel_rfl) (fun _ _ _ h => h) ?_ ?_ (by assumption) ?_
                              case refine_2 => (simp only [List.getElem?_cons_succ, List.getElem?_cons_zero]; rfl)
                              case refine_3 => rfl
                              case refine_4 => rfl
                              simp only [Act.put, lsa, lsz, lss]
                              refine take_skipL (i := 18) (d := 88) (oi := ?_) ?_ hsel (by kernel_rfl) (by kernel_rfl) (fun _ _ _ h => h) ?_ ?_ (by assumption) ?_
                              case refine_2 => (simp only [List.getElem?_cons_succ, List.getElem?_cons_zero]; rfl)
                              case refine_3 => rfl
                              case refine_4 => rfl
                              simp only [Act.put, lsa, lsz, lss]
                              refine take_skipL (i := 19) (d := 89) (oi := ?_) ?_ hsel (by kernel_rfl) (by kernel_rfl) (fun _ _ _ h => h) ?_ ?_ (by assumption) ?_
                              case refine_2 => (simp only [List.getElem?_cons_succ, List.getElem?_cons_zero]; rfl)
                              case refine_3 => rfl
                              case refine_4 => rfl
                              simp only [Act.put, lsa, lsz, lss]
                              refine take_skipL (i := 20) (d := 90) (oi := ?_) ?_ hsel (by kernel_rfl) (by kernel_rfl) (fun _ _ _ h => h) ?_ ?_ (by assumption) ?_
                              case refine_2 => (simp only [List.getElem?_cons_succ, List.getElem?_cons_zero]; rfl)
                              case refine_3 => rfl
                              case refine_4 => rfl
                              simp only [Act.put, lsa, lsz, lss]
                              refine take_skipL (i := 21) (d := 91) (oi := ?_) ?_ hsel (by kernel_rfl) (by kernel_rfl) (fun _ _ _ h => h) ?_ ?_ (by assumption) ?_
                              case refine_2 => (simp only [List.getElem?_cons_succ, List.getElem?_cons_zero]; rfl)
                              case refine_3 => rfl
                              case refine_4 => rfl
                              simp only [Act.put, lsa, lsz, lss]
                              refine take_skipL (i := 22) (d := 92) (oi := ?_) ?_ hsel (by kernel_rfl) (by kernel_rfl) (fun _ _ _ h => h) ?_ ?_ (by assumption) ?_
                              case refine_2 => (simp only [List.getElem?_cons_succ, List.getElem?_cons_zero]; rfl)
                              case refine_3 => rfl
                              case refine_4 => rfl
                              simp only [Act.put, lsa, lsz, lss]
                              refine oneA 23 93 hsel (h := ?_)
                              simp only [Act.put, lsa, lsz, lss]
                              refine oneA 24 2 hsel (h := ?_)
                              simp only [Act.put, lsa, lsz, lss]
                              refine wpAnyL_done (by kernel_rfl) (by kernel_rfl) ?_ _
                              clear hsel hHeld
                              go_wp2
                              go_ret
                              exact ⟨rfl, HO.out⟩
                          · skip
                            have h22b : (ph == 1) = false := by rw [beq_eq_false_iff_ne]; omega
                            have h22n : (ph != 1) = true := by rw [bne_iff_ne]; omega
                            rw [show okM g ph t x r p l n = false from decide_eq_false (by unfold okP phP; omega)]
                            have HI : Hid (Blk (w.alloc (.cells #[.int .i64 g, .int .i64 ph, .int .i64 t, .int .i64 x, .int .i64 r, .int .i64 p, .int .i64 l, .slice A n c] 25)) w.heap.size 25 [.int .i64 g, .int .i64 ph, .int .i64 t, .int .i64 x, .int .i64 r, .int .i64 p, .int .i64 l, .slice A n c]) := Lib.hid (Blk.new w 25 [.int .i64 g, .int .i64 ph, .int .i64 t, .int .i64 x, .int .i64 r, .int .i64 p, .int .i64 l, .slice A n c])
                            have HO : Hid (Only (w.heap.size ≤ ·) w (w.alloc (.cells #[.int .i64 g, .int .i64 ph, .int .i64 t, .int .i64 x, .int .i64 r, .int .i64 p, .int .i64 l, .slice A n c] 25))) := Lib.hid ((Only.refl _ w).alloc (fun _ h => h) _)
                            go_enter Tryz.func47, Tryz.ntmps47
                            go_upto_region 7 with (fail)
                            replace HI := Lib.hid HI.out.drew
                            replace HO := Lib.hid HO.out.drew
                            refine wp_region_list (B := [false, false, false, false, false, false, false, false, false, false, false, false, false, false, false, false, false, false, false, false, false, false, false, false, false]) (S := (fun W => W.cell? ⟨w.heap.size, 0, none⟩ = some (.int .i64 g) ∧ W.cell? ⟨w.heap.size, 1, none⟩ = some (.int .i64 ph) ∧ W.cell? ⟨w.heap.size, 2, none⟩ = some (.int .i64 t) ∧ W.cell? ⟨w.heap.size, 3, none⟩ = some (.int .i64 x) ∧ W.cell? ⟨w.heap.size, 4, none⟩ = some (.int .i64 r) ∧ W.cell? ⟨w.heap.size, 5, none⟩ = some (.int .i64 p) ∧ W.cell? ⟨w.heap.size, 6, none⟩ = some (.int .i64 l) ∧ W.cell? ⟨w.heap.size, 7, none⟩ = some (.slice A n c))) (by kernel_rfl) (by kernel_rfl) (by kernel_rfl) HI.out.eight (fun hsel hHeld => ?_)
                            generalize hwz : World.drew _ = wz at HI HO hHeld ⊢
                            clear hwz
                            refine oneA 0 70 hsel (h := ?_)
                            simp only [Act.put, lsa, lsz, lss]
                            refine oneA 1 71 hsel (h := ?_)
                            simp only [Act.put, lsa, lsz, lss]
                            refine oneA 2 72 hsel (h := ?_)
                            simp only [Act.put, lsa, lsz, lss]
                            refine oneA 3 73 hsel (h := ?_)
                            simp only [Act.put, lsa, lsz, lss]
                            refine take_skipL (i := 4) (d := 74) (oi := ?_) ?_ hsel (by kernel_rfl) (by kernel_rfl) (fun _ _ _ h => h) ?_ ?_ (by assumption) ?_
                            case refine_2 => (simp only [List.getElem?_cons_succ, List.getElem?_cons_zero]; rfl)
                            case refine_3 => rfl
                            case refine_4 => rfl
                            simp only [Act.put, lsa, lsz, lss]
                            refine take_skipL (i := 5) (d := 75) (oi := ?_) ?_ hsel (by kernel_rfl) (by kernel_rfl) (fun _ _ _ h => h) ?_ ?_ (by assumption) ?_
                            case refine_2 => (simp only [List.getElem?_cons_succ, List.getElem?_cons_zero]; rfl)
                            case refine_3 => rfl
                            case refine_4 => rfl
                            simp only [Act.put, lsa, lsz, lss]
                            refine take_skipL (i := 6) (d := 76) (oi := ?_) ?_ hsel (by kernel_rfl) (by kernel_rfl) (fun _ _ _ h => h) ?_ ?_ (by assumption) ?_
                            case refine_2 => (simp only [List.getElem?_cons_succ, List.getElem?_cons_zero]; rfl)
                            case refine_3 => rfl
                            case refine_4 => rfl
                            simp only [Act.put, lsa, lsz, lss]
                            refine take_skipL (i := 7) (d := 77) (oi := ?_) ?_ hsel (by kernel_rfl) (by kernel_rfl) (fun _ _ _ h => h) ?_ ?_ (by assumption) ?_
                            case refine_2 => (simp only [List.getElem?_cons_succ, List.getElem?_cons_zero]; rfl)
                            case refine_3 => rfl
                            case refine_4 => rfl
                            simp only [Act.put, lsa, lsz, lss]
                            refine take_skipL (i := 8) (d := 78) (oi := ?_) ?_ hsel (by kernel_rfl) (by kernel_rfl) (fun _ _ _ h => h) ?_ ?_ (by assumption) ?_
                            case refine_2 => (simp only [List.getElem?_cons_succ, List.getElem?_cons_zero]; rfl)
                            case refine_3 => rfl
                            case refine_4 => rfl
                            simp only [Act.put, lsa, lsz, lss]
                            refine oneA 9 79 hsel (h := ?_)
                            simp only [Act.put, lsa, lsz, lss]
                            refine oneA 10 80 hsel (h := ?_)
                            simp only [Act.put, lsa, lsz, lss]
                            refine take_skipL (i := 11) (d := 81) (oi := ?_) ?_ hsel (by kernel_rfl) (by kernel_rfl) (fun _ _ _ h => h) ?_ ?_ (by assumption) ?_
                            case refine_2 => (simp only [List.getElem?_cons_succ, List.getElem?_cons_zero]; rfl)
                            case refine_3 => rfl
                            case refine_4 => rfl
                            simp only [Act.put, lsa, lsz, lss]
                            refine take_skipL (i := 12) (d := 82) (oi := ?_) ?_ hsel (by kernel_rfl) (by kernel_rfl) (fun _ _ _ h => h) ?_ ?_ (by assumption) ?_
                            case refine_2 => (simp only [List.getElem?_cons_succ, List.getElem?_cons_zero]; rfl)
                            case refine_3 => rfl
                            case refine_4 => rfl
                            simp only [Act.put, lsa, lsz, lss]
                            refine take_skipL (i := 13) (d := 83) (oi := ?_) ?_ hsel (by kernel_rfl) (by kernel_rfl) (fun _ _ _ h => h) ?_ ?_ (by assumption) ?_
                            case refine_2 => (simp only [List.getElem?_cons_succ, List.getElem?_cons_zero]; rfl)
                            case refine_3 => rfl
                            case refine_4 => rfl
                            simp only [Act.put, lsa, lsz, lss]
                            refine oneA 14 84 hsel (h := ?_)
                            simp only [Act.put, lsa, lsz, lss]
                            refine oneA 15 85 hsel (h := ?_)
                            simp only [Act.put, lsa, lsz, lss]
                            refine take_skipL (i := 16) (d := 86) (oi := ?_) ?_ hsel (by kernel_rfl) (by kernel_rfl) (fun _ _ _ h => h) ?_ ?_ (by assumption) ?_
                            case refine_2 => (simp only [List.getElem?_cons_succ, List.getElem?_cons_zero]; rfl)
                            case refine_3 => rfl
                            case refine_4 => rfl
                            simp only [Act.put, lsa, lsz, lss]
                            refine take_skipL (i := 17) (d := 87) (oi := ?_) ?_ hsel (by kernel_rfl) (by kernel_rfl) (fun _ _ _ h => h) ?_ ?_ (by assumption) ?_
                            case refine_2 => (simp only [List.getElem?_cons_succ, List.getElem?_cons_zero]; rfl)
                            case refine_3 => rfl
                            case refine_4 => rfl
                            simp only [Act.put, lsa, lsz, lss]
                            refine take_skipL (i := 18) (d := 88) (oi := ?_) ?_ hsel (by kernel_rfl) (by kernel_rfl) (fun _ _ _ h => h) ?_ ?_ (by assumption) ?_
                            case refine_2 => (simp only [List.getElem?_cons_succ, List.getElem?_cons_zero]; rfl)
                            case refine_3 => rfl
                            case refine_4 => rfl
                            simp only [Act.put, lsa, lsz, lss]
                            refine take_skipL (i := 19) (d := 89) (oi := ?_) ?_ hsel (by kernel_rfl) (by kernel_rfl) (fun _ _ _ h => h) ?_ ?_ (by assumption) ?_
                            case refine_2 => (simp only [List.getElem?_cons_succ, List.getElem?_cons_zero]; rfl)
                            case refine_3 => rfl
                            case refine_4 => rfl
                            simp only [Act.put, lsa, lsz, lss]
                            refine take_skipL (i := 20) (d := 90) (oi := ?_) ?_ hsel (by kernel_rfl) (by kernel_rfl) (fun _ _ _ h => h) ?_ ?_ (by assumption) ?_
                            case refine_2 => (simp only [List.getElem?_cons_succ, List.getElem?_cons_zero]; rfl)
                            case refine_3 => rfl
                            case refine_4 => rfl
                            simp only [Act.put, lsa, lsz, lss]
                            refine take_skipL (i := 21) (d := 91) (oi := ?_) ?_ hsel (by kernel_rfl) (by kernel_rfl) (fun _ _ _ h => h) ?_ ?_ (by assumption) ?_
                            case refine_2 => (simp only [List.getElem?_cons_succ, List.getElem?_cons_zero]; rfl)
                            case refine_3 => rfl
                            case refine_4 => rfl
                            simp only [Act.put, lsa, lsz, lss]
                            refine take_skipL (i := 22) (d := 92) (oi := ?_) ?_ hsel (by kernel_rfl) (by kernel_rfl) (fun _ _ _ h => h) ?_ ?_ (by assumption) ?_
                            case refine_2 => (simp only [List.getElem?_cons_succ, List.getElem?_cons_zero]; rfl)
                            case refine_3 => rfl
                            case refine_4 => rfl
                            simp only [Act.put, lsa, lsz, lss]
                            refine oneA 23 93 hsel (h := ?_)
                            simp only [Act.put, lsa, lsz, lss]
                            refine oneA 24 2 hsel (h := ?_)
                            simp only [Act.put, lsa, lsz, lss]
                            refine wpAnyL_done (by kernel_rfl) (by kernel_rfl) ?_ _
                            clear hsel hHeld
                            go_wp2
                            go_ret
                            exact ⟨rfl, HO.out⟩
end
end Go.Proofs.YtbpldkhgiddmlaaGreatDoor

/-
  Metas: the seven numbers' addresses; are two the same?
-/
set_option linter.unusedVariables false
namespace Go.Proofs.YtbpldkhgiddmlaaGreatDoor
open Go.RowKit

theorem load_seven {w : World} {q : Nat} {a b c d e f g : Value} (h : Blk w q 109 [a, b, c, d, e, f, g]) (h0 : a.oneCell' = true) (h1 : b.oneCell' = true) (h2 : c.oneCell' = true) (h3 : d.oneCell' = true) (h4 : e.oneCell' = true) (h5 : f.oneCell' = true) (h6 : g.oneCell' = true) : (loadVar 109 ⟨q, 0, none⟩).run Tryz.prog w = .ok (.agg #[a, b, c, d, e, f, g]) w := by
  have hl := run_loadCells_list (P := Tryz.prog) w ⟨q, 0, none⟩ [a, b, c, d, e, f, g] (fun j z hz => by rw [Addr.add_lit, h.cell, Nat.zero_add]; exact hz)
  simp only [List.length_cons, List.length_nil] at hl
  simp [loadVar, hl]
set_option maxRecDepth 100000 in
set_option maxHeartbeats 1600000 in
theorem fields_c (w : World) (b : Nat) : Calls Tryz.prog 60 #[.pointer (some ⟨b, 0, none⟩)] w (Told w (.agg #[.pointer (some ⟨b, 0, none⟩), .pointer (some ⟨b, 1, none⟩), .pointer (some ⟨b, 2, none⟩), .pointer (some ⟨b, 3, none⟩), .pointer (some ⟨b, 4, none⟩), .pointer (some ⟨b, 5, none⟩), .pointer (some ⟨b, 6, none⟩)])) := by
  obtain ⟨W0, hW0⟩ : ∃ W0, W0 = w.alloc (.cells #[.pointer none, .pointer none, .pointer none, .pointer none, .pointer none, .pointer none, .pointer none] 109) := ⟨_, rfl⟩
  have HO : Hid (Only (w.heap.size ≤ ·) w W0) := Lib.hid (by rw [hW0]; exact (Only.refl _ w).alloc (fun _ h => h) _)
  have HI : Hid (Blk W0 w.heap.size 109 [.pointer none, .pointer none, .pointer none, .pointer none, .pointer none, .pointer none, .pointer none]) := Lib.hid (by rw [hW0]; exact Blk.new w 109 _)
  go_enter Tryz.func60, Tryz.ntmps60
  go_upto_region 1 with (fail)
  rw [← hW0]
  clear hW0
  refine wp_region_list (B := [false, false, false, false, false, false, false, false, false, false, false, false, false, false, false, false, false, false, false, false, false, false, false]) (S := (fun _ => True)) (by kernel_rfl) (by kernel_rfl) (by kernel_rfl) trivial (fun hsel hHeld => ?_)
  obtain ⟨wy, hwy⟩ : ∃ wy, wy = W0.drew := ⟨_, rfl⟩
  have HY : Hid (Blk wy w.heap.size 109 [.pointer none, .pointer none, .pointer none, .pointer none, .pointer none, .pointer none, .pointer none]) := Lib.hid (by rw [hwy]; exact HI.out.drew)
  have HOY : Hid (Only (w.heap.size ≤ ·) w wy) := Lib.hid (by rw [hwy]; exact HO.out.drew)
  rw [← hwy]
  clear hwy
  have s0 : wy.cell? ⟨w.heap.size, 0, none⟩ = some (.pointer none) := HY.out.cell 0
  have s1 : wy.cell? ⟨w.heap.size, 1, none⟩ = some (.pointer none) := HY.out.cell 1
  have s2 : wy.cell? ⟨w.heap.size, 2, none⟩ = some (.pointer none) := HY.out.cell 2
  have s3 : wy.cell? ⟨w.heap.size, 3, none⟩ = some (.pointer none) := HY.out.cell 3
  have s4 : wy.cell? ⟨w.heap.size, 4, none⟩ = some (.pointer none) := HY.out.cell 4
  have s5 : wy.cell? ⟨w.heap.size, 5, none⟩ = some (.pointer none) := HY.out.cell 5
  have s6 : wy.cell? ⟨w.heap.size, 6, none⟩ = some (.pointer none) := HY.out.cell 6
  have z0 := HY.out.frozen 0
  have z1 := HY.out.frozen 1
  have z2 := HY.out.frozen 2
  have z3 := HY.out.frozen 3
  have z4 := HY.out.frozen 4
  have z5 := HY.out.frozen 5
  have z6 := HY.out.frozen 6
  have HS7 := Lib.hid (((((((HY.out.set_ 0 (.pointer (some ⟨b, 0, none⟩))).set_ 1 (.pointer (some ⟨b, 1, none⟩))).set_ 2 (.pointer (some ⟨b, 2, none⟩))).set_ 3 (.pointer (some ⟨b, 3, none⟩))).set_ 4 (.pointer (some ⟨b, 4, none⟩))).set_ 5 (.pointer (some ⟨b, 5, none⟩))).set_ 6 (.pointer (some ⟨b, 6, none⟩)))
  have HO7 := Lib.hid (((((((HOY.out.setCell (p := ⟨w.heap.size, 0, none⟩) (Nat.le_refl _) (.pointer (some ⟨b, 0, none⟩))).setCell (p := ⟨w.heap.size, 1, none⟩) (Nat.le_refl _) (.pointer (some ⟨b, 1, none⟩))).setCell (p := ⟨w.heap.size, 2, none⟩) (Nat.le_refl _) (.pointer (some ⟨b, 2, none⟩))).setCell (p := ⟨w.heap.size, 3, none⟩) (Nat.le_refl _) (.pointer (some ⟨b, 3, none⟩))).setCell (p := ⟨w.heap.size, 4, none⟩) (Nat.le_refl _) (.pointer (some ⟨b, 4, none⟩))).setCell (p := ⟨w.heap.size, 5, none⟩) (Nat.le_refl _) (.pointer (some ⟨b, 5, none⟩))).setCell (p := ⟨w.heap.size, 6, none⟩) (Nat.le_refl _) (.pointer (some ⟨b, 6, none⟩)))
  refine oneA 0 3 hsel (h := ?_)
  simp only [Act.put, lsa, lsz, lss]
  refine oneA 1 4 hsel (h := ?_)
  simp only [Act.put, lsa, lsz, lss]
  refine oneA 2 5 hsel (h := ?_)
  simp only [Act.put, lsa, lsz, lss]
  refine oneA 3 6 hsel (h := ?_)
  simp only [Act.put, lsa, lsz, lss]
  refine oneA 4 7 hsel (h := ?_)
  simp only [Act.put, lsa, lsz, lss]
  refine oneA 5 8 hsel (h := ?_)
  simp only [Act.put, lsa, lsz, lss]
  refine oneA 6 9 hsel (h := ?_)
  simp only [Act.put, lsa, lsz, lss]
  refine oneA 7 10 hsel (h := ?_)
  simp only [Act.put, lsa, lsz, lss]
  refine oneA 8 11 hsel (h := ?_)
  simp only [Act.put, lsa, lsz, lss]
  refine oneA 9 12 hsel (h := ?_)
  simp only [Act.put, lsa, lsz, lss]
  refine oneA 10 13 hsel (h := ?_)
  simp only [Act.put, lsa, lsz, lss]
  refine oneA 11 14 hsel (h := ?_)
  simp only [Act.put, lsa, lsz, lss]
  refine oneA 12 15 hsel (h := ?_)
  simp only [Act.put, lsa, lsz, lss]
  refine oneA 13 16 hsel (h := ?_)
  simp only [Act.put, lsa, lsz, lss]
  refine oneA 14 17 hsel (h := ?_)
  simp only [Act.put, lsa, lsz, lss]
  refine oneA 15 18 hsel (h := ?_)
  simp only [Act.put, lsa, lsz, lss]
  refine oneA 16 19 hsel (h := ?_)
  simp only [Act.put, lsa, lsz, lss]
  refine oneA 17 20 hsel (h := ?_)
  simp only [Act.put, lsa, lsz, lss]
  refine oneA 18 21 hsel (h := ?_)
  simp only [Act.put, lsa, lsz, lss]
  refine oneA 19 22 hsel (h := ?_)
  simp only [Act.put, lsa, lsz, lss]
  refine oneA 20 23 hsel (h := ?_)
  simp only [Act.put, lsa, lsz, lss]
  refine oneA 21 24 hsel (h := ?_)
  simp only [Act.put, lsa, lsz, lss]
  refine wpAnyL_ready (rs := [22]) (by kernel_rfl) (by kernel_rfl) (by simp) ?_
  refine AllReadyL.cons (o := ?_) ?_ (fun K hK => ?_) AllReadyL.nil
  case refine_2 => (simp only [List.getElem?_cons_succ, List.getElem?_cons_zero]; rfl)
  go_simp
  clear hHeld
  refine hK.out _ _ trivial (fun hHeld => ?_)
  clear hK K
  try simp only [List.set_cons_zero, List.set_cons_succ]
  refine wpAnyL_done (by kernel_rfl) (by kernel_rfl) ?_ _
  clear hsel hHeld
  go_wp2
  refine bodyPost_ret (results_cell rfl rfl (load_seven HS7.out rfl rfl rfl rfl rfl rfl rfl)) rfl ⟨rfl, ?_⟩
  exact HO7.out
theorem seven_at (g ph t x r p l : Int) (s : Value) {k : Nat} (h : k < 7) : ∃ u, [g, ph, t, x, r, p, l][k]? = some u ∧ [Value.int .i64 g, .int .i64 ph, .int .i64 t, .int .i64 x, .int .i64 r, .int .i64 p, .int .i64 l, s][k]? = some (.int .i64 u) := by
  obtain rfl | rfl | rfl | rfl | rfl | rfl | rfl : k = 0 ∨ k = 1 ∨ k = 2 ∨ k = 3 ∨ k = 4 ∨ k = 5 ∨ k = 6 := by omega
  all_goals exact ⟨_, rfl, rfl⟩
theorem ptr_at (b : Nat) {k : Nat} (h : k < 7) : [Value.pointer (some ⟨b, 0, none⟩), .pointer (some ⟨b, 1, none⟩), .pointer (some ⟨b, 2, none⟩), .pointer (some ⟨b, 3, none⟩), .pointer (some ⟨b, 4, none⟩), .pointer (some ⟨b, 5, none⟩), .pointer (some ⟨b, 6, none⟩)][k]? = some (.pointer (some ⟨b, k, none⟩)) := by
  obtain rfl | rfl | rfl | rfl | rfl | rfl | rfl : k = 0 ∨ k = 1 ∨ k = 2 ∨ k = 3 ∨ k = 4 ∨ k = 5 ∨ k = 6 := by omega
  all_goals rfl
set_option maxRecDepth 100000 in
set_option maxHeartbeats 3200000 in
theorem MSame_c (w : World) (g ph t x r p l g' ph' t' x' r' p' l' : Int) (A B : Option Addr) (n c m d : Nat) (q : Bool) (hq : decide ([g, ph, t, x, r, p, l] = [g', ph', t', x', r', p', l']) = q) (eq : Bool) (hE : ∀ W, Only (w.heap.size ≤ ·) w W → Calls Tryz.prog 29 #[.slice A n c, .slice B m d] W fun e w' => e = .returned (.bool eq) ∧ W = w') :
    Calls Tryz.prog 32 #[.agg #[.int .i64 g, .int .i64 ph, .int .i64 t, .int .i64 x, .int .i64 r, .int .i64 p, .int .i64 l, .slice A n c], .agg #[.int .i64 g', .int .i64 ph', .int .i64 t', .int .i64 x', .int .i64 r', .int .i64 p', .int .i64 l', .slice B m d]] w (Told w (.bool (q && eq))) := by
  have HF : Hid (∀ W b, Calls Tryz.prog 60 #[.pointer (some ⟨b, 0, none⟩)] W (Told W (.agg #[.pointer (some ⟨b, 0, none⟩), .pointer (some ⟨b, 1, none⟩), .pointer (some ⟨b, 2, none⟩), .pointer (some ⟨b, 3, none⟩), .pointer (some ⟨b, 4, none⟩), .pointer (some ⟨b, 5, none⟩), .pointer (some ⟨b, 6, none⟩)]))) := Lib.hid fun W b => fields_c W b
  obtain ⟨w1, hw1⟩ : ∃ W0, W0 = (w.alloc (.cells #[.int .i64 g, .int .i64 ph, .int .i64 t, .int .i64 x, .int .i64 r, .int .i64 p, .int .i64 l, .slice A n c] 45)).alloc (.cells #[.int .i64 g', .int .i64 ph', .int .i64 t', .int .i64 x', .int .i64 r', .int .i64 p', .int .i64 l', .slice B m d] 45) := ⟨_, rfl⟩
  have HO : Hid (Only (w.heap.size ≤ ·) w w1) := Lib.hid (by rw [hw1]; exact ((Only.refl _ w).alloc (fun _ h => h) _).alloc (fun _ h => h) _)
  have HA : Hid (Blk w1 w.heap.size 45 [.int .i64 g, .int .i64 ph, .int .i64 t, .int .i64 x, .int .i64 r, .int .i64 p, .int .i64 l, .slice A n c]) := Lib.hid (by rw [hw1]; exact (Blk.new w 45 _).alloc _)
  have HB : Hid (Blk w1 (w.heap.size + 1) 45 [.int .i64 g', .int .i64 ph', .int .i64 t', .int .i64 x', .int .i64 r', .int .i64 p', .int .i64 l', .slice B m d]) := Lib.hid (by
    rw [hw1]
    have := Blk.new (w.alloc (.cells #[.int .i64 g, .int .i64 ph, .int .i64 t, .int .i64 x, .int .i64 r, .int .i64 p, .int .i64 l, .slice A n c] 45)) 45 [.int .i64 g', .int .i64 ph', .int .i64 t', .int .i64 x', .int .i64 r', .int .i64 p', .int .i64 l', .slice B m d]
    simpa using this)
  have HEQ := Lib.hid hE
  have HQ := Lib.hid hq
  clear hE hq
  go_enter Tryz.func32, Tryz.ntmps32
  go_upto_region 1 with (fail)
  rw [← hw1]
  clear hw1
  have HB0 : Hid (w.heap.size + 1 < w1.heap.size) := Lib.hid HB.out.lt
  go_upto_region 2 with (go_at_call 60; (with_reducible refine (HF.out _ _).mono ?_); rintro ee w2 ⟨rfl, ho⟩; (replace HA := Lib.hid (HA.out.later ho)); (replace HB := Lib.hid (HB.out.later ho)); (replace HO := Lib.hid (on_new HO.out ho)); (replace HB0 := Lib.hid (Nat.lt_of_lt_of_le HB0.out ho.size)); clear ho)
  obtain ⟨wl, hwl⟩ : ∃ y, y = (w2.alloc (.cells #[.pointer (some ⟨w.heap.size, 0, none⟩), .pointer (some ⟨w.heap.size, 1, none⟩), .pointer (some ⟨w.heap.size, 2, none⟩), .pointer (some ⟨w.heap.size, 3, none⟩), .pointer (some ⟨w.heap.size, 4, none⟩), .pointer (some ⟨w.heap.size, 5, none⟩), .pointer (some ⟨w.heap.size, 6, none⟩)] 109)).alloc (.cells #[.pointer (some ⟨w.heap.size + 1, 0, none⟩), .pointer (some ⟨w.heap.size + 1, 1, none⟩), .pointer (some ⟨w.heap.size + 1, 2, none⟩), .pointer (some ⟨w.heap.size + 1, 3, none⟩), .pointer (some ⟨w.heap.size + 1, 4, none⟩), .pointer (some ⟨w.heap.size + 1, 5, none⟩), .pointer (some ⟨w.heap.size + 1, 6, none⟩)] 109) := ⟨_, rfl⟩
  have HP : Hid (Blk wl w2.heap.size 109 [.pointer (some ⟨w.heap.size, 0, none⟩), .pointer (some ⟨w.heap.size, 1, none⟩), .pointer (some ⟨w.heap.size, 2, none⟩), .pointer (some ⟨w.heap.size, 3, none⟩), .pointer (some ⟨w.heap.size, 4, none⟩), .pointer (some ⟨w.heap.size, 5, none⟩), .pointer (some ⟨w.heap.size, 6, none⟩)]) := Lib.hid (by rw [hwl]; exact (Blk.new w2 109 _).alloc _)
  have HR : Hid (Blk wl (w2.heap.size + 1) 109 [.pointer (some ⟨w.heap.size + 1, 0, none⟩), .pointer (some ⟨w.heap.size + 1, 1, none⟩), .pointer (some ⟨w.heap.size + 1, 2, none⟩), .pointer (some ⟨w.heap.size + 1, 3, none⟩), .pointer (some ⟨w.heap.size + 1, 4, none⟩), .pointer (some ⟨w.heap.size + 1, 5, none⟩), .pointer (some ⟨w.heap.size + 1, 6, none⟩)]) := Lib.hid (by
    rw [hwl]
    have := Blk.new (w2.alloc (.cells #[.pointer (some ⟨w.heap.size, 0, none⟩), .pointer (some ⟨w.heap.size, 1, none⟩), .pointer (some ⟨w.heap.size, 2, none⟩), .pointer (some ⟨w.heap.size, 3, none⟩), .pointer (some ⟨w.heap.size, 4, none⟩), .pointer (some ⟨w.heap.size, 5, none⟩), .pointer (some ⟨w.heap.size, 6, none⟩)] 109)) 109 [.pointer (some ⟨w.heap.size + 1, 0, none⟩), .pointer (some ⟨w.heap.size + 1, 1, none⟩), .pointer (some ⟨w.heap.size + 1, 2, none⟩), .pointer (some ⟨w.heap.size + 1, 3, none⟩), .pointer (some ⟨w.heap.size + 1, 4, none⟩), .pointer (some ⟨w.heap.size + 1, 5, none⟩), .pointer (some ⟨w.heap.size + 1, 6, none⟩)]
    simpa using this)
  have HOL : Hid (Only (w2.heap.size ≤ ·) w2 wl) := Lib.hid (by rw [hwl]; exact ((Only.refl _ w2).alloc (fun _ h => h) _).alloc (fun _ h => h) _)
  replace HA := Lib.hid (HA.out.later HOL.out)
  replace HB := Lib.hid (HB.out.later HOL.out)
  replace HO := Lib.hid (on_new HO.out HOL.out)
  have HLT : Hid (w.heap.size + 1 < w2.heap.size) := Lib.hid HB0.out
  rw [← hwl]
  clear hwl HB0 HOL
  go_wp2_with (fail)
  go_loopw [10] (fun kv wr => ∃ k : Nat, k ≤ 7 ∧ kv = .int .i64 k ∧ Hid (∀ j, j < k → [g, ph, t, x, r, p, l][j]? = [g', ph', t', x', r', p', l'][j]?) ∧ Hid (Only (wl.heap.size ≤ ·) wl wr)) (fun kv _ => 7 - (intOf kv).toNat)
  case atStart => exact ⟨0, Nat.zero_le _, rfl, Lib.hid (fun j hj => absurd hj (Nat.not_lt_zero j)), Lib.hid (Only.refl _ _)⟩
  case round =>
    obtain ⟨k, hk, rfl, HS, HW⟩ := hrel
    by_cases hlt : k < 7
    · have hli : (k : Int) < 7 := by omega
      have HAW := Lib.hid (HA.out.later HW.out)
      have HBW := Lib.hid (HB.out.later HW.out)
      have HPW := Lib.hid (HP.out.later HW.out)
      have HRW := Lib.hid (HR.out.later HW.out)
      obtain ⟨u, hu1, hu2⟩ := seven_at g ph t x r p l (.slice A n c) hlt
      obtain ⟨v, hv1, hv2⟩ := seven_at g' ph' t' x' r' p' l' (.slice B m d) hlt
      have KC : Hid (∀ W, Only (wr.heap.size ≤ ·) wr W → W.cell? ⟨w2.heap.size, k, none⟩ = some (.pointer (some ⟨w.heap.size, k, none⟩)) ∧ W.cell? ⟨w2.heap.size + 1, k, none⟩ = some (.pointer (some ⟨w.heap.size + 1, k, none⟩)) ∧ W.cell? ⟨w.heap.size, k, none⟩ = some (.int .i64 u) ∧ W.cell? ⟨w.heap.size + 1, k, none⟩ = some (.int .i64 v)) := Lib.hid fun W hW => ⟨((HPW.out.later hW).cell k).trans (ptr_at w.heap.size hlt), ((HRW.out.later hW).cell k).trans (ptr_at (w.heap.size + 1) hlt), ((HAW.out.later hW).cell k).trans hu2, ((HBW.out.later hW).cell k).trans hv2⟩
      have HUV : Hid ([g, ph, t, x, r, p, l][k]? = some u ∧ [g', ph', t', x', r', p', l'][k]? = some v) := Lib.hid ⟨hu1, hv1⟩
      have HOW := Lib.hid (on_new HO.out HW.out)
      clear hu1 hu2 hv1 hv2
      go_upto_region 5 with (fail)
      by_cases huv : u = v
      · subst huv
        refine wp_region_list (B := [false, false, false, false, false, false, false, false, false, false, false]) (S := (fun W => W.cell? ⟨w2.heap.size, k, none⟩ = some (.pointer (some ⟨w.heap.size, k, none⟩)) ∧ W.cell? ⟨w2.heap.size + 1, k, none⟩ = some (.pointer (some ⟨w.heap.size + 1, k, none⟩)) ∧ W.cell? ⟨w.heap.size, k, none⟩ = some (.int .i64 u) ∧ W.cell? ⟨w.heap.size + 1, k, none⟩ = some (.int .i64 u))) (by kernel_rfl) (by kernel_rfl) (by kernel_rfl) (KC.out _ (Only.refl _ _).drew) (fun hsel hHeld => ?_)
        refine oneA 0 13 hsel (h := ?_)
        simp only [Act.put, lsa, lsz, lss]
        refine oneA 1 14 hsel (h := ?_)
        simp only [Act.put, lsa, lsz, lss]
        refine oneA 2 15 hsel (h := ?_)
        simp only [Act.put, lsa, lsz, lss]
        refine oneA 3 16 hsel (h := ?_)
        simp only [Act.put, lsa, lsz, lss]
        refine oneA 4 17 hsel (h := ?_)
        simp only [Act.put, lsa, lsz, lss]
        refine oneA 5 18 hsel (h := ?_)
        simp only [Act.put, lsa, lsz, lss]
        refine oneA 6 19 hsel (h := ?_)
        simp only [Act.put, lsa, lsz, lss]
        refine oneA 7 20 hsel (h := ?_)
        simp only [Act.put, lsa, lsz, lss]
        refine oneA 8 21 hsel (h := ?_)
        simp only [Act.put, lsa, lsz, lss]
        refine oneA 9 22 hsel (h := ?_)
        simp only [Act.put, lsa, lsz, lss]
        refine oneA 10 23 hsel (h := ?_)
        simp only [Act.put, lsa, lsz, lss]
        refine wpAnyL_done (by kernel_rfl) (by kernel_rfl) ?_ _
        clear hsel hHeld
        go_wp2_with (fail)
        go_roundw
        case rel => exact ⟨k + 1, by omega, rfl, Lib.hid (fun j hj => by rcases (by omega : j < k ∨ j = k) with h | rfl <;> first | exact HS.out j h | exact HUV.out.1.trans HUV.out.2.symm), Lib.hid HW.out.drew⟩
        case measure => (have h0 : (intOf (.int .i64 ((k : Nat) : Int))).toNat = k := Int.toNat_natCast k; have h1 : (intOf (.int .i64 (((k + 1 : Nat)) : Int))).toNat = k + 1 := Int.toNat_natCast (k + 1); first | omega | (simp [intOf]; omega))
      · have hb : (u != v) = true := by rw [bne_iff_ne]; exact huv
        have HQF : Hid (q = false) := Lib.hid (by
          rw [← HQ.out]
          refine decide_eq_false fun e => huv ?_
          have h1 := HUV.out.1
          rw [e, HUV.out.2] at h1
          exact (Option.some.inj h1).symm)
        clear huv
        refine wp_region_list (B := [false, false, false, false, false, false, false, false, false, false, false]) (S := (fun W => W.cell? ⟨w2.heap.size, k, none⟩ = some (.pointer (some ⟨w.heap.size, k, none⟩)) ∧ W.cell? ⟨w2.heap.size + 1, k, none⟩ = some (.pointer (some ⟨w.heap.size + 1, k, none⟩)) ∧ W.cell? ⟨w.heap.size, k, none⟩ = some (.int .i64 u) ∧ W.cell? ⟨w.heap.size + 1, k, none⟩ = some (.int .i64 v))) (by kernel_rfl) (by kernel_rfl) (by kernel_rfl) (KC.out _ (Only.refl _ _).drew) (fun hsel hHeld => ?_)
        refine oneA 0 13 hsel (h := ?_)
        simp only [Act.put, lsa, lsz, lss]
        refine oneA 1 14 hsel (h := ?_)
        simp only [Act.put, lsa, lsz, lss]
        refine oneA 2 15 hsel (h := ?_)
        simp only [Act.put, lsa, lsz, lss]
        refine oneA 3 16 hsel (h := ?_)
        simp only [Act.put, lsa, lsz, lss]
        refine oneA 4 17 hsel (h := ?_)
        simp only [Act.put, lsa, lsz, lss]
        refine oneA 5 18 hsel (h := ?_)
        simp only [Act.put, lsa, lsz, lss]
        refine oneA 6 19 hsel (h := ?_)
        simp only [Act.put, lsa, lsz, lss]
        refine oneA 7 20 hsel (h := ?_)
        simp only [Act.put, lsa, lsz, lss]
        refine oneA 8 21 hsel (h := ?_)
        simp only [Act.put, lsa, lsz, lss]
        refine oneA 9 22 hsel (h := ?_)
        simp only [Act.put, lsa, lsz, lss]
        refine oneA 10 23 hsel (h := ?_)
        simp only [Act.put, lsa, lsz, lss]
        refine wpAnyL_done (by kernel_rfl) (by kernel_rfl) ?_ _
        clear hsel hHeld
        go_wp2
        go_ret
        exact ⟨by rw [HQF.out]; rfl, HOW.out.drew⟩
    · obtain rfl : k = 7 := by omega
      have hli : ¬ ((7 : Nat) : Int) < 7 := by omega
      have hqt : q = true := by
        rw [← HQ.out, decide_eq_true_eq]
        have e := HS.out
        have e0 := e 0 (by decide); have e1 := e 1 (by decide); have e2 := e 2 (by decide); have e3 := e 3 (by decide); have e4 := e 4 (by decide); have e5 := e 5 (by decide); have e6 := e 6 (by decide)
        simp only [List.getElem?_cons_zero, List.getElem?_cons_succ, Option.some.injEq] at e0 e1 e2 e3 e4 e5 e6
        rw [e0, e1, e2, e3, e4, e5, e6]
      subst hqt
      have i0 : wr.cell? ⟨w.heap.size, 7, none⟩ = some (.slice A n c) := (HA.out.later HW.out).cell 7
      have i1 : wr.cell? ⟨w.heap.size + 1, 7, none⟩ = some (.slice B m d) := (HB.out.later HW.out).cell 7
      go_wp2_with (go_at_call 29; (with_reducible refine (HEQ.out _ (on_new HO.out HW.out)).mono ?_); rintro ee w9 ⟨rfl, rfl⟩)
      go_ret
      exact ⟨rfl, on_new HO.out HW.out⟩
end Go.Proofs.YtbpldkhgiddmlaaGreatDoor

/-
  Metas: numbers put, and got, by their addresses.
-/
set_option linter.unusedVariables false
namespace Go.Proofs.YtbpldkhgiddmlaaGreatDoor
open Go.RowKit

theorem At_c (w : World) (p g : Nat) (T : TypeId) (c : Cur) (h : Holds w p g T c) :
    Calls Tryz.prog 87 #[.pointer (some ⟨p, 0, none⟩)] w fun e w' => e = .returned (.int .i64 c.at_) ∧ w = w' := by
  obtain ⟨A, cap, rest, h⟩ := h
  have h1 : w.cell? ⟨p, 1, none⟩ = some (.int .i64 c.at_) := h.blk.cell 1
  clear h
  go_enter Tryz.func87, Tryz.ntmps87
  go_wp2
  go_ret
  exact ⟨rfl, rfl⟩
def puts (c : Cur) (k : Int) (M : List Int) : Cur := M.foldl (fun c u => c.put u k) c
theorem puts_next {c : Cur} {k : Int} {M : List Int} {i : Nat} {u : Int} (h : M[i]? = some u) : puts c k (M.take (i + 1)) = (puts c k (M.take i)).put u k := by
  unfold puts
  rw [List.take_add_one, h, List.foldl_append]
  rfl
/-- The seven addresses. -/
def At7 (w : World) (B P : Nat) : Prop := Blk w B 109 [.pointer (some ⟨P, 0, none⟩), .pointer (some ⟨P, 1, none⟩), .pointer (some ⟨P, 2, none⟩), .pointer (some ⟨P, 3, none⟩), .pointer (some ⟨P, 4, none⟩), .pointer (some ⟨P, 5, none⟩), .pointer (some ⟨P, 6, none⟩)]
theorem At7.at_ {w : World} {B P j : Nat} (h : At7 w B P) (hj : j < 7) : w.cell? ⟨B, j, none⟩ = some (.pointer (some ⟨P, j, none⟩)) := (Blk.cell h j).trans (ptr_at P hj)
/-- A meta's cells: seven numbers, and the cursor. -/
def Cells7 (w : World) (P : Nat) (M : List Int) (cv : Value) : Prop := M.length = 7 ∧ Blk w P 45 (M.map (Value.int .i64) ++ [cv])
theorem Cells7.at_ {w : World} {P j : Nat} {M : List Int} {cv : Value} {u : Int} (h : Cells7 w P M cv) (hu : M[j]? = some u) : w.cell? ⟨P, j, none⟩ = some (.int .i64 u) := by
  rw [Blk.cell h.2 j, List.getElem?_append_left (by rw [List.length_map]; exact (List.getElem?_eq_some_iff.1 hu).1), List.getElem?_map, hu]
  rfl
theorem Cells7.set_ {w : World} {P j : Nat} {M : List Int} {cv : Value} {u : Int} (h : Cells7 w P M cv) (hj : j < 7) : Cells7 (w.setCell ⟨P, j, none⟩ (.int .i64 u)) P (M.set j u) cv := by
  refine ⟨by rw [List.length_set]; exact h.1, ?_⟩
  have h2 := Blk.set_ h.2 j (.int .i64 u)
  rwa [List.set_append_left _ _ (by rw [List.length_map, h.1]; exact hj), ← List.map_set] at h2
theorem Cells7.only {w w' : World} {P : Nat} {M : List Int} {cv : Value} {F : Nat → Prop} (h : Cells7 w P M cv) (ho : Only F w w') (hF : ¬ F P) : Cells7 w' P M cv := ⟨h.1, h.2.only ho hF⟩
theorem At7.only {w w' : World} {B P : Nat} {F : Nat → Prop} (h : At7 w B P) (ho : Only F w w') (hF : ¬ F B) : At7 w' B P := Blk.only h ho hF
set_option maxRecDepth 100000 in
set_option maxHeartbeats 3200000 in
theorem put_c (w : World) (p q B P o n cap : Nat) (c : Cur) (k : Int) (M : List Int) (cv : Value) (hH : Holds w p q 146 c) (hA : At7 w B P) (hC : Cells7 w P M cv) (hB : ¬ Foot p q B) (hP : ¬ Foot p q P) (hn : o + n ≤ 7) (hI : ∀ u ∈ M, I64 u) :
    Calls Tryz.prog 83 #[.pointer (some ⟨p, 0, none⟩), .slice (some ⟨B, o, none⟩) n cap, .int .i64 k] w fun e w' => e = .returned (.tuple #[]) ∧ Holds w' p q 146 (puts c k ((M.drop o).take n)) ∧ Only (Foot p q) w w' := by
  have HH := Lib.hid hH
  have HA := Lib.hid hA
  have HC := Lib.hid hC
  have HBP := Lib.hid (And.intro hB hP)
  have HI := Lib.hid hI
  have HPC : Hid (∀ W c u, Holds W p q 146 c → I64 u → Calls Tryz.prog 84 #[.pointer (some ⟨p, 0, none⟩), .int .i64 u, .int .i64 k] W fun e w' => e = .returned (.tuple #[]) ∧ Holds w' p q 146 (c.put u k) ∧ Only (Foot p q) W w') := Lib.hid fun W c u h hu => Put_c W p q c h u k hu.1 hu.2
  clear hH hA hC hB hP hI
  go_enter Tryz.func83, Tryz.ntmps83
  go_wp2_with (fail)
  go_loopw [10] (fun kv wr => ∃ i : Nat, i ≤ n ∧ kv = .int .i64 i ∧ Hid (Holds wr p q 146 (puts c k ((M.drop o).take i))) ∧ Hid (Only (Foot p q) w wr)) (fun kv _ => n - (intOf kv).toNat)
  case atStart => exact ⟨0, Nat.zero_le _, rfl, Lib.hid (by rw [List.take_zero]; exact HH.out), Lib.hid (Only.refl _ _)⟩
  case round =>
    obtain ⟨i, hi, rfl, HW, HO⟩ := hrel
    by_cases hlt : i < n
    · have hli : (i : Int) < (n : Int) := by omega
      have HAW := Lib.hid (HA.out.only HO.out HBP.out.1)
      have HCW := Lib.hid (HC.out.only HO.out HBP.out.2)
      obtain ⟨u, hu⟩ : ∃ u, M[o + i]? = some u := ⟨_, List.getElem?_eq_getElem (by rw [HC.out.1]; omega)⟩
      have c1 := HAW.out.at_ (j := o + i) (by omega)
      have c2 := HCW.out.at_ hu
      have HU : Hid (M[o + i]? = some u) := Lib.hid hu
      have HU2 : Hid (I64 u) := Lib.hid (HI.out u (List.mem_of_getElem? hu))
      clear hu
      go_wp2_with (go_at_call 84; (with_reducible refine (HPC.out _ _ _ HW.out HU2.out).mono ?_); rintro ee w2 ⟨rfl, hh, ho⟩; have HH2 := Lib.hid hh; have HO2 := Lib.hid ho; clear hh ho)
      go_roundw
      case rel => exact ⟨i + 1, by omega, rfl, Lib.hid (by rw [puts_next (u := u) (by rw [List.getElem?_drop]; exact HU.out)]; exact HH2.out), Lib.hid (HO.out.trans HO2.out)⟩
      case measure => simp [intOf]; omega
    · obtain rfl : i = n := by omega
      have hli : ¬ (i : Int) < (i : Int) := by omega
      go_wp2_with (fail)
      go_end0
      exact ⟨rfl, HW.out, HO.out⟩
/-- What a reader gets in a row, where it is laid. -/
def gets (k : Int) : Nat → Nat → Cur → List Int → Cur × List Int
  | 0, _, c, M => (c, M)
  | n + 1, o, c, M => gets k n (o + 1) (c.get k) (M.set o (c.val k))
set_option maxRecDepth 100000 in
set_option maxHeartbeats 3200000 in
theorem get_c (w : World) (p q B P o n cap : Nat) (c : Cur) (k : Int) (M : List Int) (cv : Value) (hH : Holds w p q 165 c) (hA : At7 w B P) (hC : Cells7 w P M cv) (hB : B ≠ p ∧ B ≠ P) (hP : P ≠ p ∧ P ≠ q) (hn : o + n ≤ 7) :
    Calls Tryz.prog 110 #[.pointer (some ⟨p, 0, none⟩), .slice (some ⟨B, o, none⟩) n cap, .int .i64 k] w fun e w' => e = .returned (.tuple #[]) ∧ Holds w' p q 165 (gets k n o c M).1 ∧ Cells7 w' P (gets k n o c M).2 cv ∧ Only (fun j => j = p ∨ j = P) w w' := by
  have HH := Lib.hid hH
  have HA := Lib.hid hA
  have HC := Lib.hid hC
  have HBP := Lib.hid (And.intro hB hP)
  obtain ⟨T, hT⟩ : ∃ T, T = gets k n o c M := ⟨_, rfl⟩
  rw [← hT]
  have HPC : Hid (∀ W c, Holds W p q 165 c → Calls Tryz.prog 111 #[.pointer (some ⟨p, 0, none⟩), .int .i64 k] W (Gets W p q c k)) := Lib.hid fun W c h => Get_c W p q c h k
  have HT := Lib.hid hT
  clear hH hA hC hB hP hT
  go_enter Tryz.func110, Tryz.ntmps110
  go_wp2_with (fail)
  go_loopw [10] (fun kv wr => ∃ (i : Nat) (c' : Cur) (M' : List Int), i ≤ n ∧ kv = .int .i64 i ∧ Hid (T = gets k (n - i) (o + i) c' M') ∧ Hid (Holds wr p q 165 c') ∧ Hid (Cells7 wr P M' cv) ∧ Hid (Only (fun j => j = p ∨ j = P) w wr)) (fun kv _ => n - (intOf kv).toNat)
  case atStart => exact ⟨0, c, M, Nat.zero_le _, rfl, HT, HH, HC, Lib.hid (Only.refl _ _)⟩
  case round =>
    obtain ⟨i, c', M', hi, rfl, HE, HW, HCW, HO⟩ := hrel
    by_cases hlt : i < n
    · have hli : (i : Int) < (n : Int) := by omega
      have HAW := Lib.hid (HA.out.only HO.out (by have := HBP.out; omega))
      obtain ⟨u, hu⟩ : ∃ u, M'[o + i]? = some u := ⟨_, List.getElem?_eq_getElem (by rw [HCW.out.1]; omega)⟩
      have c1 := HAW.out.at_ (j := o + i) (by omega)
      have HU : Hid (M'[o + i]? = some u) := Lib.hid hu
      clear hu
      go_wp2_with (go_at_call 111; (with_reducible refine (HPC.out _ _ HW.out).mono ?_); rintro ee w2 ⟨rfl, hh, ho⟩; have HH2 := Lib.hid hh; have HO2 := Lib.hid ho; (replace HCW := Lib.hid (HCW.out.only HO2.out HBP.out.2.1)); have c2 := HCW.out.at_ HU.out; have c3 := HCW.out.2.frozen (o + i); clear hh ho)
      go_roundw
      case rel =>
        refine ⟨i + 1, _, _, by omega, rfl, Lib.hid (HE.out.trans ?_), Lib.hid (HH2.out.only (F := (· = P)) (Only.setCell (F := (· = P)) (p := ⟨P, o + i, none⟩) (Only.refl _ w2) rfl _) ?_), Lib.hid (HCW.out.set_ (by omega)), Lib.hid ((HO.out.trans (HO2.out.mono fun j h => .inl h)).setCell (p := ⟨P, o + i, none⟩) (.inr rfl) _)⟩
        · rw [show n - i = (n - (i + 1)) + 1 from by omega]
          rfl
        · intro j hj _ e
          have := HBP.out
          unfold Foot at hj
          omega
      case measure => simp [intOf]; omega
    · obtain rfl : i = n := by omega
      have hli : ¬ (i : Int) < (i : Int) := by omega
      go_wp2_with (fail)
      go_end0
      rw [Nat.sub_self] at HE
      have e : T = (c', M') := HE.out
      subst e
      exact ⟨rfl, HW.out, HCW.out, HO.out⟩
end Go.Proofs.YtbpldkhgiddmlaaGreatDoor

/-
  Metas: Encode.
-/
set_option linter.unusedVariables false
namespace Go.Proofs.YtbpldkhgiddmlaaGreatDoor
open Go.RowKit

/-- Bytes of the call's own came back, and a number. -/
def GaveBO (w : World) (xs : Bytes) (z : Int) (e : Ending) (w' : World) : Prop := ∃ v, e = .returned (.tuple #[v, .int .i64 z]) ∧ w'.ownsRow w.heap.size 5 1 v xs.length (cb xs) ∧ Only (w.heap.size ≤ ·) w w'
theorem GaveBO.gave {w w' : World} {xs : Bytes} {z : Int} {e : Ending} (h : GaveBO w xs z e w') : GaveBE w xs z e w' := by
  obtain ⟨v, e1, h1, h2⟩ := h
  exact ⟨v, e1, Src.own h1, h2⟩
theorem Seal_t (w : World) (v : Value) (xs : Bytes) (h : Src w v xs) (hn : xs.length ≤ 65536) : Calls Tryz.prog 89 #[v, .int .i64 252] w (fun e w' => ∃ v, e = .returned v ∧ w'.ownsRow w.heap.size 5 1 v (sealB xs 252).length (cb (sealB xs 252)) ∧ Only (w.heap.size ≤ ·) w w') := by
  obtain ⟨A, c, rfl, ht, hA, hc, hm⟩ := h
  refine (Seal_c w A xs.length c xs ht (fun e => ⟨by have := hA e; omega, hA e⟩) (by omega) hc hm 252 (by decide) (by decide)).mono ?_
  rintro e w' ⟨v', rfl, hn', hb, ho⟩
  refine ⟨v', rfl, ?_, ho⟩
  rw [hn']
  exact hb
def mark4 : Bytes := [82, 71, 65, 85]
def tail4 : Bytes := [85, 65, 71, 82]
theorem lit_src (w : World) (cs : Array Value) (fz : Nat × Nat) (n : Nat) (xs : Bytes) (h : cs.toList = cb xs) (hn : xs.length = n) (hl : n ≤ 1000) : Src (w.alloc (.cells cs 5 fz)) (.slice (some ⟨w.heap.size, 0, none⟩) n n) xs := by
  subst hn
  refine ⟨_, _, rfl, ⟨rfl, fun _ => ⟨_, rfl, fun j u hu => ?_⟩⟩, (fun e => by cases e), Nat.le_refl _, by omega⟩
  rw [Addr.add_mid, Nat.zero_add, cell_of_row _ w.heap.size j cs 5 fz (heap_alloc_new w _), ← hu, ← h]
  simp
theorem src_mark4 (w : World) : Src (w.alloc (.cells #[.int .u8 82, .int .u8 71, .int .u8 65, .int .u8 85] 5 (4, 5))) (.slice (some ⟨w.heap.size, 0, none⟩) 4 4) mark4 := lit_src w _ (4, 5) 4 mark4 rfl rfl (by decide)
theorem src_tail4 (w : World) : Src (w.alloc (.cells #[.int .u8 85, .int .u8 65, .int .u8 71, .int .u8 82] 5 (4, 5))) (.slice (some ⟨w.heap.size, 0, none⟩) 4 4) tail4 := lit_src w _ (4, 5) 4 tail4 rfl rfl (by decide)
/-- The writer's way. -/
def mC1 (M : List Int) : Cur := puts ((Cur.make 256).write mark4) 1 ((M.drop 0).take 3)
def mC2 (M : List Int) (g : Int) (xs : Bytes) : Cur := (puts ((mC1 M).put xs.length 1) (tr g 4 8 8) ((M.drop 3).take 4)).write xs
def mC (M : List Int) (g : Int) (xs : Bytes) : Cur := ((mC2 M g xs).take (248 - (mC2 M g xs).at_)).write tail4
theorem puts_len (k : Int) : ∀ (M : List Int) (c : Cur), (puts c k M).b.length = c.b.length
  | [], _ => rfl
  | u :: M, c => (puts_len k M (c.put u k)).trans (Cur.put_len _ _ _)
theorem puts_wf (k : Int) : ∀ (M : List Int) {c : Cur}, c.WF → (puts c k M).WF
  | [], _, h => h
  | u :: M, _, h => puts_wf k M (h.put u k)
theorem mC2_at (M : List Int) (g : Int) (xs : Bytes) : (mC2 M g xs).at_ ≤ 256 := by
  have h1 : (mC2 M g xs).WF := (puts_wf _ _ ((puts_wf _ _ ((Cur.WF.make 256).write mark4)).put _ _)).write xs
  have h2 : (mC2 M g xs).b.length = 256 := by
    unfold mC2 mC1
    rw [Cur.write_len, puts_len, Cur.put_len, puts_len, Cur.write_len]
    show (List.replicate (size 256) (0 : UInt8)).length = 256
    rw [List.length_replicate]
    rfl
  have := h1.at_
  omega
/-- What stands while the page is written. -/
structure EncS (w : World) (bm B p q : Nat) (M : List Int) (cv : Value) (xs : Bytes) (W : World) (c : Cur) : Prop where
  ho : Only (w.heap.size ≤ ·) w W
  cells : Cells7 W bm M cv
  arr : At7 W B bm
  hold : Holds W p q 146 c
  lo : w.heap.size ≤ bm ∧ w.heap.size ≤ B ∧ bm < p ∧ bm < q ∧ B < p ∧ B < q ∧ p < W.heap.size ∧ q < W.heap.size
  s0 : Src w cv xs
section
variable {w W W' : World} {bm B p q : Nat} {M : List Int} {cv : Value} {xs : Bytes} {c c' : Cur}
theorem EncS.nb (h : EncS w bm B p q M cv xs W c) : ¬ Foot p q B := fun e => by have := h.lo; rcases e with e | e <;> omega
theorem EncS.nm (h : EncS w bm B p q M cv xs W c) : ¬ Foot p q bm := fun e => by have := h.lo; rcases e with e | e <;> omega
theorem EncS.src (h : EncS w bm B p q M cv xs W c) : Src W cv xs := h.s0.later h.ho
theorem EncS.nf (h : EncS w bm B p q M cv xs W c) : ∀ ad n c', cv = .slice (some ad) n c' → 0 < n → ¬ Foot p q ad.block := fun ad n c' e hn hf => by
  subst e
  obtain ⟨A, cx, e, ht, _⟩ := h.s0
  simp only [Value.slice.injEq] at e
  obtain ⟨rfl, rfl, rfl⟩ := e
  have h1 := ht.block hn
  have := h.lo
  rcases hf with hf | hf <;> omega
theorem EncS.nlit (h : EncS w bm B p q M cv xs W c) {k : Nat} (hk : q < k ∧ p < k) : ∀ ad n c', (Value.slice (some ⟨k, 0, none⟩) 4 4) = .slice (some ad) n c' → 0 < n → ¬ Foot p q ad.block := fun ad n c' e hn hf => by
  simp only [Value.slice.injEq, Option.some.injEq] at e
  obtain ⟨rfl, _, _⟩ := e
  rcases hf with hf | hf
  · simp only at hf; omega
  · simp only at hf; omega
theorem EncS.step (h : EncS w bm B p q M cv xs W c) (hh : Holds W' p q 146 c') (ho : Only (Foot p q) W W') : EncS w bm B p q M cv xs W' c' :=
  ⟨h.ho.trans (ho.mono fun j hj => by have := h.lo; rcases hj with e | e <;> omega), h.cells.only ho h.nm, h.arr.only ho h.nb, hh, by have := h.lo; have := ho.size; omega, h.s0⟩
theorem EncS.later (h : EncS w bm B p q M cv xs W c) (ho : Only (W.heap.size ≤ ·) W W') : EncS w bm B p q M cv xs W' c :=
  ⟨on_new h.ho ho, h.cells.only ho (by have := h.lo; omega), h.arr.only ho (by have := h.lo; omega), h.hold.later ho, by have := h.lo; have := ho.size; omega, h.s0⟩
theorem EncS.drew (h : EncS w bm B p q M cv xs W c) : EncS w bm B p q M cv xs W.drew c := h.later (Only.refl _ _).drew
theorem EncS.eight {g ph t x r pg l : Int} (h : EncS w bm B p q [g, ph, t, x, r, pg, l] cv xs W c) : W.cell? ⟨bm, 0, none⟩ = some (.int .i64 g) ∧ W.cell? ⟨bm, 7, none⟩ = some cv := ⟨h.cells.2.cell 0, h.cells.2.cell 7⟩
end
section
variable (w : World) (g ph t x r p l : Int) (A : Option Addr) (n c : Nat)
set_option maxRecDepth 100000 in
set_option maxHeartbeats 3200000 in
theorem MEncode_no (hG : Gens w) (hok : okM g ph t x r p l n = false) : Calls Tryz.prog 65 #[.agg #[.int .i64 g, .int .i64 ph, .int .i64 t, .int .i64 x, .int .i64 r, .int .i64 p, .int .i64 l, .slice A n c]] w (GaveBE w [] 92) := by
  have HO : Hid (Only (w.heap.size ≤ ·) w (w.alloc (.cells #[.int .i64 g, .int .i64 ph, .int .i64 t, .int .i64 x, .int .i64 r, .int .i64 p, .int .i64 l, .slice A n c] 45))) := Lib.hid ((Only.refl _ w).alloc (fun _ h => h) _)
  have HR : Hid (∀ W, Only (w.heap.size ≤ ·) w W → Calls Tryz.prog 49 #[.agg #[.int .i64 g, .int .i64 ph, .int .i64 t, .int .i64 x, .int .i64 r, .int .i64 p, .int .i64 l, .slice A n c]] W (Told W (.bool false))) := Lib.hid fun W hW => by have h := MRight_c W g ph t x r p l A n c (hG.later hW); rwa [hok] at h
  clear hG hok
  go_enter Tryz.func65, Tryz.ntmps65
  go_wp2_with (go_at_call 49; (with_reducible refine (HR.out _ HO.out).mono ?_); rintro ee w2 ⟨rfl, ho⟩; (replace HO := Lib.hid (on_new HO.out ho)); clear ho)
  go_ret2
  exact ⟨_, rfl, Src.nil_ _, HO.out⟩
set_option maxRecDepth 100000 in
set_option maxHeartbeats 12800000 in
theorem MEncode_own (hG : Gens w) (xs : Bytes) (hs : Src w (.slice A n c) xs) (hne : n = xs.length) (hI : ∀ u ∈ [g, ph, t, x, r, p, l], I64 u) (hok : okM g ph t x r p l n = true) (hle : (mC [g, ph, t, x, r, p, l] g xs).out.length ≤ 65536) : Calls Tryz.prog 65 #[.agg #[.int .i64 g, .int .i64 ph, .int .i64 t, .int .i64 x, .int .i64 r, .int .i64 p, .int .i64 l, .slice A n c]] w (GaveBO w (sealB (mC [g, ph, t, x, r, p, l] g xs).out 252) 0) := by
  obtain ⟨w1, hw1⟩ : ∃ W0, W0 = w.alloc (.cells #[.int .i64 g, .int .i64 ph, .int .i64 t, .int .i64 x, .int .i64 r, .int .i64 p, .int .i64 l, .slice A n c] 45) := ⟨_, rfl⟩
  have HO : Hid (Only (w.heap.size ≤ ·) w w1) := Lib.hid (by rw [hw1]; exact (Only.refl _ w).alloc (fun _ h => h) _)
  have HA : Hid (Blk w1 w.heap.size 45 [.int .i64 g, .int .i64 ph, .int .i64 t, .int .i64 x, .int .i64 r, .int .i64 p, .int .i64 l, .slice A n c]) := Lib.hid (by rw [hw1]; exact Blk.new w 45 _)
  have HR : Hid (∀ W, Only (w.heap.size ≤ ·) w W → Calls Tryz.prog 49 #[.agg #[.int .i64 g, .int .i64 ph, .int .i64 t, .int .i64 x, .int .i64 r, .int .i64 p, .int .i64 l, .slice A n c]] W (Told W (.bool true))) := Lib.hid fun W hW => by have h := MRight_c W g ph t x r p l A n c (hG.later hW); rwa [hok] at h
  have HWD : Hid (∀ W, Only (w.heap.size ≤ ·) w W → Calls Tryz.prog 85 #[.int .i64 g] W (Told W (.int .i64 (tr g 4 8 8)))) := Lib.hid fun W hW => Mwide_c W g (hG.later hW)
  have HF : Hid (∀ W b, Calls Tryz.prog 60 #[.pointer (some ⟨b, 0, none⟩)] W (Told W (.agg #[.pointer (some ⟨b, 0, none⟩), .pointer (some ⟨b, 1, none⟩), .pointer (some ⟨b, 2, none⟩), .pointer (some ⟨b, 3, none⟩), .pointer (some ⟨b, 4, none⟩), .pointer (some ⟨b, 5, none⟩), .pointer (some ⟨b, 6, none⟩)]))) := Lib.hid fun W b => fields_c W b
  have HSRC := Lib.hid hs
  have HI7 := Lib.hid hI
  have HLE := Lib.hid hle
  have HNE := Lib.hid hne
  have HIN : Hid (-9223372036854775808 ≤ ((n : Nat) : Int) ∧ ((n : Nat) : Int) ≤ 9223372036854775807) := Lib.hid (by obtain ⟨A', c', e, _, _, h1, h2⟩ := hs; simp only [Value.slice.injEq] at e; omega)
  clear hG hs hI hok hle hne
  have kc1 := fun (w : World) => Lib.run_convert_bytes_const (P := Tryz.prog) w 22 5 #[.int .u8 82, .int .u8 71, .int .u8 65, .int .u8 85] 4 4 Tryz.underlying22 Tryz.underlying5
  have kc2 := fun (w : World) => Lib.run_convert_bytes_const (P := Tryz.prog) w 22 5 #[.int .u8 85, .int .u8 65, .int .u8 71, .int .u8 82] 4 4 Tryz.underlying22 Tryz.underlying5
  obtain ⟨i0, i1, i2, i3, i4, i5, i6, i7⟩ := HA.out.eight
  go_enter Tryz.func65, Tryz.ntmps65
  go_upto_region 1 with (fail)
  rw [← hw1]
  clear hw1
  go_upto_region 3 with (go_at_call 49; (with_reducible refine (HR.out _ HO.out).mono ?_); rintro ee w2 ⟨rfl, ho⟩; (replace HA := Lib.hid (HA.out.later ho)); (replace HO := Lib.hid (on_new HO.out ho)); clear ho i0 i1 i2 i3 i4 i5 i6 i7)
  go_upto_region 4 with (go_at_call 60; (with_reducible refine (HF.out _ _).mono ?_); rintro ee w3 ⟨rfl, ho⟩; (replace HA := Lib.hid (HA.out.later ho)); (replace HO := Lib.hid (on_new HO.out ho)); clear ho)
  obtain ⟨w4, hw4⟩ : ∃ y, y = w3.alloc (.cells #[.pointer (some ⟨w.heap.size, 0, none⟩), .pointer (some ⟨w.heap.size, 1, none⟩), .pointer (some ⟨w.heap.size, 2, none⟩), .pointer (some ⟨w.heap.size, 3, none⟩), .pointer (some ⟨w.heap.size, 4, none⟩), .pointer (some ⟨w.heap.size, 5, none⟩), .pointer (some ⟨w.heap.size, 6, none⟩)] 109) := ⟨_, rfl⟩
  have HP : Hid (At7 w4 w3.heap.size w.heap.size) := Lib.hid (by rw [hw4]; exact Blk.new w3 109 _)
  replace HA : Hid (Cells7 w4 w.heap.size [g, ph, t, x, r, p, l] (.slice A n c)) := Lib.hid (by rw [hw4]; exact ⟨rfl, HA.out.alloc _⟩)
  have HLO : Hid (w.heap.size < w4.heap.size ∧ w.heap.size ≤ w3.heap.size ∧ w3.heap.size < w4.heap.size) := Lib.hid (by have := HO.out.size; rw [hw4]; simp; omega)
  replace HO : Hid (Only (w.heap.size ≤ ·) w w4) := Lib.hid (by rw [hw4]; exact HO.out.alloc (fun _ h => h) _)
  rw [← hw4]
  clear hw4
  go_upto_region 5 with (go_at_call 81; (with_reducible refine (NewWriter_c _ _).mono ?_); rintro ee w5 ⟨p', q', rfl, hp, hq, hh, ho, hqs⟩; have HS : Hid (EncS w w.heap.size w3.heap.size p' q' [g, ph, t, x, r, p, l] (.slice A n c) xs w5 (Cur.make 256)) := Lib.hid ⟨on_new HO.out ho, HA.out.only ho (by have := HLO.out; omega), HP.out.only ho (by have := HLO.out; omega), hh, by have := HLO.out; have := hh.lt; omega, HSRC.out⟩; clear hh ho hp hq hqs)
  go_upto_region 6 with (go_at_call 82; (with_reducible refine (WBytes_c _ _ _ _ (HS.out.later ((Only.refl _ _).alloc (fun _ h => h) _)).hold _ mark4 (src_mark4 _) (HS.out.nlit ⟨HS.out.lo.2.2.2.2.2.2.2, HS.out.lo.2.2.2.2.2.2.1⟩)).mono ?_); rintro ee w5 ⟨rfl, hh, ho⟩; (replace HS := Lib.hid ((HS.out.later ((Only.refl _ _).alloc (fun _ h => h) _)).step hh ho)); clear hh ho)
  go_upto_region 7 with (go_at_call 83; (with_reducible refine (put_c _ _ _ _ _ _ _ _ _ _ _ _ HS.out.hold HS.out.arr HS.out.cells HS.out.nb HS.out.nm (by decide) HI7.out).mono ?_); rintro ee w5 ⟨rfl, hh, ho⟩; (replace HS := Lib.hid (HS.out.step hh ho)); clear hh ho)
  obtain ⟨i0, i7⟩ := HS.out.eight
  go_upto_region 8 with (go_at_call 84; (with_reducible refine (Put_c _ _ _ _ HS.out.hold _ _ HIN.out.1 HIN.out.2).mono ?_); rintro ee w5 ⟨rfl, hh, ho⟩; (replace HS := Lib.hid (HS.out.step hh ho)); clear hh ho)
  clear i0 i7
  replace HS := Lib.hid HS.out.drew
  refine wp_region_list (B := [false, false, false, false, false, false]) (S := (fun W => W.cell? ⟨w.heap.size, 0, none⟩ = some (.int .i64 g))) (by kernel_rfl) (by kernel_rfl) (by kernel_rfl) HS.out.eight.1 (fun hsel hHeld => ?_)
  generalize hwz : World.drew _ = wz at HS hHeld ⊢
  clear hwz
  refine oneA 0 25 hsel (h := ?_)
  simp only [Act.put, lsa, lsz, lss]
  refine oneA 1 26 hsel (h := ?_)
  simp only [Act.put, lsa, lsz, lss]
  refine oneA 2 27 hsel (h := ?_)
  simp only [Act.put, lsa, lsz, lss]
  refine oneA 3 28 hsel (h := ?_)
  simp only [Act.put, lsa, lsz, lss]
  refine wpAnyL_ready (rs := [4]) (by kernel_rfl) (by kernel_rfl) (by simp) ?_
  refine AllReadyL.cons (o := ?_) ?_ (fun K hK => ?_) AllReadyL.nil
  case refine_2 => (simp only [List.getElem?_cons_succ, List.getElem?_cons_zero]; rfl)
  go_simp
  (go_at_call 85; (with_reducible refine (HWD.out _ HS.out.ho).mono ?_); rintro ee w5 ⟨rfl, ho⟩; (replace HS := Lib.hid (HS.out.later ho)); clear ho)
  go_wp2_with (fail)
  clear hHeld
  refine hK.out _ _ HS.out.eight.1 (fun hHeld => ?_)
  clear hK K
  try simp only [List.set_cons_zero, List.set_cons_succ]
  refine wpAnyL_ready (rs := [5]) (by kernel_rfl) (by kernel_rfl) (by simp) ?_
  refine AllReadyL.cons (o := ?_) ?_ (fun K hK => ?_) AllReadyL.nil
  case refine_2 => (simp only [List.getElem?_cons_succ, List.getElem?_cons_zero]; rfl)
  go_simp
  (go_at_call 83; (with_reducible refine (put_c _ _ _ _ _ _ _ _ _ _ _ _ HS.out.hold HS.out.arr HS.out.cells HS.out.nb HS.out.nm (by decide) HI7.out).mono ?_); rintro ee w5 ⟨rfl, hh, ho⟩; (replace HS := Lib.hid (HS.out.step hh ho)); clear hh ho)
  go_wp2_with (fail)
  clear hHeld
  refine hK.out _ _ HS.out.eight.1 (fun hHeld => ?_)
  clear hK K
  try simp only [List.set_cons_zero, List.set_cons_succ]
  refine wpAnyL_done (by kernel_rfl) (by kernel_rfl) ?_ _
  clear hsel hHeld
  obtain ⟨i0, i7⟩ := HS.out.eight
  go_upto_region 10 with (go_at_call 82; (with_reducible refine (WBytes_c _ _ _ _ HS.out.hold _ _ HS.out.src HS.out.nf).mono ?_); rintro ee w5 ⟨rfl, hh, ho⟩; (replace HS := Lib.hid (HS.out.step hh ho)); clear hh ho)
  clear i0 i7
  replace HS := Lib.hid HS.out.drew
  refine wp_region_list (B := [false, false, false, false, false, false, false, false, false]) (S := (fun _ => True)) (by kernel_rfl) (by kernel_rfl) (by kernel_rfl) trivial (fun hsel hHeld => ?_)
  generalize hwz : World.drew _ = wz at HS ⊢
  clear hwz
  refine oneA 0 35 hsel (h := ?_)
  simp only [Act.put, lsa, lsz, lss]
  refine oneA 1 36 hsel (h := ?_)
  simp only [Act.put, lsa, lsz, lss]
  refine oneA 2 37 hsel (h := ?_)
  simp only [Act.put, lsa, lsz, lss]
  refine oneA 3 38 hsel (h := ?_)
  simp only [Act.put, lsa, lsz, lss]
  refine oneA 4 39 hsel (h := ?_)
  simp only [Act.put, lsa, lsz, lss]
  refine oneA 5 40 hsel (h := ?_)
  simp only [Act.put, lsa, lsz, lss]
  refine wpAnyL_ready (rs := [6]) (by kernel_rfl) (by kernel_rfl) (by simp) ?_
  refine AllReadyL.cons (o := ?_) ?_ (fun K hK => ?_) AllReadyL.nil
  case refine_2 => (simp only [List.getElem?_cons_succ, List.getElem?_cons_zero]; rfl)
  go_simp
  (go_at_call 87; (with_reducible refine (At_c _ _ _ _ _ HS.out.hold).mono ?_); rintro ee w5 ⟨rfl, rfl⟩)
  go_wp2_with (fail)
  clear hHeld
  refine hK.out _ _ trivial (fun hHeld => ?_)
  clear hK K
  try simp only [List.set_cons_zero, List.set_cons_succ]
  refine oneA 7 42 hsel (h := ?_)
  simp only [Act.put, lsa, lsz, lss]
  refine wpAnyL_ready (rs := [8]) (by kernel_rfl) (by kernel_rfl) (by simp) ?_
  refine AllReadyL.cons (o := ?_) ?_ (fun K hK => ?_) AllReadyL.nil
  case refine_2 => (simp only [List.getElem?_cons_succ, List.getElem?_cons_zero]; rfl)
  go_simp
  (go_at_call 86; (with_reducible refine (Skip_c _ _ _ _ _ HS.out.hold _).mono ?_); rintro ee w5 ⟨rfl, hh, ho⟩; (replace HS := Lib.hid (HS.out.step hh (ho.mono fun _ h => .inl h))); clear hh ho)
  go_wp2_with (fail)
  clear hHeld
  refine hK.out _ _ trivial (fun hHeld => ?_)
  clear hK K
  try simp only [List.set_cons_zero, List.set_cons_succ]
  refine wpAnyL_done (by kernel_rfl) (by kernel_rfl) ?_ _
  clear hsel hHeld
  go_upto_region 12 with (go_at_call 82; (with_reducible refine (WBytes_c _ _ _ _ (HS.out.later ((Only.refl _ _).alloc (fun _ h => h) _)).hold _ tail4 (src_tail4 _) (HS.out.nlit ⟨HS.out.lo.2.2.2.2.2.2.2, HS.out.lo.2.2.2.2.2.2.1⟩)).mono ?_); rintro ee w5 ⟨rfl, hh, ho⟩; (replace HS := Lib.hid ((HS.out.later ((Only.refl _ _).alloc (fun _ h => h) _)).step hh ho)); clear hh ho)
  have HWR : Hid (IntKind.i64.wrap (248 - ((mC2 [g, ph, t, x, r, p, l] g xs).at_ : Int)) = 248 - ((mC2 [g, ph, t, x, r, p, l] g xs).at_ : Int)) := Lib.hid (IntWalk.i64_in _ (by have := mC2_at [g, ph, t, x, r, p, l] g xs; omega))
  obtain ⟨C, hC⟩ : ∃ C, C = mC [g, ph, t, x, r, p, l] g xs := ⟨_, rfl⟩
  have HS2 : Hid (EncS w w.heap.size w3.heap.size p' q' [g, ph, t, x, r, p, l] (.slice A n c) xs w5 C) := Lib.hid (by
    have h := HS.out
    rw [hC]
    unfold mC
    rw [← HWR.out]
    have e := HNE.out
    subst e
    exact h)
  rw [← hC] at HLE
  have HCE := Lib.hid hC
  clear hC HS HWR
  go_wp2_with (first
    | (go_at_call 88; (with_reducible refine (Done_c _ _ _ _ HS2.out.hold).mono ?_); rintro ee w6 ⟨v, rfl, hsv, ho⟩; have HV := Lib.hid hsv; have HO6 := Lib.hid (on_new HS2.out.ho ho); clear hsv ho)
    | (go_at_call 89; (with_reducible refine (Seal_t _ _ _ HV.out HLE.out).mono ?_); rintro ee w7 ⟨v7, rfl, hsv, ho⟩; have HV7 := Lib.hid hsv; have HSZ : Hid (w.heap.size ≤ w6.heap.size) := Lib.hid HO6.out.size; (replace HO6 := Lib.hid (on_new HO6.out ho)); clear hsv ho))
  go_ret2
  exact ⟨v7, rfl, by rw [← HCE.out]; exact HV7.out.mono HSZ.out, HO6.out⟩
theorem MEncode_yes (hG : Gens w) (xs : Bytes) (hs : Src w (.slice A n c) xs) (hne : n = xs.length) (hI : ∀ u ∈ [g, ph, t, x, r, p, l], I64 u) (hok : okM g ph t x r p l n = true) (hle : (mC [g, ph, t, x, r, p, l] g xs).out.length ≤ 65536) : Calls Tryz.prog 65 #[.agg #[.int .i64 g, .int .i64 ph, .int .i64 t, .int .i64 x, .int .i64 r, .int .i64 p, .int .i64 l, .slice A n c]] w (GaveBE w (sealB (mC [g, ph, t, x, r, p, l] g xs).out 252) 0) := (MEncode_own w g ph t x r p l A n c hG xs hs hne hI hok hle).mono fun _ _ h => h.gave
end
end Go.Proofs.YtbpldkhgiddmlaaGreatDoor
