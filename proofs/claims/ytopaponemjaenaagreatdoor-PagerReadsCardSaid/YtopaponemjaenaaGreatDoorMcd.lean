/-
  Metas: the document's Choose.
-/
import Derived.Test.YtopaponemjaenaaGreatDoorMdr
set_option linter.unusedVariables false
namespace Go.Proofs.YtopaponemjaenaaGreatDoor
open Go.RowKit

/-- A meta, a page, an error: the document's. -/
def GaveRC (w : World) (s : ChS) (e : Ending) (w' : World) : Prop := ∃ (g ph t x r p l : Int) (A : Option Addr) (n c : Nat), s.N = [g, ph, t, x, r, p, l] ∧ n = s.X.length ∧ e = .returned (.tuple #[.agg #[.int .i64 g, .int .i64 ph, .int .i64 t, .int .i64 x, .int .i64 r, .int .i64 p, .int .i64 l, .slice A n c], .int .i64 s.at_, .int .i64 (whyZ s)]) ∧ Src w' (.slice A n c) s.X ∧ Only (w.heap.size ≤ ·) w w'
theorem src_off {w W : World} {q : Nat} {t : TypeId} {cs : List Value} {A : Option Addr} {n c : Nat} {xs : Bytes} (h : Src w (.slice A n c) xs) (hb : Blk w q t cs) (hcs : ∀ v ∈ cs, ∀ x, v ≠ .int .u8 x) (ho : Only (· = q) w W) : Src W (.slice A n c) xs := by
  obtain ⟨A', c', e, ht, h1, h2, h3⟩ := h
  refine ⟨A', c', e, ht.only ho (fun ad hn hA hF => ?_), h1, h2, h3⟩
  obtain ⟨ad', x, e1, _, e3⟩ := ht.at_ hn
  obtain rfl : ad = ad' := Option.some.inj (hA.symm.trans e1)
  have ee : ad.add 0 = ad := by cases ad; simp [Addr.add]
  rw [ee] at e3
  have e4 := spotF e3
  rw [e4, show ad.block = q from hF, hb.cell] at e3
  exact hcs _ (List.mem_of_getElem? e3) _ rfl
theorem firstB_t {M : List Int} {e : Int} {k : Nat} (h : M.getD 3 0 = (k : Int)) (h0 : e = 0) (hk : k % 2 = 0) : firstB M e = true := by
  unfold firstB
  rw [h, decide_eq_true h0, Bool.true_and, decide_eq_true_eq]
  omega
theorem firstB_f {M : List Int} {e : Int} {k : Nat} (h : M.getD 3 0 = (k : Int)) (hk : ¬ k % 2 = 0) : firstB M e = false := by
  unfold firstB
  rw [h, decide_eq_false (p := (k : Int) % 2 = 0) (by omega), Bool.and_false]
theorem firstB_n {M : List Int} {e : Int} (h0 : ¬ e = 0) : firstB M e = false := by
  unfold firstB
  rw [decide_eq_false h0, Bool.false_and]
theorem secondB_t {M : List Int} {e : Int} {k : Nat} (h : M.getD 3 0 = (k : Int)) (h0 : e = 0) (hk : k % 2 = 1) : secondB M e = true := by
  unfold secondB
  rw [h, decide_eq_true h0, Bool.true_and, decide_eq_true_eq]
  omega
theorem secondB_f {M : List Int} {e : Int} {k : Nat} (h : M.getD 3 0 = (k : Int)) (hk : ¬ k % 2 = 1) : secondB M e = false := by
  unfold secondB
  rw [h, decide_eq_false (p := (k : Int) % 2 = 1) (by omega), Bool.and_false]
theorem secondB_n {M : List Int} {e : Int} (h0 : ¬ e = 0) : secondB M e = false := by
  unfold secondB
  rw [decide_eq_false h0, Bool.false_and]
section
variable {aM bM : List Int} {aX bX : Bytes} {aE bE : Int}
theorem docC_a (h1 : firstB aM aE = true) (h2 : secondB bM bE = false ∨ bM.getD 3 0 < aM.getD 3 0) : docC aM bM aX bX aE bE = ⟨aM, aX, 0, 0⟩ := by
  unfold docC
  rw [if_pos ⟨h1, h2⟩]
theorem docC_b (h1 : ¬ (firstB aM aE = true ∧ (secondB bM bE = false ∨ bM.getD 3 0 < aM.getD 3 0))) (h2 : secondB bM bE = true) : docC aM bM aX bX aE bE = ⟨bM, bX, 1, 0⟩ := by
  unfold docC
  rw [if_neg h1, if_pos h2]
theorem docC_z (h1 : firstB aM aE = false) (h2 : secondB bM bE = false) {y : Int} (hy : (if aE = 93 ∨ bE = 93 then (93 : Int) else 92) = y) : docC aM bM aX bX aE bE = ⟨[0, 0, 0, 0, 0, 0, 0], [], -1, y⟩ := by
  unfold docC
  rw [if_neg (fun h => by rw [h1] at h; cases h.1), if_neg (by rw [h2]; decide), hy]
end
section
variable (w : World) (va vb : Value) (aM bM : List Int) (aX bX : Bytes) (aE bE : Int)
set_option maxRecDepth 100000 in
set_option maxHeartbeats 25600000 in
theorem rch_go (hA : ∀ W, Only (w.heap.size ≤ ·) w W → Calls Tryz.prog 77 #[va] W (GaveRD W aM aX aE)) (hB : ∀ W, Only (w.heap.size ≤ ·) w W → Calls Tryz.prog 77 #[vb] W (GaveRD W bM bX bE))
    (hkA : aE = 0 → ∃ k : Nat, aM.getD 3 0 = (k : Int)) (hkB : bE = 0 → ∃ k : Nat, bM.getD 3 0 = (k : Int)) : Calls Tryz.prog 57 #[va, vb] w (GaveRC w (docC aM bM aX bX aE bE)) := by
  obtain ⟨FIN, hF⟩ : ∃ F, F = docC aM bM aX bX aE bE := ⟨_, rfl⟩
  rw [← hF]
  have HF := Lib.hid hF
  have HDA := Lib.hid hA
  have HDB := Lib.hid hB
  have HKA := Lib.hid hkA
  have HKB := Lib.hid hkB
  obtain ⟨w1, hw1⟩ : ∃ W0, W0 = w.alloc (.cells #[.int .i64 0, .int .i64 0, .int .i64 0, .int .i64 0, .int .i64 0, .int .i64 0, .int .i64 0, .slice none 0 0] 25) := ⟨_, rfl⟩
  have HO : Hid (Only (w.heap.size ≤ ·) w w1) := Lib.hid (by rw [hw1]; exact (Only.refl _ w).alloc (fun _ h => h) _)
  have HR : Hid (Blk w1 w.heap.size 25 [.int .i64 0, .int .i64 0, .int .i64 0, .int .i64 0, .int .i64 0, .int .i64 0, .int .i64 0, .slice none 0 0]) := Lib.hid (by rw [hw1]; exact Blk.new w 25 _)
  clear hF hA hB hkA hkB
  go_enter Tryz.func57, Tryz.ntmps57
  go_upto_region 1 with (fail)
  rw [← hw1]
  clear hw1
  go_upto_region 2 with (go_at_call 77; (with_reducible refine (HDA.out _ HO.out).mono ?_); rintro ee w3 ⟨g, ph, t, x, r, p, l, A1, n1, c1, hM, hn1, rfl, hs1, ho⟩; have HM := Lib.hid hM; have HN1 := Lib.hid hn1; have HS1 := Lib.hid hs1; (replace HR := Lib.hid (HR.out.later ho)); (replace HO := Lib.hid (on_new HO.out ho)); clear ho hM hn1 hs1)
  obtain ⟨w4, hw4⟩ : ∃ y, y = w3.alloc (.cells #[.int .i64 g, .int .i64 ph, .int .i64 t, .int .i64 x, .int .i64 r, .int .i64 p, .int .i64 l, .slice A1 n1 c1] 25) := ⟨_, rfl⟩
  have HB1 : Hid (Blk w4 w3.heap.size 25 [.int .i64 g, .int .i64 ph, .int .i64 t, .int .i64 x, .int .i64 r, .int .i64 p, .int .i64 l, .slice A1 n1 c1]) := Lib.hid (by rw [hw4]; exact Blk.new w3 25 _)
  have HON : Hid (Only (w3.heap.size ≤ ·) w3 w4) := Lib.hid (by rw [hw4]; exact (Only.refl _ w3).alloc (fun _ h => h) _)
  replace HR := Lib.hid (HR.out.later HON.out)
  replace HS1 := Lib.hid (HS1.out.later HON.out)
  replace HO := Lib.hid (on_new HO.out HON.out)
  rw [← hw4]
  clear hw4 HON
  go_upto_region 3 with (go_at_call 77; (with_reducible refine (HDB.out _ HO.out).mono ?_); rintro ee w5 ⟨g', ph', t', x', r', p', l', A2, n2, c2, hM, hn2, rfl, hs2, ho⟩; have HM2 := Lib.hid hM; have HN2 := Lib.hid hn2; have HS2 := Lib.hid hs2; (replace HR := Lib.hid (HR.out.later ho)); (replace HB1 := Lib.hid (HB1.out.later ho)); (replace HS1 := Lib.hid (HS1.out.later ho)); (replace HO := Lib.hid (on_new HO.out ho)); clear ho hM hn2 hs2)
  obtain ⟨w6, hw6⟩ : ∃ y, y = w5.alloc (.cells #[.int .i64 g', .int .i64 ph', .int .i64 t', .int .i64 x', .int .i64 r', .int .i64 p', .int .i64 l', .slice A2 n2 c2] 25) := ⟨_, rfl⟩
  have HB2 : Hid (Blk w6 w5.heap.size 25 [.int .i64 g', .int .i64 ph', .int .i64 t', .int .i64 x', .int .i64 r', .int .i64 p', .int .i64 l', .slice A2 n2 c2]) := Lib.hid (by rw [hw6]; exact Blk.new w5 25 _)
  have HON : Hid (Only (w5.heap.size ≤ ·) w5 w6) := Lib.hid (by rw [hw6]; exact (Only.refl _ w5).alloc (fun _ h => h) _)
  replace HR := Lib.hid (HR.out.later HON.out)
  replace HB1 := Lib.hid (HB1.out.later HON.out)
  replace HS1 := Lib.hid (HS1.out.later HON.out)
  replace HS2 := Lib.hid (HS2.out.later HON.out)
  replace HO := Lib.hid (on_new HO.out HON.out)
  rw [← hw6]
  clear hw6 HON
  obtain ⟨i0, i1, i2, i3, i4, i5, i6, i7⟩ := HB1.out.eight
  obtain ⟨j0, j1, j2, j3, j4, j5, j6, j7⟩ := HB2.out.eight
  by_cases h0 : aE = 0
  · skip
    have B : (aE == 0) = true := by rw [beq_iff_eq]; exact h0
    have B93 : (aE == 93) = false := by rw [beq_eq_false_iff_ne]; omega
    obtain ⟨k, Hk, rfl⟩ : ∃ k : Nat, Hid (aM.getD 3 0 = (k : Int)) ∧ x = (k : Int) := by
      obtain ⟨k, h1⟩ := HKA.out h0
      refine ⟨k, Lib.hid h1, ?_⟩
      rw [HM.out] at h1
      exact h1
    have H0 := Lib.hid h0
    clear h0
    by_cases hp : k % 2 = 0
    · have P : ((k : Int) % 2 == 0) = true := by rw [beq_iff_eq]; omega
      have HP := Lib.hid hp
      clear hp
      by_cases h0' : bE = 0
      · skip
        have B' : (bE == 0) = true := by rw [beq_iff_eq]; exact h0'
        have B'93 : (bE == 93) = false := by rw [beq_eq_false_iff_ne]; omega
        obtain ⟨j, Hj, rfl⟩ : ∃ j : Nat, Hid (bM.getD 3 0 = (j : Int)) ∧ x' = (j : Int) := by
          obtain ⟨j, h1⟩ := HKB.out h0'
          refine ⟨j, Lib.hid h1, ?_⟩
          rw [HM2.out] at h1
          exact h1
        have H0' := Lib.hid h0'
        clear h0'
        by_cases hp' : j % 2 = 1
        · have P' : ((j : Int) % 2 == 1) = true := by rw [beq_iff_eq]; omega
          have HP' := Lib.hid hp'
          clear hp'
          by_cases hl : j < k
          · have hd : decide (j < k) = true := decide_eq_true hl
            have HL := Lib.hid hl
            obtain ⟨r0, r1, r2, r3, r4, r5, r6, r7⟩ := HR.out.eight
            have z0 := HR.out.frozen 0
            have z1 := HR.out.frozen 1
            have z2 := HR.out.frozen 2
            have z3 := HR.out.frozen 3
            have z4 := HR.out.frozen 4
            have z5 := HR.out.frozen 5
            have z6 := HR.out.frozen 6
            have z7 := HR.out.frozen 7
            have HF2 : Hid (FIN = _) := Lib.hid (HF.out.trans (docC_a (firstB_t Hk.out H0.out HP.out) (.inr (by rw [Hk.out, Hj.out]; exact Int.ofNat_lt.2 HL.out))))
            go_wp2
            refine bodyPost_ret (results_ctt rfl rfl (rload_meta ((((((((HR.out.set_ 0 (.int .i64 g)).set_ 1 (.int .i64 ph)).set_ 2 (.int .i64 t)).set_ 3 (.int .i64 k)).set_ 4 (.int .i64 r)).set_ 5 (.int .i64 p)).set_ 6 (.int .i64 l)).set_ 7 (.slice A1 n1 c1)))) rfl ?_
            rw [HF2.out]
            exact ⟨g, ph, t, k, r, p, l, A1, n1, c1, HM.out, HN1.out, rfl, src_off HS1.out HR.out (by simp) (((((((((Only.refl (· = w.heap.size) _).setCell (p := ⟨w.heap.size, 0, none⟩) rfl (.int .i64 g)).setCell (p := ⟨w.heap.size, 1, none⟩) rfl (.int .i64 ph)).setCell (p := ⟨w.heap.size, 2, none⟩) rfl (.int .i64 t)).setCell (p := ⟨w.heap.size, 3, none⟩) rfl (.int .i64 k)).setCell (p := ⟨w.heap.size, 4, none⟩) rfl (.int .i64 r)).setCell (p := ⟨w.heap.size, 5, none⟩) rfl (.int .i64 p)).setCell (p := ⟨w.heap.size, 6, none⟩) rfl (.int .i64 l)).setCell (p := ⟨w.heap.size, 7, none⟩) rfl (.slice A1 n1 c1)), ((((((((HO.out.setCell (p := ⟨w.heap.size, 0, none⟩) (Nat.le_refl _) (.int .i64 g)).setCell (p := ⟨w.heap.size, 1, none⟩) (Nat.le_refl _) (.int .i64 ph)).setCell (p := ⟨w.heap.size, 2, none⟩) (Nat.le_refl _) (.int .i64 t)).setCell (p := ⟨w.heap.size, 3, none⟩) (Nat.le_refl _) (.int .i64 k)).setCell (p := ⟨w.heap.size, 4, none⟩) (Nat.le_refl _) (.int .i64 r)).setCell (p := ⟨w.heap.size, 5, none⟩) (Nat.le_refl _) (.int .i64 p)).setCell (p := ⟨w.heap.size, 6, none⟩) (Nat.le_refl _) (.int .i64 l)).setCell (p := ⟨w.heap.size, 7, none⟩) (Nat.le_refl _) (.slice A1 n1 c1))⟩
          · have hd : decide (j < k) = false := decide_eq_false hl
            have HL := Lib.hid hl
            obtain ⟨r0, r1, r2, r3, r4, r5, r6, r7⟩ := HR.out.eight
            have z0 := HR.out.frozen 0
            have z1 := HR.out.frozen 1
            have z2 := HR.out.frozen 2
            have z3 := HR.out.frozen 3
            have z4 := HR.out.frozen 4
            have z5 := HR.out.frozen 5
            have z6 := HR.out.frozen 6
            have z7 := HR.out.frozen 7
            have HF2 : Hid (FIN = _) := Lib.hid (HF.out.trans (docC_b (fun h => by rcases h.2 with h | h; (rw [secondB_t Hj.out H0'.out HP'.out] at h; cases h); (rw [Hk.out, Hj.out] at h; exact HL.out (Int.ofNat_lt.1 h))) (secondB_t Hj.out H0'.out HP'.out)))
            go_wp2
            refine bodyPost_ret (results_ctt rfl rfl (rload_meta ((((((((HR.out.set_ 0 (.int .i64 g')).set_ 1 (.int .i64 ph')).set_ 2 (.int .i64 t')).set_ 3 (.int .i64 j)).set_ 4 (.int .i64 r')).set_ 5 (.int .i64 p')).set_ 6 (.int .i64 l')).set_ 7 (.slice A2 n2 c2)))) rfl ?_
            rw [HF2.out]
            exact ⟨g', ph', t', j, r', p', l', A2, n2, c2, HM2.out, HN2.out, rfl, src_off HS2.out HR.out (by simp) (((((((((Only.refl (· = w.heap.size) _).setCell (p := ⟨w.heap.size, 0, none⟩) rfl (.int .i64 g')).setCell (p := ⟨w.heap.size, 1, none⟩) rfl (.int .i64 ph')).setCell (p := ⟨w.heap.size, 2, none⟩) rfl (.int .i64 t')).setCell (p := ⟨w.heap.size, 3, none⟩) rfl (.int .i64 j)).setCell (p := ⟨w.heap.size, 4, none⟩) rfl (.int .i64 r')).setCell (p := ⟨w.heap.size, 5, none⟩) rfl (.int .i64 p')).setCell (p := ⟨w.heap.size, 6, none⟩) rfl (.int .i64 l')).setCell (p := ⟨w.heap.size, 7, none⟩) rfl (.slice A2 n2 c2)), ((((((((HO.out.setCell (p := ⟨w.heap.size, 0, none⟩) (Nat.le_refl _) (.int .i64 g')).setCell (p := ⟨w.heap.size, 1, none⟩) (Nat.le_refl _) (.int .i64 ph')).setCell (p := ⟨w.heap.size, 2, none⟩) (Nat.le_refl _) (.int .i64 t')).setCell (p := ⟨w.heap.size, 3, none⟩) (Nat.le_refl _) (.int .i64 j)).setCell (p := ⟨w.heap.size, 4, none⟩) (Nat.le_refl _) (.int .i64 r')).setCell (p := ⟨w.heap.size, 5, none⟩) (Nat.le_refl _) (.int .i64 p')).setCell (p := ⟨w.heap.size, 6, none⟩) (Nat.le_refl _) (.int .i64 l')).setCell (p := ⟨w.heap.size, 7, none⟩) (Nat.le_refl _) (.slice A2 n2 c2))⟩
        · have P' : ((j : Int) % 2 == 1) = false := by rw [beq_eq_false_iff_ne]; omega
          have HP' := Lib.hid hp'
          clear hp'
          obtain ⟨r0, r1, r2, r3, r4, r5, r6, r7⟩ := HR.out.eight
          have z0 := HR.out.frozen 0
          have z1 := HR.out.frozen 1
          have z2 := HR.out.frozen 2
          have z3 := HR.out.frozen 3
          have z4 := HR.out.frozen 4
          have z5 := HR.out.frozen 5
          have z6 := HR.out.frozen 6
          have z7 := HR.out.frozen 7
          have HF2 : Hid (FIN = _) := Lib.hid (HF.out.trans (docC_a (firstB_t Hk.out H0.out HP.out) (.inl (secondB_f Hj.out HP'.out))))
          go_wp2
          refine bodyPost_ret (results_ctt rfl rfl (rload_meta ((((((((HR.out.set_ 0 (.int .i64 g)).set_ 1 (.int .i64 ph)).set_ 2 (.int .i64 t)).set_ 3 (.int .i64 k)).set_ 4 (.int .i64 r)).set_ 5 (.int .i64 p)).set_ 6 (.int .i64 l)).set_ 7 (.slice A1 n1 c1)))) rfl ?_
          rw [HF2.out]
          exact ⟨g, ph, t, k, r, p, l, A1, n1, c1, HM.out, HN1.out, rfl, src_off HS1.out HR.out (by simp) (((((((((Only.refl (· = w.heap.size) _).setCell (p := ⟨w.heap.size, 0, none⟩) rfl (.int .i64 g)).setCell (p := ⟨w.heap.size, 1, none⟩) rfl (.int .i64 ph)).setCell (p := ⟨w.heap.size, 2, none⟩) rfl (.int .i64 t)).setCell (p := ⟨w.heap.size, 3, none⟩) rfl (.int .i64 k)).setCell (p := ⟨w.heap.size, 4, none⟩) rfl (.int .i64 r)).setCell (p := ⟨w.heap.size, 5, none⟩) rfl (.int .i64 p)).setCell (p := ⟨w.heap.size, 6, none⟩) rfl (.int .i64 l)).setCell (p := ⟨w.heap.size, 7, none⟩) rfl (.slice A1 n1 c1)), ((((((((HO.out.setCell (p := ⟨w.heap.size, 0, none⟩) (Nat.le_refl _) (.int .i64 g)).setCell (p := ⟨w.heap.size, 1, none⟩) (Nat.le_refl _) (.int .i64 ph)).setCell (p := ⟨w.heap.size, 2, none⟩) (Nat.le_refl _) (.int .i64 t)).setCell (p := ⟨w.heap.size, 3, none⟩) (Nat.le_refl _) (.int .i64 k)).setCell (p := ⟨w.heap.size, 4, none⟩) (Nat.le_refl _) (.int .i64 r)).setCell (p := ⟨w.heap.size, 5, none⟩) (Nat.le_refl _) (.int .i64 p)).setCell (p := ⟨w.heap.size, 6, none⟩) (Nat.le_refl _) (.int .i64 l)).setCell (p := ⟨w.heap.size, 7, none⟩) (Nat.le_refl _) (.slice A1 n1 c1))⟩
      · have B' : (bE == 0) = false := by rw [beq_eq_false_iff_ne]; exact h0'
        have H0' := Lib.hid h0'
        clear h0'
        obtain ⟨r0, r1, r2, r3, r4, r5, r6, r7⟩ := HR.out.eight
        have z0 := HR.out.frozen 0
        have z1 := HR.out.frozen 1
        have z2 := HR.out.frozen 2
        have z3 := HR.out.frozen 3
        have z4 := HR.out.frozen 4
        have z5 := HR.out.frozen 5
        have z6 := HR.out.frozen 6
        have z7 := HR.out.frozen 7
        have HF2 : Hid (FIN = _) := Lib.hid (HF.out.trans (docC_a (firstB_t Hk.out H0.out HP.out) (.inl (secondB_n H0'.out))))
        go_wp2
        refine bodyPost_ret (results_ctt rfl rfl (rload_meta ((((((((HR.out.set_ 0 (.int .i64 g)).set_ 1 (.int .i64 ph)).set_ 2 (.int .i64 t)).set_ 3 (.int .i64 k)).set_ 4 (.int .i64 r)).set_ 5 (.int .i64 p)).set_ 6 (.int .i64 l)).set_ 7 (.slice A1 n1 c1)))) rfl ?_
        rw [HF2.out]
        exact ⟨g, ph, t, k, r, p, l, A1, n1, c1, HM.out, HN1.out, rfl, src_off HS1.out HR.out (by simp) (((((((((Only.refl (· = w.heap.size) _).setCell (p := ⟨w.heap.size, 0, none⟩) rfl (.int .i64 g)).setCell (p := ⟨w.heap.size, 1, none⟩) rfl (.int .i64 ph)).setCell (p := ⟨w.heap.size, 2, none⟩) rfl (.int .i64 t)).setCell (p := ⟨w.heap.size, 3, none⟩) rfl (.int .i64 k)).setCell (p := ⟨w.heap.size, 4, none⟩) rfl (.int .i64 r)).setCell (p := ⟨w.heap.size, 5, none⟩) rfl (.int .i64 p)).setCell (p := ⟨w.heap.size, 6, none⟩) rfl (.int .i64 l)).setCell (p := ⟨w.heap.size, 7, none⟩) rfl (.slice A1 n1 c1)), ((((((((HO.out.setCell (p := ⟨w.heap.size, 0, none⟩) (Nat.le_refl _) (.int .i64 g)).setCell (p := ⟨w.heap.size, 1, none⟩) (Nat.le_refl _) (.int .i64 ph)).setCell (p := ⟨w.heap.size, 2, none⟩) (Nat.le_refl _) (.int .i64 t)).setCell (p := ⟨w.heap.size, 3, none⟩) (Nat.le_refl _) (.int .i64 k)).setCell (p := ⟨w.heap.size, 4, none⟩) (Nat.le_refl _) (.int .i64 r)).setCell (p := ⟨w.heap.size, 5, none⟩) (Nat.le_refl _) (.int .i64 p)).setCell (p := ⟨w.heap.size, 6, none⟩) (Nat.le_refl _) (.int .i64 l)).setCell (p := ⟨w.heap.size, 7, none⟩) (Nat.le_refl _) (.slice A1 n1 c1))⟩
    · have P : ((k : Int) % 2 == 0) = false := by rw [beq_eq_false_iff_ne]; omega
      have HP := Lib.hid hp
      clear hp
      by_cases h0' : bE = 0
      · skip
        have B' : (bE == 0) = true := by rw [beq_iff_eq]; exact h0'
        have B'93 : (bE == 93) = false := by rw [beq_eq_false_iff_ne]; omega
        obtain ⟨j, Hj, rfl⟩ : ∃ j : Nat, Hid (bM.getD 3 0 = (j : Int)) ∧ x' = (j : Int) := by
          obtain ⟨j, h1⟩ := HKB.out h0'
          refine ⟨j, Lib.hid h1, ?_⟩
          rw [HM2.out] at h1
          exact h1
        have H0' := Lib.hid h0'
        clear h0'
        by_cases hp' : j % 2 = 1
        · have P' : ((j : Int) % 2 == 1) = true := by rw [beq_iff_eq]; omega
          have HP' := Lib.hid hp'
          clear hp'
          obtain ⟨r0, r1, r2, r3, r4, r5, r6, r7⟩ := HR.out.eight
          have z0 := HR.out.frozen 0
          have z1 := HR.out.frozen 1
          have z2 := HR.out.frozen 2
          have z3 := HR.out.frozen 3
          have z4 := HR.out.frozen 4
          have z5 := HR.out.frozen 5
          have z6 := HR.out.frozen 6
          have z7 := HR.out.frozen 7
          have HF2 : Hid (FIN = _) := Lib.hid (HF.out.trans (docC_b (fun h => by rw [firstB_f Hk.out HP.out] at h; cases h.1) (secondB_t Hj.out H0'.out HP'.out)))
          go_wp2
          refine bodyPost_ret (results_ctt rfl rfl (rload_meta ((((((((HR.out.set_ 0 (.int .i64 g')).set_ 1 (.int .i64 ph')).set_ 2 (.int .i64 t')).set_ 3 (.int .i64 j)).set_ 4 (.int .i64 r')).set_ 5 (.int .i64 p')).set_ 6 (.int .i64 l')).set_ 7 (.slice A2 n2 c2)))) rfl ?_
          rw [HF2.out]
          exact ⟨g', ph', t', j, r', p', l', A2, n2, c2, HM2.out, HN2.out, rfl, src_off HS2.out HR.out (by simp) (((((((((Only.refl (· = w.heap.size) _).setCell (p := ⟨w.heap.size, 0, none⟩) rfl (.int .i64 g')).setCell (p := ⟨w.heap.size, 1, none⟩) rfl (.int .i64 ph')).setCell (p := ⟨w.heap.size, 2, none⟩) rfl (.int .i64 t')).setCell (p := ⟨w.heap.size, 3, none⟩) rfl (.int .i64 j)).setCell (p := ⟨w.heap.size, 4, none⟩) rfl (.int .i64 r')).setCell (p := ⟨w.heap.size, 5, none⟩) rfl (.int .i64 p')).setCell (p := ⟨w.heap.size, 6, none⟩) rfl (.int .i64 l')).setCell (p := ⟨w.heap.size, 7, none⟩) rfl (.slice A2 n2 c2)), ((((((((HO.out.setCell (p := ⟨w.heap.size, 0, none⟩) (Nat.le_refl _) (.int .i64 g')).setCell (p := ⟨w.heap.size, 1, none⟩) (Nat.le_refl _) (.int .i64 ph')).setCell (p := ⟨w.heap.size, 2, none⟩) (Nat.le_refl _) (.int .i64 t')).setCell (p := ⟨w.heap.size, 3, none⟩) (Nat.le_refl _) (.int .i64 j)).setCell (p := ⟨w.heap.size, 4, none⟩) (Nat.le_refl _) (.int .i64 r')).setCell (p := ⟨w.heap.size, 5, none⟩) (Nat.le_refl _) (.int .i64 p')).setCell (p := ⟨w.heap.size, 6, none⟩) (Nat.le_refl _) (.int .i64 l')).setCell (p := ⟨w.heap.size, 7, none⟩) (Nat.le_refl _) (.slice A2 n2 c2))⟩
        · have P' : ((j : Int) % 2 == 1) = false := by rw [beq_eq_false_iff_ne]; omega
          have HP' := Lib.hid hp'
          clear hp'
          obtain ⟨r0, r1, r2, r3, r4, r5, r6, r7⟩ := HR.out.eight
          have z0 := HR.out.frozen 0
          have z1 := HR.out.frozen 1
          have z2 := HR.out.frozen 2
          have z3 := HR.out.frozen 3
          have z4 := HR.out.frozen 4
          have z5 := HR.out.frozen 5
          have z6 := HR.out.frozen 6
          have z7 := HR.out.frozen 7
          have HF2 : Hid (FIN = _) := Lib.hid (HF.out.trans (docC_z (firstB_f Hk.out HP.out) (secondB_f Hj.out HP'.out) (y := 92) (if_neg (fun h => by rcases h with h | h; (exact (fun e => by have := H0.out; omega) h); (exact (fun e => by have := H0'.out; omega) h)))))
          go_wp2
          refine bodyPost_ret (results_ctt rfl rfl (rload_meta ((((((((HR.out.set_ 0 (.int .i64 0)).set_ 1 (.int .i64 0)).set_ 2 (.int .i64 0)).set_ 3 (.int .i64 0)).set_ 4 (.int .i64 0)).set_ 5 (.int .i64 0)).set_ 6 (.int .i64 0)).set_ 7 (.slice none 0 0)))) rfl ?_
          rw [HF2.out]
          exact ⟨0, 0, 0, 0, 0, 0, 0, none, 0, 0, rfl, rfl, rfl, Src.nil_ _, ((((((((HO.out.setCell (p := ⟨w.heap.size, 0, none⟩) (Nat.le_refl _) (.int .i64 0)).setCell (p := ⟨w.heap.size, 1, none⟩) (Nat.le_refl _) (.int .i64 0)).setCell (p := ⟨w.heap.size, 2, none⟩) (Nat.le_refl _) (.int .i64 0)).setCell (p := ⟨w.heap.size, 3, none⟩) (Nat.le_refl _) (.int .i64 0)).setCell (p := ⟨w.heap.size, 4, none⟩) (Nat.le_refl _) (.int .i64 0)).setCell (p := ⟨w.heap.size, 5, none⟩) (Nat.le_refl _) (.int .i64 0)).setCell (p := ⟨w.heap.size, 6, none⟩) (Nat.le_refl _) (.int .i64 0)).setCell (p := ⟨w.heap.size, 7, none⟩) (Nat.le_refl _) (.slice none 0 0))⟩
      · have B' : (bE == 0) = false := by rw [beq_eq_false_iff_ne]; exact h0'
        have H0' := Lib.hid h0'
        clear h0'
        by_cases h93' : bE = 93
        · have B'93 : (bE == 93) = true := by rw [beq_iff_eq]; exact h93'
          have H93' := Lib.hid h93'
          clear h93'
          obtain ⟨r0, r1, r2, r3, r4, r5, r6, r7⟩ := HR.out.eight
          have z0 := HR.out.frozen 0
          have z1 := HR.out.frozen 1
          have z2 := HR.out.frozen 2
          have z3 := HR.out.frozen 3
          have z4 := HR.out.frozen 4
          have z5 := HR.out.frozen 5
          have z6 := HR.out.frozen 6
          have z7 := HR.out.frozen 7
          have HF2 : Hid (FIN = _) := Lib.hid (HF.out.trans (docC_z (firstB_f Hk.out HP.out) (secondB_n H0'.out) (y := 93) (if_pos (.inr H93'.out))))
          go_wp2
          refine bodyPost_ret (results_ctt rfl rfl (rload_meta ((((((((HR.out.set_ 0 (.int .i64 0)).set_ 1 (.int .i64 0)).set_ 2 (.int .i64 0)).set_ 3 (.int .i64 0)).set_ 4 (.int .i64 0)).set_ 5 (.int .i64 0)).set_ 6 (.int .i64 0)).set_ 7 (.slice none 0 0)))) rfl ?_
          rw [HF2.out]
          exact ⟨0, 0, 0, 0, 0, 0, 0, none, 0, 0, rfl, rfl, rfl, Src.nil_ _, ((((((((HO.out.setCell (p := ⟨w.heap.size, 0, none⟩) (Nat.le_refl _) (.int .i64 0)).setCell (p := ⟨w.heap.size, 1, none⟩) (Nat.le_refl _) (.int .i64 0)).setCell (p := ⟨w.heap.size, 2, none⟩) (Nat.le_refl _) (.int .i64 0)).setCell (p := ⟨w.heap.size, 3, none⟩) (Nat.le_refl _) (.int .i64 0)).setCell (p := ⟨w.heap.size, 4, none⟩) (Nat.le_refl _) (.int .i64 0)).setCell (p := ⟨w.heap.size, 5, none⟩) (Nat.le_refl _) (.int .i64 0)).setCell (p := ⟨w.heap.size, 6, none⟩) (Nat.le_refl _) (.int .i64 0)).setCell (p := ⟨w.heap.size, 7, none⟩) (Nat.le_refl _) (.slice none 0 0))⟩
        · have B'93 : (bE == 93) = false := by rw [beq_eq_false_iff_ne]; exact h93'
          have H93' := Lib.hid h93'
          clear h93'
          obtain ⟨r0, r1, r2, r3, r4, r5, r6, r7⟩ := HR.out.eight
          have z0 := HR.out.frozen 0
          have z1 := HR.out.frozen 1
          have z2 := HR.out.frozen 2
          have z3 := HR.out.frozen 3
          have z4 := HR.out.frozen 4
          have z5 := HR.out.frozen 5
          have z6 := HR.out.frozen 6
          have z7 := HR.out.frozen 7
          have HF2 : Hid (FIN = _) := Lib.hid (HF.out.trans (docC_z (firstB_f Hk.out HP.out) (secondB_n H0'.out) (y := 92) (if_neg (fun h => by rcases h with h | h; (exact (fun e => by have := H0.out; omega) h); (exact H93'.out h)))))
          go_wp2
          refine bodyPost_ret (results_ctt rfl rfl (rload_meta ((((((((HR.out.set_ 0 (.int .i64 0)).set_ 1 (.int .i64 0)).set_ 2 (.int .i64 0)).set_ 3 (.int .i64 0)).set_ 4 (.int .i64 0)).set_ 5 (.int .i64 0)).set_ 6 (.int .i64 0)).set_ 7 (.slice none 0 0)))) rfl ?_
          rw [HF2.out]
          exact ⟨0, 0, 0, 0, 0, 0, 0, none, 0, 0, rfl, rfl, rfl, Src.nil_ _, ((((((((HO.out.setCell (p := ⟨w.heap.size, 0, none⟩) (Nat.le_refl _) (.int .i64 0)).setCell (p := ⟨w.heap.size, 1, none⟩) (Nat.le_refl _) (.int .i64 0)).setCell (p := ⟨w.heap.size, 2, none⟩) (Nat.le_refl _) (.int .i64 0)).setCell (p := ⟨w.heap.size, 3, none⟩) (Nat.le_refl _) (.int .i64 0)).setCell (p := ⟨w.heap.size, 4, none⟩) (Nat.le_refl _) (.int .i64 0)).setCell (p := ⟨w.heap.size, 5, none⟩) (Nat.le_refl _) (.int .i64 0)).setCell (p := ⟨w.heap.size, 6, none⟩) (Nat.le_refl _) (.int .i64 0)).setCell (p := ⟨w.heap.size, 7, none⟩) (Nat.le_refl _) (.slice none 0 0))⟩
  · have B : (aE == 0) = false := by rw [beq_eq_false_iff_ne]; exact h0
    have H0 := Lib.hid h0
    clear h0
    by_cases h0' : bE = 0
    · skip
      have B' : (bE == 0) = true := by rw [beq_iff_eq]; exact h0'
      have B'93 : (bE == 93) = false := by rw [beq_eq_false_iff_ne]; omega
      obtain ⟨j, Hj, rfl⟩ : ∃ j : Nat, Hid (bM.getD 3 0 = (j : Int)) ∧ x' = (j : Int) := by
        obtain ⟨j, h1⟩ := HKB.out h0'
        refine ⟨j, Lib.hid h1, ?_⟩
        rw [HM2.out] at h1
        exact h1
      have H0' := Lib.hid h0'
      clear h0'
      by_cases hp' : j % 2 = 1
      · have P' : ((j : Int) % 2 == 1) = true := by rw [beq_iff_eq]; omega
        have HP' := Lib.hid hp'
        clear hp'
        obtain ⟨r0, r1, r2, r3, r4, r5, r6, r7⟩ := HR.out.eight
        have z0 := HR.out.frozen 0
        have z1 := HR.out.frozen 1
        have z2 := HR.out.frozen 2
        have z3 := HR.out.frozen 3
        have z4 := HR.out.frozen 4
        have z5 := HR.out.frozen 5
        have z6 := HR.out.frozen 6
        have z7 := HR.out.frozen 7
        have HF2 : Hid (FIN = _) := Lib.hid (HF.out.trans (docC_b (fun h => by rw [firstB_n H0.out] at h; cases h.1) (secondB_t Hj.out H0'.out HP'.out)))
        go_wp2
        refine bodyPost_ret (results_ctt rfl rfl (rload_meta ((((((((HR.out.set_ 0 (.int .i64 g')).set_ 1 (.int .i64 ph')).set_ 2 (.int .i64 t')).set_ 3 (.int .i64 j)).set_ 4 (.int .i64 r')).set_ 5 (.int .i64 p')).set_ 6 (.int .i64 l')).set_ 7 (.slice A2 n2 c2)))) rfl ?_
        rw [HF2.out]
        exact ⟨g', ph', t', j, r', p', l', A2, n2, c2, HM2.out, HN2.out, rfl, src_off HS2.out HR.out (by simp) (((((((((Only.refl (· = w.heap.size) _).setCell (p := ⟨w.heap.size, 0, none⟩) rfl (.int .i64 g')).setCell (p := ⟨w.heap.size, 1, none⟩) rfl (.int .i64 ph')).setCell (p := ⟨w.heap.size, 2, none⟩) rfl (.int .i64 t')).setCell (p := ⟨w.heap.size, 3, none⟩) rfl (.int .i64 j)).setCell (p := ⟨w.heap.size, 4, none⟩) rfl (.int .i64 r')).setCell (p := ⟨w.heap.size, 5, none⟩) rfl (.int .i64 p')).setCell (p := ⟨w.heap.size, 6, none⟩) rfl (.int .i64 l')).setCell (p := ⟨w.heap.size, 7, none⟩) rfl (.slice A2 n2 c2)), ((((((((HO.out.setCell (p := ⟨w.heap.size, 0, none⟩) (Nat.le_refl _) (.int .i64 g')).setCell (p := ⟨w.heap.size, 1, none⟩) (Nat.le_refl _) (.int .i64 ph')).setCell (p := ⟨w.heap.size, 2, none⟩) (Nat.le_refl _) (.int .i64 t')).setCell (p := ⟨w.heap.size, 3, none⟩) (Nat.le_refl _) (.int .i64 j)).setCell (p := ⟨w.heap.size, 4, none⟩) (Nat.le_refl _) (.int .i64 r')).setCell (p := ⟨w.heap.size, 5, none⟩) (Nat.le_refl _) (.int .i64 p')).setCell (p := ⟨w.heap.size, 6, none⟩) (Nat.le_refl _) (.int .i64 l')).setCell (p := ⟨w.heap.size, 7, none⟩) (Nat.le_refl _) (.slice A2 n2 c2))⟩
      · have P' : ((j : Int) % 2 == 1) = false := by rw [beq_eq_false_iff_ne]; omega
        have HP' := Lib.hid hp'
        clear hp'
        by_cases h93 : aE = 93
        · have B93 : (aE == 93) = true := by rw [beq_iff_eq]; exact h93
          have H93 := Lib.hid h93
          clear h93
          obtain ⟨r0, r1, r2, r3, r4, r5, r6, r7⟩ := HR.out.eight
          have z0 := HR.out.frozen 0
          have z1 := HR.out.frozen 1
          have z2 := HR.out.frozen 2
          have z3 := HR.out.frozen 3
          have z4 := HR.out.frozen 4
          have z5 := HR.out.frozen 5
          have z6 := HR.out.frozen 6
          have z7 := HR.out.frozen 7
          have HF2 : Hid (FIN = _) := Lib.hid (HF.out.trans (docC_z (firstB_n H0.out) (secondB_f Hj.out HP'.out) (y := 93) (if_pos (.inl H93.out))))
          go_wp2
          refine bodyPost_ret (results_ctt rfl rfl (rload_meta ((((((((HR.out.set_ 0 (.int .i64 0)).set_ 1 (.int .i64 0)).set_ 2 (.int .i64 0)).set_ 3 (.int .i64 0)).set_ 4 (.int .i64 0)).set_ 5 (.int .i64 0)).set_ 6 (.int .i64 0)).set_ 7 (.slice none 0 0)))) rfl ?_
          rw [HF2.out]
          exact ⟨0, 0, 0, 0, 0, 0, 0, none, 0, 0, rfl, rfl, rfl, Src.nil_ _, ((((((((HO.out.setCell (p := ⟨w.heap.size, 0, none⟩) (Nat.le_refl _) (.int .i64 0)).setCell (p := ⟨w.heap.size, 1, none⟩) (Nat.le_refl _) (.int .i64 0)).setCell (p := ⟨w.heap.size, 2, none⟩) (Nat.le_refl _) (.int .i64 0)).setCell (p := ⟨w.heap.size, 3, none⟩) (Nat.le_refl _) (.int .i64 0)).setCell (p := ⟨w.heap.size, 4, none⟩) (Nat.le_refl _) (.int .i64 0)).setCell (p := ⟨w.heap.size, 5, none⟩) (Nat.le_refl _) (.int .i64 0)).setCell (p := ⟨w.heap.size, 6, none⟩) (Nat.le_refl _) (.int .i64 0)).setCell (p := ⟨w.heap.size, 7, none⟩) (Nat.le_refl _) (.slice none 0 0))⟩
        · have B93 : (aE == 93) = false := by rw [beq_eq_false_iff_ne]; exact h93
          have H93 := Lib.hid h93
          clear h93
          obtain ⟨r0, r1, r2, r3, r4, r5, r6, r7⟩ := HR.out.eight
          have z0 := HR.out.frozen 0
          have z1 := HR.out.frozen 1
          have z2 := HR.out.frozen 2
          have z3 := HR.out.frozen 3
          have z4 := HR.out.frozen 4
          have z5 := HR.out.frozen 5
          have z6 := HR.out.frozen 6
          have z7 := HR.out.frozen 7
          have HF2 : Hid (FIN = _) := Lib.hid (HF.out.trans (docC_z (firstB_n H0.out) (secondB_f Hj.out HP'.out) (y := 92) (if_neg (fun h => by rcases h with h | h; (exact H93.out h); (exact (fun e => by have := H0'.out; omega) h)))))
          go_wp2
          refine bodyPost_ret (results_ctt rfl rfl (rload_meta ((((((((HR.out.set_ 0 (.int .i64 0)).set_ 1 (.int .i64 0)).set_ 2 (.int .i64 0)).set_ 3 (.int .i64 0)).set_ 4 (.int .i64 0)).set_ 5 (.int .i64 0)).set_ 6 (.int .i64 0)).set_ 7 (.slice none 0 0)))) rfl ?_
          rw [HF2.out]
          exact ⟨0, 0, 0, 0, 0, 0, 0, none, 0, 0, rfl, rfl, rfl, Src.nil_ _, ((((((((HO.out.setCell (p := ⟨w.heap.size, 0, none⟩) (Nat.le_refl _) (.int .i64 0)).setCell (p := ⟨w.heap.size, 1, none⟩) (Nat.le_refl _) (.int .i64 0)).setCell (p := ⟨w.heap.size, 2, none⟩) (Nat.le_refl _) (.int .i64 0)).setCell (p := ⟨w.heap.size, 3, none⟩) (Nat.le_refl _) (.int .i64 0)).setCell (p := ⟨w.heap.size, 4, none⟩) (Nat.le_refl _) (.int .i64 0)).setCell (p := ⟨w.heap.size, 5, none⟩) (Nat.le_refl _) (.int .i64 0)).setCell (p := ⟨w.heap.size, 6, none⟩) (Nat.le_refl _) (.int .i64 0)).setCell (p := ⟨w.heap.size, 7, none⟩) (Nat.le_refl _) (.slice none 0 0))⟩
    · have B' : (bE == 0) = false := by rw [beq_eq_false_iff_ne]; exact h0'
      have H0' := Lib.hid h0'
      clear h0'
      by_cases h93 : aE = 93
      · have B93 : (aE == 93) = true := by rw [beq_iff_eq]; exact h93
        have H93 := Lib.hid h93
        clear h93
        obtain ⟨r0, r1, r2, r3, r4, r5, r6, r7⟩ := HR.out.eight
        have z0 := HR.out.frozen 0
        have z1 := HR.out.frozen 1
        have z2 := HR.out.frozen 2
        have z3 := HR.out.frozen 3
        have z4 := HR.out.frozen 4
        have z5 := HR.out.frozen 5
        have z6 := HR.out.frozen 6
        have z7 := HR.out.frozen 7
        have HF2 : Hid (FIN = _) := Lib.hid (HF.out.trans (docC_z (firstB_n H0.out) (secondB_n H0'.out) (y := 93) (if_pos (.inl H93.out))))
        go_wp2
        refine bodyPost_ret (results_ctt rfl rfl (rload_meta ((((((((HR.out.set_ 0 (.int .i64 0)).set_ 1 (.int .i64 0)).set_ 2 (.int .i64 0)).set_ 3 (.int .i64 0)).set_ 4 (.int .i64 0)).set_ 5 (.int .i64 0)).set_ 6 (.int .i64 0)).set_ 7 (.slice none 0 0)))) rfl ?_
        rw [HF2.out]
        exact ⟨0, 0, 0, 0, 0, 0, 0, none, 0, 0, rfl, rfl, rfl, Src.nil_ _, ((((((((HO.out.setCell (p := ⟨w.heap.size, 0, none⟩) (Nat.le_refl _) (.int .i64 0)).setCell (p := ⟨w.heap.size, 1, none⟩) (Nat.le_refl _) (.int .i64 0)).setCell (p := ⟨w.heap.size, 2, none⟩) (Nat.le_refl _) (.int .i64 0)).setCell (p := ⟨w.heap.size, 3, none⟩) (Nat.le_refl _) (.int .i64 0)).setCell (p := ⟨w.heap.size, 4, none⟩) (Nat.le_refl _) (.int .i64 0)).setCell (p := ⟨w.heap.size, 5, none⟩) (Nat.le_refl _) (.int .i64 0)).setCell (p := ⟨w.heap.size, 6, none⟩) (Nat.le_refl _) (.int .i64 0)).setCell (p := ⟨w.heap.size, 7, none⟩) (Nat.le_refl _) (.slice none 0 0))⟩
      · have B93 : (aE == 93) = false := by rw [beq_eq_false_iff_ne]; exact h93
        have H93 := Lib.hid h93
        clear h93
        by_cases h93' : bE = 93
        · have B'93 : (bE == 93) = true := by rw [beq_iff_eq]; exact h93'
          have H93' := Lib.hid h93'
          clear h93'
          obtain ⟨r0, r1, r2, r3, r4, r5, r6, r7⟩ := HR.out.eight
          have z0 := HR.out.frozen 0
          have z1 := HR.out.frozen 1
          have z2 := HR.out.frozen 2
          have z3 := HR.out.frozen 3
          have z4 := HR.out.frozen 4
          have z5 := HR.out.frozen 5
          have z6 := HR.out.frozen 6
          have z7 := HR.out.frozen 7
          have HF2 : Hid (FIN = _) := Lib.hid (HF.out.trans (docC_z (firstB_n H0.out) (secondB_n H0'.out) (y := 93) (if_pos (.inr H93'.out))))
          go_wp2
          refine bodyPost_ret (results_ctt rfl rfl (rload_meta ((((((((HR.out.set_ 0 (.int .i64 0)).set_ 1 (.int .i64 0)).set_ 2 (.int .i64 0)).set_ 3 (.int .i64 0)).set_ 4 (.int .i64 0)).set_ 5 (.int .i64 0)).set_ 6 (.int .i64 0)).set_ 7 (.slice none 0 0)))) rfl ?_
          rw [HF2.out]
          exact ⟨0, 0, 0, 0, 0, 0, 0, none, 0, 0, rfl, rfl, rfl, Src.nil_ _, ((((((((HO.out.setCell (p := ⟨w.heap.size, 0, none⟩) (Nat.le_refl _) (.int .i64 0)).setCell (p := ⟨w.heap.size, 1, none⟩) (Nat.le_refl _) (.int .i64 0)).setCell (p := ⟨w.heap.size, 2, none⟩) (Nat.le_refl _) (.int .i64 0)).setCell (p := ⟨w.heap.size, 3, none⟩) (Nat.le_refl _) (.int .i64 0)).setCell (p := ⟨w.heap.size, 4, none⟩) (Nat.le_refl _) (.int .i64 0)).setCell (p := ⟨w.heap.size, 5, none⟩) (Nat.le_refl _) (.int .i64 0)).setCell (p := ⟨w.heap.size, 6, none⟩) (Nat.le_refl _) (.int .i64 0)).setCell (p := ⟨w.heap.size, 7, none⟩) (Nat.le_refl _) (.slice none 0 0))⟩
        · have B'93 : (bE == 93) = false := by rw [beq_eq_false_iff_ne]; exact h93'
          have H93' := Lib.hid h93'
          clear h93'
          obtain ⟨r0, r1, r2, r3, r4, r5, r6, r7⟩ := HR.out.eight
          have z0 := HR.out.frozen 0
          have z1 := HR.out.frozen 1
          have z2 := HR.out.frozen 2
          have z3 := HR.out.frozen 3
          have z4 := HR.out.frozen 4
          have z5 := HR.out.frozen 5
          have z6 := HR.out.frozen 6
          have z7 := HR.out.frozen 7
          have HF2 : Hid (FIN = _) := Lib.hid (HF.out.trans (docC_z (firstB_n H0.out) (secondB_n H0'.out) (y := 92) (if_neg (fun h => by rcases h with h | h; (exact H93.out h); (exact H93'.out h)))))
          go_wp2
          refine bodyPost_ret (results_ctt rfl rfl (rload_meta ((((((((HR.out.set_ 0 (.int .i64 0)).set_ 1 (.int .i64 0)).set_ 2 (.int .i64 0)).set_ 3 (.int .i64 0)).set_ 4 (.int .i64 0)).set_ 5 (.int .i64 0)).set_ 6 (.int .i64 0)).set_ 7 (.slice none 0 0)))) rfl ?_
          rw [HF2.out]
          exact ⟨0, 0, 0, 0, 0, 0, 0, none, 0, 0, rfl, rfl, rfl, Src.nil_ _, ((((((((HO.out.setCell (p := ⟨w.heap.size, 0, none⟩) (Nat.le_refl _) (.int .i64 0)).setCell (p := ⟨w.heap.size, 1, none⟩) (Nat.le_refl _) (.int .i64 0)).setCell (p := ⟨w.heap.size, 2, none⟩) (Nat.le_refl _) (.int .i64 0)).setCell (p := ⟨w.heap.size, 3, none⟩) (Nat.le_refl _) (.int .i64 0)).setCell (p := ⟨w.heap.size, 4, none⟩) (Nat.le_refl _) (.int .i64 0)).setCell (p := ⟨w.heap.size, 5, none⟩) (Nat.le_refl _) (.int .i64 0)).setCell (p := ⟨w.heap.size, 6, none⟩) (Nat.le_refl _) (.int .i64 0)).setCell (p := ⟨w.heap.size, 7, none⟩) (Nat.le_refl _) (.slice none 0 0))⟩
end
theorem rmChoose_c (w : World) (v u : Value) (a b : Bytes) (ha : Src w v a) (hb : Src w u b) : Calls Tryz.prog 57 #[v, u] w (GaveRC w (docC (mdM a) (mdM b) (mdX a) (mdX b) (mdE a) (mdE b))) := by
  refine rch_go w v u _ _ _ _ _ _ (fun W hW => rmDecode_c W v a (ha.later hW)) (fun W hW => rmDecode_c W u b (hb.later hW)) (fun h => ?_) (fun h => ?_)
  · obtain ⟨k, h1, _, _⟩ := md_get h
    exact ⟨k, h1⟩
  · obtain ⟨k, h1, _, _⟩ := md_get h
    exact ⟨k, h1⟩
end Go.Proofs.YtopaponemjaenaaGreatDoor
