/-
  Metas: what the document's Decode answers.
-/
import Derived.Test.YtopaponemjaenaaGreatDoorMdo
set_option linter.unusedVariables false
namespace Go.Proofs.YtopaponemjaenaaGreatDoor
open Go.RowKit

set_option maxRecDepth 100000 in
set_option maxHeartbeats 3200000 in
theorem rd9_len (w : World) (A : Option Addr) (n c : Nat) (hn : n ≠ 256) : Calls Tryz.prog 77 #[.slice A n c] w (GaveRD w [0, 0, 0, 0, 0, 0, 0] [] 90) := by
  obtain ⟨w1, hw1⟩ : ∃ W0, W0 = w.alloc (.cells #[.int .i64 0, .int .i64 0, .int .i64 0, .int .i64 0, .int .i64 0, .int .i64 0, .int .i64 0, .slice none 0 0] 25) := ⟨_, rfl⟩
  have HO : Hid (Only (w.heap.size ≤ ·) w w1) := Lib.hid (by rw [hw1]; exact (Only.refl _ w).alloc (fun _ h => h) _)
  have HR : Hid (Blk w1 w.heap.size 25 [.int .i64 0, .int .i64 0, .int .i64 0, .int .i64 0, .int .i64 0, .int .i64 0, .int .i64 0, .slice none 0 0]) := Lib.hid (by rw [hw1]; exact Blk.new w 25 _)
  have e1 : ((n : Int) != 256) = true := by rw [bne_iff_ne]; omega
  clear hn
  go_enter Tryz.func77, Tryz.ntmps77
  go_upto_region 1 with (fail)
  rw [← hw1]
  clear hw1
  go_upto_region 2 with (fail)
  clear e1
  obtain ⟨r0, r1, r2, r3, r4, r5, r6, r7⟩ := HR.out.eight
  have z0 := HR.out.frozen 0
  have z1 := HR.out.frozen 1
  have z2 := HR.out.frozen 2
  have z3 := HR.out.frozen 3
  have z4 := HR.out.frozen 4
  have z5 := HR.out.frozen 5
  have z6 := HR.out.frozen 6
  have z7 := HR.out.frozen 7
  go_wp2
  refine bodyPost_ret (results_cell_tmp rfl rfl (rload_meta ((((((((HR.out.set_ 0 (.int .i64 0)).set_ 1 (.int .i64 0)).set_ 2 (.int .i64 0)).set_ 3 (.int .i64 0)).set_ 4 (.int .i64 0)).set_ 5 (.int .i64 0)).set_ 6 (.int .i64 0)).set_ 7 (.slice none 0 0)))) rfl ?_
  exact ⟨0, 0, 0, 0, 0, 0, 0, none, 0, 0, rfl, rfl, rfl, Src.nil_ _, ((((((((HO.out.setCell (p := ⟨w.heap.size, 0, none⟩) (Nat.le_refl _) (.int .i64 0)).setCell (p := ⟨w.heap.size, 1, none⟩) (Nat.le_refl _) (.int .i64 0)).setCell (p := ⟨w.heap.size, 2, none⟩) (Nat.le_refl _) (.int .i64 0)).setCell (p := ⟨w.heap.size, 3, none⟩) (Nat.le_refl _) (.int .i64 0)).setCell (p := ⟨w.heap.size, 4, none⟩) (Nat.le_refl _) (.int .i64 0)).setCell (p := ⟨w.heap.size, 5, none⟩) (Nat.le_refl _) (.int .i64 0)).setCell (p := ⟨w.heap.size, 6, none⟩) (Nat.le_refl _) (.int .i64 0)).setCell (p := ⟨w.heap.size, 7, none⟩) (Nat.le_refl _) (.slice none 0 0))⟩
theorem rmDecode_c (w : World) (v : Value) (b : Bytes) (hs : Src w v b) : Calls Tryz.prog 77 #[v] w (GaveRD w (mdM b) (mdX b) (mdE b)) := by
  have hE := rdE_eq b
  unfold rdE at hE
  obtain ⟨A, c, rfl, ht, _, hc, _⟩ := id hs
  by_cases h0 : markedB b = false
  · rw [if_pos h0] at hE
    obtain ⟨n1, n2⟩ := md_no (b := b) (by rw [← hE]; decide)
    rw [n1, n2, ← hE]
    by_cases hl : b.length = 256
    · obtain ⟨bl, o, rfl⟩ : ∃ bl o, A = some ⟨bl, o, none⟩ := by
        obtain ⟨ad, ea, hcell⟩ := ht.2 (by omega)
        have e0 := ht.src ad ea 0 (.int .u8 (b[0]'(by omega)).toNat) (by unfold cb; rw [List.getElem?_map, List.getElem?_eq_getElem (by omega)]; rfl)
        have ee : ad.add 0 = ad := by cases ad; simp [Addr.add]
        rw [ee] at e0
        exact ⟨_, _, ea.trans (congrArg some (spotF e0))⟩
      rw [hl] at hs hc ⊢
      by_cases hm : b.take 4 = mark4
      · by_cases ht4 : (b.drop 248).take 4 = tail4
        · exfalso
          unfold markedB at h0
          rw [decide_eq_true hl, decide_eq_true hm, decide_eq_true ht4] at h0
          cases h0
        · exact rd9_t w bl o c b hs hc hm ht4
      · exact rd9_m w bl o c b hs hc hm
    · exact rd9_len w A _ c hl
  rw [if_neg h0] at hE
  have hm : markedB b = true := by simpa using h0
  unfold markedB at hm
  simp only [Bool.and_eq_true, decide_eq_true_eq] at hm
  obtain ⟨hl, hm1, hm2⟩ := hm
  obtain ⟨bl, o, rfl⟩ : ∃ bl o, A = some ⟨bl, o, none⟩ := by
    obtain ⟨ad, ea, hcell⟩ := ht.2 (by omega)
    have e0 := ht.src ad ea 0 (.int .u8 (b[0]'(by omega)).toNat) (by unfold cb; rw [List.getElem?_map, List.getElem?_eq_getElem (by omega)]; rfl)
    have ee : ad.add 0 = ad := by cases ad; simp [Addr.add]
    rw [ee] at e0
    exact ⟨_, _, ea.trans (congrArg some (spotF e0))⟩
  rw [hl] at hs hc ⊢
  by_cases h1 : b ≠ put4 b 252
  · rw [if_pos h1] at hE
    obtain ⟨n1, n2⟩ := md_no (b := b) (by rw [← hE]; decide)
    rw [n1, n2, ← hE]
    exact rd9_s w bl o c b hs hc hm1 hm2 h1
  rw [if_neg h1] at hE
  have h1' : b = put4 b 252 := Classical.byContradiction h1
  by_cases h2 : gen (dB b 4 : Int) = true ∧ dB b 6 ≤ 3
  · rw [if_neg (fun h => h h2)] at hE
    have key : ∀ e w', ((DocOk b ∧ GaveRD w (dM b) (dX b) 0 e w') ∨ (¬ DocOk b ∧ GaveRD w [0, 0, 0, 0, 0, 0, 0] [] 92 e w')) → GaveRD w (mdM b) (mdX b) (mdE b) e w' := fun e w' h => by
      rcases h with ⟨hd, h⟩ | ⟨hd, h⟩
      · obtain ⟨e1, e2⟩ := (doc_iff b).2 hd
        rw [e1, e2, (doc_iff b).1.1 hd]
        exact h
      · have hne : ¬ mdE b = 0 := fun e => hd ((doc_iff b).1.2 e)
        rw [if_neg hne] at hE
        obtain ⟨n1, n2⟩ := md_no hne
        rw [n1, n2, ← hE]
        exact h
    have hk48 : tr (dB b 4 : Int) 4 8 8 = 4 ∨ tr (dB b 4 : Int) 4 8 8 = 8 := by
      have h := h2.1
      unfold gen at h
      rw [decide_eq_true_eq] at h
      unfold tr
      split
      · exact .inl rfl
      · split
        · exact .inr rfl
        · exact .inr (by rw [if_pos (by omega)])
    rcases hk48 with hk | hk
    · exact (rd9_go4 w bl o c b hs hc hm1 hm2 h1' h2 hk).mono key
    · exact (rd9_go8 w bl o c b hs hc hm1 hm2 h1' h2 hk).mono key
  · rw [if_pos h2] at hE
    obtain ⟨n1, n2⟩ := md_no (b := b) (by rw [← hE]; decide)
    rw [n1, n2, ← hE]
    exact rd9_g w bl o c b hs hc hm1 hm2 h1' h2
end Go.Proofs.YtopaponemjaenaaGreatDoor
