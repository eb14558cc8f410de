/-
  Runs of the document.
-/
import Derived.Test.YtmadlckladohbaaGreatBits
import Derived.Test.YtmadlckladohbaaGreatRunp
import Derived.RangeFuncBox
import Derived.Laws.OwnMore
import Derived.Deep.AppendLies
set_option linter.unusedVariables false
namespace Go.Proofs.YtmadlckladohbaaGreat
open Go.RowKit

theorem rc_set : ∀ (l : List R) (k : Nat) (x : R) (y : Int), l[k]? = some x → rc (l.set k (x.1, y)) = (rc l).set (k * 2 + 1) (.int .i64 y)
  | [], k, x, y, h => by simp at h
  | z :: l, 0, x, y, h => by simp at h; subst h; rfl
  | z :: l, k + 1, x, y, h => by
    rw [List.set_cons_succ, rc_cons, rc_cons, show (k + 1) * 2 + 1 = k * 2 + 1 + 1 + 1 by omega, List.set_cons_succ, List.set_cons_succ, rc_set l k x y (by simpa using h)]
theorem own_set {w : World} {B : Nat} {t : TypeId} {g n cap : Nat} {xs : List Value} (h : w.ownsRow B t 2 (.slice (some ⟨g, 0, none⟩) n cap) n xs) (i : Nat) (u : Value) :
    (w.setCell ⟨g, i, none⟩ u).ownsRow B t 2 (.slice (some ⟨g, 0, none⟩) n cap) n (xs.set i u) := by
  obtain ⟨h1, h2⟩ := h
  refine ⟨by rw [List.length_set]; exact h1, ?_⟩
  rcases h2 with ⟨e, _⟩ | ⟨g', cap', cur, e, hb, hg, hn, hm, hs, ht⟩
  · cases e
  · simp only [Value.slice.injEq, Option.some.injEq, Addr.mk.injEq, and_true, true_and] at e
    obtain ⟨rfl, rfl⟩ := e
    refine .inr ⟨g, cap, (cur.toList.set i u).toArray, rfl, hb, ?_, hn, hm, by simpa using hs, ?_⟩
    · have := Blk.set_ (w := w) (g := g) (t := t) (cs := cur.toList) (by unfold Blk; simpa using hg) i u
      exact this
    · rw [← ht]
      simp [List.take_set]
theorem Own.set_ {w : World} {B : Nat} {t : TypeId} {g n cap : Nat} {l : List R} (h : w.ownsRow B t 2 (.slice (some ⟨g, 0, none⟩) n cap) n (rc l)) {k : Nat} {x : R} (hx : l[k]? = some x) (y : Int) :
    (w.setCell ⟨g, k * 2 + 1, none⟩ (.int .i64 y)).ownsRow B t 2 (.slice (some ⟨g, 0, none⟩) n cap) n (rc (l.set k (x.1, y))) := by
  rw [rc_set l k x y hx]
  exact own_set h _ _

theorem appended {w' : World} {B : Nat} {t : TypeId} {g' N cap' : Nat} {u : List R} {a b : Int} (h : w'.ownsRow B t 2 (.slice (some ⟨g', 0, none⟩) (N + 1) cap') (N + 1) (rc u ++ rc [(a, b)])) (hN : N = u.length) :
    w'.cell? ⟨g', N * 2 + 1, none⟩ = some (.int .i64 b) ∧ w'.frozen? ⟨g', N * 2 + 1, none⟩ = false ∧ (∀ y, (w'.setCell ⟨g', N * 2 + 1, none⟩ (.int .i64 y)).ownsRow B t 2 (.slice (some ⟨g', 0, none⟩) (N + 1) cap') (N + 1) (rc (u ++ [(a, y)]))) ∧ B ≤ g' := by
  rw [← rc_append] at h
  have hx : (u ++ [(a, b)])[N]? = some (a, b) := by subst hN; simp
  refine ⟨by rw [h.cellAt _ (by omega)]; exact rc_get1 hx, h.frozenAt _, fun y => ?_, (World.ownsRow.lt h g' rfl).1⟩
  have := Own.set_ h hx y
  rwa [show (u ++ [(a, b)]).set N (a, y) = u ++ [(a, y)] by subst hN; simp] at this
theorem snoc_val {l : List R} {n : Nat} (hn : n = l.length) (a b c : Int) : ((l ++ [(a, b)])[n]? = some (a, b)) ∧ (l ++ [(a, b)]).set n (a, c) = l ++ [(a, c)] := by
  subst hn
  simp

set_option maxRecDepth 100000 in
set_option maxHeartbeats 6400000 in
theorem Runs_c (w : World) (g c m : Nat) (f : Nat → Bool) (rest : List Value) (h : Blk w g 4 (bf f m ++ rest)) (hm : m ≤ 32768) :
    Calls Tryz.prog 54 #[.slice (some ⟨g, 0, none⟩) m c] w (Makes w 44 (runsOf f m)) := by
  obtain ⟨i0, hi0, hz0, hz1, hz2⟩ := info_parts infoRef
  have HI := Lib.hid (And.intro hi0 (And.intro hz0 (And.intro hz1 hz2)))
  have hg := h.lt
  have HKEEP : Hid (∀ W : World, Only (w.heap.size ≤ ·) w W → ∀ q, q < m → W.cell? ⟨g, q, none⟩ = some (.bool (f q))) := fun W hW q hq => by
    rw [(h.later hW).cell, List.getElem?_append_left (by rw [bf_length]; exact hq), bf_get f hq]
  clear h hi0 hz0 hz1 hz2
  go_enter Tryz.func54, Tryz.ntmps54
  go_wp2
  go_loopw [3, 4] (fun s i wr => ∃ (k N : Nat) (v : Value), k ≤ m ∧ N ≤ k ∧ s = v ∧ i = .int .i64 k ∧ Hid (N = (runsOf f k).length) ∧ Hid (wr.ownsRow w.heap.size 44 2 v N (rc (runsOf f k))) ∧ Only (w.heap.size ≤ ·) w wr) (fun _ i _ => m - (intOf i).toNat)
  case atStart => exact ⟨0, 0, _, Nat.zero_le _, Nat.le_refl _, rfl, rfl, rfl, Own.nil_ _ _ _, Only.refl _ _⟩
  case round =>
    obtain ⟨k, N, v, hk, hNk, rfl, rfl, HNl, HW, ho⟩ := hrel
    have HO := Lib.hid ho
    clear ho
    by_cases hlt : k < m
    · have hq := HKEEP.out _ HO.out k hlt
      have hn' : (k : Int) < (m : Int) := by omega
      have hk0 : (0 : Int) ≤ (k : Int) := by omega
      obtain ⟨b, hb⟩ : ∃ b, b = f k := ⟨_, rfl⟩
      have HFK := Lib.hid hb
      rw [← hb] at hq
      clear hb
      cases b
      · have HR : Hid (runsOf f (k + 1) = runsOf f k) := by show _ = _; rw [runsOf, if_neg (by rw [← HFK.out]; decide)]
        go_wp2
        go_roundw
        case rel => exact ⟨k + 1, N, _, by omega, by omega, rfl, by go_num, by rw [HR.out]; exact HNl, by rw [HR.out]; exact HW, HO.out⟩
        case measure => simp [intOf]; omega
      · obtain ⟨nw, hnw⟩ : ∃ nw, nw = decide (k ≠ 0 ∧ f (k - 1) = true) := ⟨_, rfl⟩
        have HNW := Lib.hid hnw
        clear hnw
        cases nw
        · have HR : Hid (runsOf f (k + 1) = runsOf f k ++ [((k : Int), 1)]) := by
            show _ = _
            rw [runsOf, if_pos HFK.out.symm, if_neg (by simpa using HNW.out.symm)]
          have HB : Hid (Blk (wr.alloc (.cells #[.int .i64 k, .int .i64 0] 44)) wr.heap.size 44 [.int .i64 (k : Int), .int .i64 0]) := Blk.new wr _ _
          by_cases hz : k = 0
          · have hb0 : ((k : Int) == 0) = true := beq_iff_eq.2 (by omega)
            clear hz
            go_wp2_with (at_builtin; refine wpList_append_own _ rfl (.tmp 27) (.tmp 30) 22 rfl w.heap.size 44 i0 z2 2 16 Tryz.underlying22 HI.out.1 HI.out.2.1 HI.out.2.2.1 HI.out.2.2.2 (by rfl) (by omega) _ N (rc (runsOf f k)) rfl (World.ownsRow.alloc HW.out _) ⟨wr.heap.size, 0, none⟩ 1 1 (rc [((k : Int), 0)]) rfl rfl (fun j u hu => by rw [Addr.add_lit, HB.out.cell, Nat.zero_add]; exact hu) (rc_one _) (by simp only [maxLen]; omega) (by omega) (by have := HO.out.size; simp; omega) ?_; intro v' w' ho' hg' _; have HO' := Lib.hid ((HO.out.alloc (fun _ h => h) (.cells #[.int .i64 k, .int .i64 0] 44)).grown hg' (fun _ h => h) (fun g hg => (World.ownsRow.lt HW.out g hg).1)); obtain ⟨g', cap', rfl⟩ := ownsRow_succ ho'; obtain ⟨hcA, hfz, hn1, hg1⟩ := appended ho' HNl.out; have HN := Lib.hid (hn1 1); have HG := Lib.hid hg1; have hq' := (HKEEP.out _ HO'.out k hlt).trans (congrArg (fun b => some (Value.bool b)) HFK.out.symm); clear ho' hg' hn1 hg1)
            go_roundw
            case rel => exact ⟨k + 1, N + 1, _, by omega, by omega, rfl, by go_num, Lib.hid (by rw [HR.out, List.length_append, ← HNl.out]; rfl), Lib.hid (by rw [HR.out]; exact HN.out), HO'.out.setCell (p := ⟨g', N * 2 + 1, none⟩) HG.out _⟩
            case measure => simp [intOf]; omega
          · have hb0 : ((k : Int) == 0) = false := beq_eq_false_iff_ne.2 (by omega)
            have hf1 : f (k - 1) = false := by
              have := HNW.out
              simpa [hz] using this
            have hq1 := HKEEP.out _ HO.out (k - 1) (by omega)
            rw [hf1] at hq1
            have HF1 := Lib.hid hf1
            have a1 : (1 : Int) ≤ (k : Int) := by omega
            have a0 : (0 : Int) ≤ (k : Int) - 1 := by omega
            have a2 : (k : Int) - 1 < (m : Int) := by omega
            have an : ((k : Int) - 1).toNat = k - 1 := by omega
            clear hz hf1
            go_wp2_with (at_builtin; refine wpList_append_own _ rfl (.tmp 27) (.tmp 30) 22 rfl w.heap.size 44 i0 z2 2 16 Tryz.underlying22 HI.out.1 HI.out.2.1 HI.out.2.2.1 HI.out.2.2.2 (by rfl) (by omega) _ N (rc (runsOf f k)) rfl (World.ownsRow.alloc HW.out _) ⟨wr.heap.size, 0, none⟩ 1 1 (rc [((k : Int), 0)]) rfl rfl (fun j u hu => by rw [Addr.add_lit, HB.out.cell, Nat.zero_add]; exact hu) (rc_one _) (by simp only [maxLen]; omega) (by omega) (by have := HO.out.size; simp; omega) ?_; intro v' w' ho' hg' _; have HO' := Lib.hid ((HO.out.alloc (fun _ h => h) (.cells #[.int .i64 k, .int .i64 0] 44)).grown hg' (fun _ h => h) (fun g hg => (World.ownsRow.lt HW.out g hg).1)); obtain ⟨g', cap', rfl⟩ := ownsRow_succ ho'; obtain ⟨hcA, hfz, hn1, hg1⟩ := appended ho' HNl.out; have HN := Lib.hid (hn1 1); have HG := Lib.hid hg1; have hq' := (HKEEP.out _ HO'.out k hlt).trans (congrArg (fun b => some (Value.bool b)) HFK.out.symm); clear ho' hg' hn1 hg1)
            go_roundw
            case rel => exact ⟨k + 1, N + 1, _, by omega, by omega, rfl, by go_num, Lib.hid (by rw [HR.out, List.length_append, ← HNl.out]; rfl), Lib.hid (by rw [HR.out]; exact HN.out), HO'.out.setCell (p := ⟨g', N * 2 + 1, none⟩) HG.out _⟩
            case measure => simp [intOf]; omega
        · have hpr : k ≠ 0 ∧ f (k - 1) = true := by simpa using HNW.out.symm
          have HR : Hid (runsOf f (k + 1) = bump (runsOf f k)) := by
            show _ = _
            rw [runsOf, if_pos HFK.out.symm, if_pos hpr]
          have hb0 : ((k : Int) == 0) = false := beq_eq_false_iff_ne.2 (by omega)
          have hq1 := HKEEP.out _ HO.out (k - 1) (by omega)
          rw [hpr.2] at hq1
          have hN1 : 1 ≤ N := by
            have := runsOf_len f (k - 1) hpr.2
            rw [Nat.sub_add_cancel (by omega), ← HNl.out] at this
            exact this
          have a1 : (1 : Int) ≤ (k : Int) := by omega
          have a0 : (0 : Int) ≤ (k : Int) - 1 := by omega
          have a2 : (k : Int) - 1 < (m : Int) := by omega
          have an : ((k : Int) - 1).toNat = k - 1 := by omega
          have b1 : (1 : Int) ≤ (N : Int) := by omega
          have b0 : (0 : Int) ≤ (N : Int) - 1 := by omega
          have b2 : (N : Int) - 1 < (N : Int) := by omega
          have bn : ((N : Int) - 1).toNat = N - 1 := by omega
          obtain ⟨x, hx⟩ : ∃ x, (runsOf f k)[N - 1]? = some x := ⟨_, List.getElem?_eq_getElem (by rw [← HNl.out]; omega)⟩
          have hmx := (may_iff x).1 (right_may (runsOf_row f k (by omega)).1 x (List.mem_of_getElem? hx))
          obtain ⟨g', cap', rfl, hg1, hg2⟩ := World.ownsRow.form HW.out (by omega)
          have hcA : wr.cell? ⟨g', (N - 1) * 2 + 1, none⟩ = some (.int .i64 x.2) := by rw [HW.out.cellAt _ (by omega)]; exact rc_get1 hx
          have hfz := HW.out.frozenAt ((N - 1) * 2 + 1)
          have HBP : Hid (bump (runsOf f k) = (runsOf f k).set (N - 1) (x.1, x.2 + 1)) := by
            show _ = _
            unfold bump
            rw [← HNl.out, lastOf_get (x := x) (k := N - 1) (by rw [← HNl.out]; omega) hx]
          have HN := Lib.hid (Own.set_ HW.out hx (x.2 + 1))
          have HBL := Lib.hid (bump_len (runsOf f k))
          obtain ⟨x1, x2⟩ := x
          simp only at hmx hcA
          clear hpr hx
          go_wp2
          go_roundw
          case rel => exact ⟨k + 1, N, _, by omega, by omega, rfl, by go_num, Lib.hid (by rw [HR.out, HBL.out]; exact HNl.out), Lib.hid (by rw [HR.out, HBP.out]; exact HN.out), HO.out.setCell (p := ⟨g', (N - 1) * 2 + 1, none⟩) hg1 _⟩
          case measure => simp [intOf]; omega
    · obtain rfl : k = m := by omega
      have hkm : ¬ (k : Int) < (k : Int) := by omega
      go_wp2
      go_ret
      exact ⟨_, rfl, by unfold Own; rw [← HNl.out]; exact HW.out, HO.out⟩
end Go.Proofs.YtmadlckladohbaaGreat
