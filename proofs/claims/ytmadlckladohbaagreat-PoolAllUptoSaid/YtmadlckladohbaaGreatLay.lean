/-
  lay of the program.
-/
import Derived.Test.YtmadlckladohbaaGreatMeet
import Derived.Lib.SmallJoins
set_option linter.unusedVariables false
namespace Go.Proofs.YtmadlckladohbaaGreat
open Go.RowKit

theorem own_later {w W : World} {B s n : Nat} {t : TypeId} {v : Value} {xs : List Value} (h : w.ownsRow B t s v n xs) (ho : Only (w.heap.size ≤ ·) w W) : W.ownsRow B t s v n xs :=
  World.ownsRow.kept h (row := none) ⟨ho.os, ho.tape, ho.output, ho.size, fun k hk _ => ho.block k (Nat.not_le.2 hk)⟩ (by cases hv : v.ownBlock <;> simp)
/-- A row of the call's own, with n runs. -/
def OwnN (w : World) (B : Nat) (v : Value) (n : Nat) (l : List R) : Prop := n = l.length ∧ w.ownsRow B 54 2 v n (rc l)
theorem OwnN.later {w W : World} {B n : Nat} {v : Value} {l : List R} (h : OwnN w B v n l) (ho : Only (w.heap.size ≤ ·) w W) : OwnN W B v n l := ⟨h.1, own_later h.2 ho⟩
theorem OwnN.own {w : World} {B n : Nat} {v : Value} {l : List R} (h : OwnN w B v n l) : Own w B 54 v l := by
  obtain ⟨rfl, h⟩ := h; exact h
theorem OwnN.rs {w : World} {B n c : Nat} {A : Option Addr} {l : List R} (h : OwnN w B (.slice A n c) n l) : Rs w A l ∧ n ≤ c ∧ c ≤ 9223372036854775807 := by
  obtain ⟨A', c', e, hr, _, hc, hm⟩ := h.own.row
  simp only [Value.slice.injEq] at e
  obtain ⟨rfl, hn, rfl⟩ := e
  exact ⟨hr, by omega, hm⟩
theorem OwnN.cell {w : World} {B n g c k : Nat} {l : List R} {q : R} (h : OwnN w B (.slice (some ⟨g, 0, none⟩) n c) n l) (hq : l[k]? = some q) : w.cell? ⟨g, k * 2 + 1, none⟩ = some (.int .i64 q.2) ∧ w.frozen? ⟨g, k * 2 + 1, none⟩ = false := by
  have hk := (List.getElem?_eq_some_iff.1 hq).1
  exact ⟨by rw [h.2.cellAt _ (by have := h.1; omega)]; exact rc_get1 hq, h.2.frozenAt _⟩
theorem OwnN.put {w : World} {B n g c k : Nat} {l : List R} {q : R} (h : OwnN w B (.slice (some ⟨g, 0, none⟩) n c) n l) (hq : l[k]? = some q) (y : Int) : OwnN (w.setCell ⟨g, k * 2 + 1, none⟩ (.int .i64 y)) B (.slice (some ⟨g, 0, none⟩) n c) n (l.set k (q.1, y)) :=
  ⟨by rw [List.length_set]; exact h.1, Own.set_ h.2 hq y⟩
def Lays (w : World) (B : Nat) (l : List R) (e : Ending) (w' : World) : Prop := ∃ v n, e = .returned v ∧ OwnN w' B v n l ∧ Only (B ≤ ·) w w'

theorem lay_nil (x : R) : lay [] x = [x] := rfl
theorem lay_far {l : List R} {r x : R} (h : l.getLast? = some r) (hc : r.1 + r.2 < x.1) : lay l x = l ++ [x] := by
  unfold lay; rw [h]; simp only [hc, if_true]
theorem lay_near {l : List R} {r x : R} {k : Nat} (hk : k + 1 = l.length) (h : l[k]? = some r) (hc : ¬ r.1 + r.2 < x.1) : lay l x = l.set k (r.1, max (r.1 + r.2) (x.1 + x.2) - r.1) := by
  have hl : l.getLast? = some r := by rw [List.getLast?_eq_getElem?, ← hk]; simpa using h
  unfold lay
  rw [hl]
  simp only [hc, if_false]
  have hs := snoc_of hl
  have hlen : k = l.dropLast.length := by simp; omega
  conv => rhs; rw [hs, hlen]
  simp

set_option maxRecDepth 100000 in
set_option maxHeartbeats 6400000 in
theorem lay_c (w : World) (B : Nat) (v : Value) (n : Nat) (l : List R) (x : R) (h : OwnN w B v n l) (hB : B ≤ w.heap.size) (hr : right l = true) (hx : may x = true) :
    Calls Tryz.prog 62 #[v, .agg #[.int .i64 x.1, .int .i64 x.2]] w (Lays w B (lay l x)) := by
  obtain ⟨i0, hi0, hz0, hz1, hz2⟩ := info_parts infoRun
  have HI := Lib.hid (And.intro hi0 (And.intro hz0 (And.intro hz1 hz2)))
  clear hi0 hz0 hz1 hz2
  have hmx := (may_iff x).1 hx
  have hnb : n ≤ 32768 := by rw [h.1]; exact right_length hr
  have HL : Hid (∀ (W : World) (A : Option Addr) (c : Nat), OwnN W B (.slice A n c) n l → Calls Tryz.prog 51 #[.slice A n c] W fun e w' => e = .returned (.tuple #[.agg #[.int .i64 (lastOf l).1, .int .i64 (lastOf l).2], .bool (decide (0 < n))]) ∧ Only (W.heap.size ≤ ·) W w') := fun W A c hW => last_c W A n c l hW.rs.1 hW.1.symm (by omega)
  have HH := Lib.hid h
  have HRM := Lib.hid (right_may hr)
  obtain ⟨x1, x2⟩ := x
  simp only at hmx
  have HBX : Hid (Blk (w.alloc (.cells #[.int .i64 x1, .int .i64 x2] 54)) w.heap.size 54 [.int .i64 x1, .int .i64 x2]) := Blk.new w _ _
  have HOX : Hid (Only (w.heap.size ≤ ·) w (w.alloc (.cells #[.int .i64 x1, .int .i64 x2] 54))) := (Only.refl _ w).alloc (fun _ h => h) _
  clear hx
  rcases Nat.eq_zero_or_pos n with h0 | h0
  · subst h0
    obtain rfl : l = [] := List.eq_nil_of_length_eq_zero h.1.symm
    obtain ⟨A, c, rfl⟩ : ∃ A c, v = .slice A 0 c := by
      rcases Joins.ownsRow_forms h.2 with ⟨rfl, _⟩ | ⟨g, cap, rfl⟩ <;> exact ⟨_, _, rfl⟩
    have HL0 : Hid (∀ (W : World), OwnN W B (.slice A 0 c) 0 [] → Calls Tryz.prog 51 #[.slice A 0 c] W fun e w' => e = .returned (.tuple #[.agg #[.int .i64 0, .int .i64 0], .bool false]) ∧ Only (W.heap.size ≤ ·) W w') := fun W hW => HL.out W A c hW
    clear HL h hr
    go_enter Tryz.func62, Tryz.ntmps62
    go_wp2_with (go_at_call 51; refine (HL0.out _ (HH.out.later HOX.out)).mono ?_; rintro e w1 ⟨rfl, ho1⟩; have HO1 := Lib.hid (on_new HOX.out ho1); have hbx := HBX.out.later ho1; have HBX1 := Lib.hid (hbx.alloc (.cells #[.int .i64 0, .int .i64 0] 54)); clear ho1 hbx)
    go_quiet (fail)
    have HOZ : Hid (Only (w.heap.size ≤ ·) w ((w1.alloc (.cells #[.int .i64 0, .int .i64 0] 54)).drewN nq)) := (HO1.out.alloc (fun _ h => h) _).drewN _
    have HHZ := Lib.hid (HH.out.later HOZ.out)
    have HBZ := Lib.hid (HBX1.out.drewN nq)
    obtain ⟨wz, hwz⟩ : ∃ wz, wz = (w1.alloc (.cells #[.int .i64 0, .int .i64 0] 54)).drewN nq := ⟨_, rfl⟩
    rw [← hwz] at HOZ HHZ HBZ ⊢
    have hq1 := HBZ.out.cell 0
    have hq2 := HBZ.out.cell 1
    simp at hq1 hq2
    clear hwz HBX1
    have HBN : Hid (Blk (wz.alloc (.cells #[.int .i64 x1, .int .i64 x2] 54)) wz.heap.size 54 [.int .i64 x1, .int .i64 x2]) := Blk.new wz _ _
    go_wp2_with (at_builtin; refine wpList_append_own _ rfl (.tmp 21) (.tmp 23) 33 rfl B 54 i0 z2 2 16 Tryz.underlying33 HI.out.1 HI.out.2.1 HI.out.2.2.1 HI.out.2.2.2 (by rfl) (by omega) _ 0 (rc []) rfl (World.ownsRow.alloc HHZ.out.2 _) ⟨wz.heap.size, 0, none⟩ 1 1 (rc [(x1, x2)]) rfl rfl (fun j u hu => by rw [Addr.add_lit, HBN.out.cell, Nat.zero_add]; exact hu) (rc_one _) (by simp only [maxLen]; omega) (by omega) (by have := HOZ.out.size; simp; omega) ?_; intro v' w' ho' hg' _; have HN := Lib.hid ho'; have HO' := Lib.hid (((HOZ.out.mono fun k hk => Nat.le_trans hB hk).alloc (fun k hk => Nat.le_trans hB hk) (.cells #[.int .i64 x1, .int .i64 x2] 54)).grown hg' (fun k hk => Nat.le_trans hB hk) (fun g hg => (World.ownsRow.lt HHZ.out.2 g hg).1)); clear ho' hg')
    go_ret
    exact ⟨_, _, rfl, ⟨rfl, HN.out⟩, HO'.out⟩
  · obtain ⟨k, rfl⟩ : ∃ k, n = k + 1 := ⟨n - 1, by omega⟩
    obtain ⟨q, hq⟩ : ∃ q, l[k]? = some q := ⟨_, List.getElem?_eq_getElem (by rw [← h.1]; omega)⟩
    have hmq := (may_iff q).1 (HRM.out q (List.mem_of_getElem? hq))
    have hlast : l.getLast? = some q := by rw [List.getLast?_eq_getElem?, ← h.1]; exact hq
    have HQ : Hid (l[k]? = some q ∧ l.getLast? = some q) := ⟨hq, hlast⟩
    obtain ⟨g, c, rfl⟩ : ∃ g c, v = .slice (some ⟨g, 0, none⟩) (k + 1) c := Joins.ownsRow_form h.2 (by omega)
    have hgB : B ≤ g ∧ g < w.heap.size := World.ownsRow.lt h.2 g rfl
    have HL1 : Hid (∀ (W : World), OwnN W B (.slice (some ⟨g, 0, none⟩) (k + 1) c) (k + 1) l → Calls Tryz.prog 51 #[.slice (some ⟨g, 0, none⟩) (k + 1) c] W fun e w' => e = .returned (.tuple #[.agg #[.int .i64 q.1, .int .i64 q.2], .bool true]) ∧ Only (W.heap.size ≤ ·) W w') := fun W hW => by
      have := HL.out W _ c hW
      rwa [lastOf_some hlast, decide_eq_true h0] at this
    clear HL h hr hq hlast
    obtain ⟨q1, q2⟩ := q
    simp only at hmq HL1
    have HE : Hid (∀ W : World, Calls Tryz.prog 52 #[.agg #[.int .i64 q1, .int .i64 q2]] W fun e w' => e = .returned (.int .i64 (q1 + q2)) ∧ Only (W.heap.size ≤ ·) W w') := fun W => end_c W q1 q2 (by omega) (by omega)
    have HE' : Hid (∀ W : World, Calls Tryz.prog 52 #[.agg #[.int .i64 x1, .int .i64 x2]] W fun e w' => e = .returned (.int .i64 (x1 + x2)) ∧ Only (W.heap.size ≤ ·) W w') := fun W => end_c W x1 x2 (by omega) (by omega)
    go_enter Tryz.func62, Tryz.ntmps62
    go_wp2_with (go_at_call 51; refine (HL1.out _ (HH.out.later HOX.out)).mono ?_; rintro e w1 ⟨rfl, ho1⟩; have HO1 := Lib.hid (on_new HOX.out ho1); have hbx := HBX.out.later ho1; have HBX1 := Lib.hid (hbx.alloc (.cells #[.int .i64 q1, .int .i64 q2] 54)); clear ho1 hbx)
    have HBQ1 : Hid (Blk (w1.alloc (.cells #[.int .i64 q1, .int .i64 q2] 54)) w1.heap.size 54 [.int .i64 q1, .int .i64 q2]) := Blk.new w1 _ _
    have HOZ : Hid (Only (w.heap.size ≤ ·) w (w1.alloc (.cells #[.int .i64 q1, .int .i64 q2] 54))) := HO1.out.alloc (fun _ h => h) _
    obtain ⟨wz, hwz⟩ : ∃ wz, wz = w1.alloc (.cells #[.int .i64 q1, .int .i64 q2] 54) := ⟨_, rfl⟩
    rw [← hwz] at HOZ HBX1 HBQ1 ⊢
    obtain ⟨bx, hbx⟩ : ∃ bx, bx = w.heap.size := ⟨_, rfl⟩
    obtain ⟨bq, hbq⟩ : ∃ bq, bq = w1.heap.size := ⟨_, rfl⟩
    rw [← hbx] at HBX1
    rw [← hbq] at HBQ1
    have HNE : Hid (g ≠ bx ∧ g ≠ bq) := ⟨by omega, by have := HO1.out.size; omega⟩
    have HKEEP : Hid (∀ W : World, Only (wz.heap.size ≤ ·) wz W → W.cell? ⟨bx, 0, none⟩ = some (.int .i64 x1) ∧ W.cell? ⟨bx, 0 + 1, none⟩ = some (.int .i64 x2) ∧ W.cell? ⟨bq, 0, none⟩ = some (.int .i64 q1) ∧ W.cell? ⟨bq, 0 + 1, none⟩ = some (.int .i64 q2)) := fun W hW => ⟨(HBX1.out.later hW).cell 0, (HBX1.out.later hW).cell 1, (HBQ1.out.later hW).cell 0, (HBQ1.out.later hW).cell 1⟩
    have hbx' := hbx
    have hbq' := hbq
    rw [← hbx, ← hbq]
    clear hwz hbx hbq hbx' hbq' HBX1 HBQ1
    go_region_held3 (fun w' => Only (wz.heap.size ≤ ·) wz w' ∧ w'.cell? ⟨bx, 0, none⟩ = some (.int .i64 x1) ∧ w'.cell? ⟨bx, 0 + 1, none⟩ = some (.int .i64 x2) ∧ w'.cell? ⟨bq, 0, none⟩ = some (.int .i64 q1) ∧ w'.cell? ⟨bq, 0 + 1, none⟩ = some (.int .i64 q2)) (first | assumption | exact ⟨(Only.refl _ wz).drew, HKEEP.out _ (Only.refl _ wz).drew⟩ | exact ⟨hO3, HKEEP.out _ hO3⟩) (first | (go_at_call 52; (with_reducible refine (HE.out _).mono ?_); rintro e w3 ⟨rfl, ho3⟩; have hO3 : Only (wz.heap.size ≤ ·) wz w3 := Only.trans (And.left (by assumption)) (ho3.mono fun k h => Nat.le_trans (Only.size (And.left (by assumption))) h)))
    all_goals
      have HO3 : Hid (Only (wz.heap.size ≤ ·) wz w3) := And.left (by assumption)
      clear hO3 ho3
      have hkeep := HKEEP.out _ HO3.out
      simp only [Nat.zero_add] at hkeep
      have HH3 := Lib.hid (HH.out.later (on_new HOZ.out HO3.out))
      have HO3B : Hid (Only (B ≤ ·) w w3) := (on_new HOZ.out HO3.out).mono fun k hk => Nat.le_trans hB hk
      by_cases hfar : q1 + q2 < x1
      · have HLY : Hid (lay l (x1, x2) = l ++ [(x1, x2)]) := lay_far HQ.out.2 hfar
        have HBN : Hid (Blk (w3.alloc (.cells #[.int .i64 x1, .int .i64 x2] 54)) w3.heap.size 54 [.int .i64 x1, .int .i64 x2]) := Blk.new w3 _ _
        go_wp2_with (at_builtin; refine wpList_append_own _ rfl (.tmp 21) (.tmp 23) 33 rfl B 54 i0 z2 2 16 Tryz.underlying33 HI.out.1 HI.out.2.1 HI.out.2.2.1 HI.out.2.2.2 (by rfl) (by omega) _ (k + 1) (rc l) rfl (World.ownsRow.alloc HH3.out.2 _) ⟨w3.heap.size, 0, none⟩ 1 1 (rc [(x1, x2)]) rfl rfl (fun j u hu => by rw [Addr.add_lit, HBN.out.cell, Nat.zero_add]; exact hu) (rc_one _) (by simp only [maxLen]; omega) (by omega) (by have := HO3B.out.size; simp; omega) ?_; intro v' w' ho' hg' _; have HN := Lib.hid ho'; have HO' := Lib.hid ((HO3B.out.alloc (fun k hk => Nat.le_trans hB hk) (.cells #[.int .i64 x1, .int .i64 x2] 54)).grown hg' (fun k hk => Nat.le_trans hB hk) (fun g hg => (World.ownsRow.lt HH3.out.2 g hg).1)); clear ho' hg')
        go_ret
        exact ⟨_, _, rfl, ⟨by rw [HLY.out, List.length_append, ← HH.out.1, List.length_singleton], by rw [HLY.out, rc_append]; exact HN.out⟩, HO'.out⟩
      · have HLY : Hid (lay l (x1, x2) = l.set k (q1, max (q1 + q2) (x1 + x2) - q1)) := lay_near HH.out.1 HQ.out.1 hfar
        have HKEEP2 : Hid (∀ W : World, Only (w3.heap.size ≤ ·) w3 W → W.cell? ⟨bx, 0, none⟩ = some (.int .i64 x1) ∧ W.cell? ⟨bx, 0 + 1, none⟩ = some (.int .i64 x2) ∧ W.cell? ⟨bq, 0, none⟩ = some (.int .i64 q1) ∧ W.cell? ⟨bq, 0 + 1, none⟩ = some (.int .i64 q2)) := fun W hW => HKEEP.out W (on_new HO3.out hW)
        have HFAR : Hid (∀ (W : World) (y : Value), (W.cell? ⟨bx, 0, none⟩ = some (.int .i64 x1) ∧ W.cell? ⟨bx, 0 + 1, none⟩ = some (.int .i64 x2) ∧ W.cell? ⟨bq, 0, none⟩ = some (.int .i64 q1) ∧ W.cell? ⟨bq, 0 + 1, none⟩ = some (.int .i64 q2)) → ((W.setCell ⟨g, k * 2 + 1, none⟩ y).cell? ⟨bx, 0, none⟩ = some (.int .i64 x1) ∧ (W.setCell ⟨g, k * 2 + 1, none⟩ y).cell? ⟨bx, 0 + 1, none⟩ = some (.int .i64 x2) ∧ (W.setCell ⟨g, k * 2 + 1, none⟩ y).cell? ⟨bq, 0, none⟩ = some (.int .i64 q1) ∧ (W.setCell ⟨g, k * 2 + 1, none⟩ y).cell? ⟨bq, 0 + 1, none⟩ = some (.int .i64 q2))) := fun W y hW => by
          have h1 := Below.heap_setCell W ⟨g, k * 2 + 1, none⟩ y bx (Ne.symm HNE.out.1)
          have h2 := Below.heap_setCell W ⟨g, k * 2 + 1, none⟩ y bq (Ne.symm HNE.out.2)
          exact ⟨(World.cell?_of_block h1).trans hW.1, (World.cell?_of_block h1).trans hW.2.1, (World.cell?_of_block h2).trans hW.2.2.1, (World.cell?_of_block h2).trans hW.2.2.2⟩
        have hM1 : q1 + q2 ≤ max (q1 + q2) (x1 + x2) ∧ x1 + x2 ≤ max (q1 + q2) (x1 + x2) ∧ max (q1 + q2) (x1 + x2) ≤ 32768 := by omega
        clear hkeep
        have a1 : (0 : Int) ≤ (k : Int) := by omega
        have a2 : (k : Int) < (k : Int) + 1 := by omega
        have ak : IntKind.i64.wrap (k : Int) = (k : Int) := IntWalk.i64_in _ (by omega)
        have aM : IntKind.i64.wrap (max (q1 + q2) (x1 + x2) - q1) = max (q1 + q2) (x1 + x2) - q1 := IntWalk.i64_in _ (by omega)
        go_wp2_with (fail)
        refine wp_region_held_drew (S := (fun w' => w'.cell? ⟨bx, 0, none⟩ = some (.int .i64 x1) ∧ w'.cell? ⟨bx, 0 + 1, none⟩ = some (.int .i64 x2) ∧ w'.cell? ⟨bq, 0, none⟩ = some (.int .i64 q1) ∧ w'.cell? ⟨bq, 0 + 1, none⟩ = some (.int .i64 q2))) (by kernel_rfl) (HKEEP2.out _ (Only.refl _ w3).drew) (fun hHeld => ?_)
        refine take_one (i := 0) (d := 25) (oi := ?_) (v := ?_) ?_ (by kernel_rfl) (by kernel_rfl) (by kernel_rfl) (fun _ _ _ h => h) ?_ ?_ ?_ (by assumption) ?_
        case refine_3 => (simp only [List.getElem?_toArray, List.getElem?_cons_zero]; rfl)
        case refine_4 => rfl
        case refine_5 => rfl
        case refine_6 => (intro w' hSw; (try dsimp only at hSw); go_simp; (try with_reducible rfl))
        simp only [Act.put, List.setIfInBounds_toArray, List.set_cons_zero, List.set_cons_succ]
        refine take_one (i := 1) (d := 26) (oi := ?_) (v := ?_) ?_ (by kernel_rfl) (by kernel_rfl) (by kernel_rfl) (fun _ _ _ h => h) ?_ ?_ ?_ (by assumption) ?_
        case refine_3 => (simp only [List.getElem?_toArray, List.getElem?_cons_succ, List.getElem?_cons_zero]; rfl)
        case refine_4 => rfl
        case refine_5 => rfl
        case refine_6 => (intro w' hSw; (try dsimp only at hSw); go_simp; (try with_reducible rfl))
        simp only [Act.put, List.setIfInBounds_toArray, List.set_cons_zero, List.set_cons_succ]
        refine take_one (i := 2) (d := 27) (oi := ?_) (v := ?_) ?_ (by kernel_rfl) (by kernel_rfl) (by kernel_rfl) (fun _ _ _ h => h) ?_ ?_ ?_ (by assumption) ?_
        case refine_3 => (simp only [List.getElem?_toArray, List.getElem?_cons_succ, List.getElem?_cons_zero]; rfl)
        case refine_4 => rfl
        case refine_5 => rfl
        case refine_6 => (intro w' hSw; (try dsimp only at hSw); go_simp; (try with_reducible rfl))
        simp only [Act.put, List.setIfInBounds_toArray, List.set_cons_zero, List.set_cons_succ]
        refine take_one (i := 3) (d := 28) (oi := ?_) (v := ?_) ?_ (by kernel_rfl) (by kernel_rfl) (by kernel_rfl) (fun _ _ _ h => h) ?_ ?_ ?_ (by assumption) ?_
        case refine_3 => (simp only [List.getElem?_toArray, List.getElem?_cons_succ, List.getElem?_cons_zero]; rfl)
        case refine_4 => rfl
        case refine_5 => rfl
        case refine_6 => (intro w' hSw; (try dsimp only at hSw); go_simp; (try with_reducible rfl))
        simp only [Act.put, List.setIfInBounds_toArray, List.set_cons_zero, List.set_cons_succ]
        refine take_one (i := 4) (d := 29) (oi := ?_) (v := ?_) ?_ (by kernel_rfl) (by kernel_rfl) (by kernel_rfl) (fun _ _ _ h => h) ?_ ?_ ?_ (by assumption) ?_
        case refine_3 => (simp only [List.getElem?_toArray, List.getElem?_cons_succ, List.getElem?_cons_zero]; rfl)
        case refine_4 => rfl
        case refine_5 => rfl
        case refine_6 => (intro w' hSw; (try dsimp only at hSw); go_simp; (try with_reducible rfl))
        simp only [Act.put, List.setIfInBounds_toArray, List.set_cons_zero, List.set_cons_succ]
        refine take_one (i := 6) (d := 31) (oi := ?_) (v := ?_) ?_ (by kernel_rfl) (by kernel_rfl) (by kernel_rfl) (fun _ _ _ h => h) ?_ ?_ ?_ (by assumption) ?_
        case refine_3 => (simp only [List.getElem?_toArray, List.getElem?_cons_succ, List.getElem?_cons_zero]; rfl)
        case refine_4 => rfl
        case refine_5 => rfl
        case refine_6 => (intro w' hSw; (try dsimp only at hSw); go_simp; (try with_reducible rfl))
        simp only [Act.put, List.setIfInBounds_toArray, List.set_cons_zero, List.set_cons_succ]
        refine take_one (i := 9) (d := 34) (oi := ?_) (v := ?_) ?_ (by kernel_rfl) (by kernel_rfl) (by kernel_rfl) (fun _ _ _ h => h) ?_ ?_ ?_ (by assumption) ?_
        case refine_3 => (simp only [List.getElem?_toArray, List.getElem?_cons_succ, List.getElem?_cons_zero]; rfl)
        case refine_4 => rfl
        case refine_5 => rfl
        case refine_6 => (intro w' hSw; (try dsimp only at hSw); go_simp; (try with_reducible rfl))
        simp only [Act.put, List.setIfInBounds_toArray, List.set_cons_zero, List.set_cons_succ]
        refine take_one (i := 10) (d := 35) (oi := ?_) (v := ?_) ?_ (by kernel_rfl) (by kernel_rfl) (by kernel_rfl) (fun _ _ _ h => h) ?_ ?_ ?_ (by assumption) ?_
        case refine_3 => (simp only [List.getElem?_toArray, List.getElem?_cons_succ, List.getElem?_cons_zero]; rfl)
        case refine_4 => rfl
        case refine_5 => rfl
        case refine_6 => (intro w' hSw; (try dsimp only at hSw); go_simp; (try with_reducible rfl))
        simp only [Act.put, List.setIfInBounds_toArray, List.set_cons_zero, List.set_cons_succ]
        refine wpAnyH_ready (rs := [5]) (by kernel_rfl) (by simp) ?_
        refine AllReadyH.cons (o := ?_) ?_ (fun K hK => ?_) AllReadyH.nil
        case refine_2 => (simp only [List.getElem?_toArray, List.getElem?_cons_succ, List.getElem?_cons_zero]; rfl)
        go_simp
        (go_at_call 52; (with_reducible refine (HE.out _).mono ?_); rintro e w4 ⟨rfl, ho4⟩; have hO4 : Only (w3.heap.size ≤ ·) w3 w4 := Only.trans (Only.refl _ w3).drew (ho4.mono fun _ h => h))
        go_wp2_with (fail)
        refine hK.out _ _ (HKEEP2.out _ hO4) (fun hHeld => ?_)
        clear hK K
        try simp only [Act.put, List.setIfInBounds_toArray, List.set_cons_zero, List.set_cons_succ]
        refine wpAnyH_ready (rs := [7]) (by kernel_rfl) (by simp) ?_
        refine AllReadyH.cons (o := ?_) ?_ (fun K hK => ?_) AllReadyH.nil
        case refine_2 => (simp only [List.getElem?_toArray, List.getElem?_cons_succ, List.getElem?_cons_zero]; rfl)
        go_simp
        (go_at_call 52; (with_reducible refine (HE'.out _).mono ?_); rintro e w5 ⟨rfl, ho5⟩; have hO5 : Only (w3.heap.size ≤ ·) w3 w5 := hO4.trans (ho5.mono fun k h => Nat.le_trans hO4.size h); obtain ⟨hcA, hfz⟩ := OwnN.cell (HH3.out.later hO5) HQ.out.1; have HN5 := Lib.hid (OwnN.put (HH3.out.later hO5) HQ.out.1 (max (q1 + q2) (x1 + x2) - q1)))
        go_wp2_with (fail)
        refine hK.out _ _ (HKEEP2.out _ hO5) (fun hHeld => ?_)
        clear hK K
        try simp only [Act.put, List.setIfInBounds_toArray, List.set_cons_zero, List.set_cons_succ]
        refine take_one (i := 8) (d := 33) (oi := ?_) (v := ?_) ?_ (by kernel_rfl) (by kernel_rfl) (by kernel_rfl) (fun _ _ _ h => h) ?_ ?_ ?_ (by assumption) ?_
        case refine_3 => (simp only [List.getElem?_toArray, List.getElem?_cons_succ, List.getElem?_cons_zero]; rfl)
        case refine_4 => rfl
        case refine_5 => rfl
        case refine_6 => (intro w' hSw; (try dsimp only at hSw); go_simp; (try with_reducible rfl))
        simp only [Act.put, List.setIfInBounds_toArray, List.set_cons_zero, List.set_cons_succ]
        refine take_one (i := 11) (d := 36) (oi := ?_) (v := ?_) ?_ (by kernel_rfl) (by kernel_rfl) (by kernel_rfl) (fun _ _ _ h => h) ?_ ?_ ?_ (by assumption) ?_
        case refine_3 => (simp only [List.getElem?_toArray, List.getElem?_cons_succ, List.getElem?_cons_zero]; rfl)
        case refine_4 => rfl
        case refine_5 => rfl
        case refine_6 => (intro w' hSw; (try dsimp only at hSw); go_simp; (try with_reducible rfl))
        simp only [Act.put, List.setIfInBounds_toArray, List.set_cons_zero, List.set_cons_succ]
        refine take_one (i := 12) (d := 37) (oi := ?_) (v := ?_) ?_ (by kernel_rfl) (by kernel_rfl) (by kernel_rfl) (fun _ _ _ h => h) ?_ ?_ ?_ (by assumption) ?_
        case refine_3 => (simp only [List.getElem?_toArray, List.getElem?_cons_succ, List.getElem?_cons_zero]; rfl)
        case refine_4 => rfl
        case refine_5 => rfl
        case refine_6 => (intro w' hSw; (try dsimp only at hSw); go_simp; (try with_reducible rfl))
        simp only [Act.put, List.setIfInBounds_toArray, List.set_cons_zero, List.set_cons_succ]
        refine take_one (i := 13) (d := 38) (oi := ?_) (v := ?_) ?_ (by kernel_rfl) (by kernel_rfl) (by kernel_rfl) (fun _ _ _ h => h) ?_ ?_ ?_ (by assumption) ?_
        case refine_3 => (simp only [List.getElem?_toArray, List.getElem?_cons_succ, List.getElem?_cons_zero]; rfl)
        case refine_4 => rfl
        case refine_5 => rfl
        case refine_6 => (intro w' hSw; (try dsimp only at hSw); go_simp; (try with_reducible rfl))
        simp only [Act.put, List.setIfInBounds_toArray, List.set_cons_zero, List.set_cons_succ]
        refine wpAnyH_ready (rs := [14]) (by kernel_rfl) (by simp) ?_
        refine AllReadyH.cons (o := ?_) ?_ (fun K hK => ?_) AllReadyH.nil
        case refine_2 => (simp only [List.getElem?_toArray, List.getElem?_cons_succ, List.getElem?_cons_zero]; rfl)
        go_simp
        refine hK.out _ _ (HFAR.out _ _ (HKEEP2.out _ hO5)) (fun hHeld => ?_)
        clear hK K
        try simp only [Act.put, List.setIfInBounds_toArray, List.set_cons_zero, List.set_cons_succ]
        refine wpAnyH_done (by kernel_rfl) ?_ _
        have eM : IntKind.i64.wrap ((if q1 + q2 < x1 + x2 then x1 + x2 else q1 + q2) - q1) = max (q1 + q2) (x1 + x2) - q1 := by
          rw [IntWalk.i64_in _ (by split <;> omega)]
          split <;> omega
        rw [eM]
        have HO5 : Hid (Only (B ≤ ·) w w5) := (on_new HOZ.out (on_new HO3.out hO5)).mono fun k hk => Nat.le_trans hB hk
        clear hHeld hO4 hO5 ho4 ho5 hcA hfz eM aM ak hM1
        generalize (if q1 + q2 < x1 + x2 then x1 + x2 else q1 + q2) = zz
        go_wp2
        go_ret
        exact ⟨_, k + 1, rfl, ⟨by rw [HLY.out, List.length_set]; exact HH.out.1, by rw [HLY.out]; exact HN5.out.2⟩, HO5.out.setCell (p := ⟨g, k * 2 + 1, none⟩) hgB.1 _⟩
end Go.Proofs.YtmadlckladohbaaGreat
