/-
  slices.Replace of one run by none, one, or two.
-/
import Derived.Test.YtmadlckladohbaaGreatCut
import Derived.Shelf.Spec.SlicesInsert
import Derived.Laws.IdiomCopy
import Derived.Deep.RegionLaw
import Derived.Lib.Overlaps
import Derived.Lib.AppendZerosOnto
set_option linter.unusedVariables false
namespace Go.Proofs.YtmadlckladohbaaGreat
open Go.RowKit

theorem blk_of_own {w : World} {B g n cap : Nat} {l : List R} (h : OwnN w B (.slice (some ⟨g, 0, none⟩) n cap) n l) : ∃ rest, Blk w g 54 (rc l ++ rest) ∧ rest.length = (cap - n) * 2 ∧ n ≤ cap ∧ cap ≤ 9223372036854775807 ∧ B ≤ g := by
  obtain ⟨h0, h1, h2⟩ := h
  rcases h2 with ⟨e, _⟩ | ⟨g', cap', cur, e, hb, hg, hn, hm, hs, ht⟩
  · cases e
  · simp only [Value.slice.injEq, Option.some.injEq, Addr.mk.injEq, and_true, true_and] at e
    obtain ⟨rfl, rfl⟩ := e
    refine ⟨cur.toList.drop (n * 2), ?_, ?_, hn, by simpa only [maxLen] using hm, hb⟩
    · unfold Blk
      rw [← ht, List.take_append_drop]
      simpa using hg
    · rw [List.length_drop, Array.length_toList, hs, Nat.sub_mul]
theorem own_of_blk {w : World} {B g n cap : Nat} {l : List R} {cs : List Value} (h : Blk w g 54 cs) (hs : cs.length = cap * 2) (hn : n ≤ cap) (hm : cap ≤ 9223372036854775807) (hB : B ≤ g) (ht : cs.take (n * 2) = rc l) (hl : n = l.length) : OwnN w B (.slice (some ⟨g, 0, none⟩) n cap) n l :=
  ⟨hl, by rw [rc_length, hl], .inr ⟨g, cap, cs.toArray, rfl, hB, h, hn, by simpa only [maxLen] using hm, by simpa using hs, by simpa using ht⟩⟩
theorem over_take {α : Type} (cs : List α) (o : Nat) (vs : List α) (h : o ≤ cs.length) : (over cs o vs).take (o + vs.length) = cs.take o ++ vs := by
  have h1 : (cs.take o).length = o := by simp; omega
  unfold over
  rw [← List.append_assoc, List.take_left' (by rw [List.length_append, h1])]
theorem over_take_le {α : Type} (cs : List α) (o : Nat) (vs : List α) {j : Nat} (h : o ≤ cs.length) (hj : j ≤ o) : (over cs o vs).take j = cs.take j := by
  unfold over
  rw [List.take_append_of_le_length (by simp; omega), List.take_take, Nat.min_eq_left hj]
theorem over_len {α : Type} (cs : List α) (o : Nat) (vs : List α) (h : o + vs.length ≤ cs.length) : (over cs o vs).length = cs.length := over_length cs o vs h
theorem take_rc {l : List R} {rest : List Value} {k : Nat} (hk : k ≤ l.length) : (rc l ++ rest).take (k * 2) = rc (l.take k) := by
  rw [List.take_append_of_le_length (by rw [rc_length]; omega), rc_take]
theorem at_rc {l : List R} {rest : List Value} (k : Nat) {j : Nat} {u : Value} (h : (rc (l.drop k))[j]? = some u) : (rc l ++ rest)[k * 2 + j]? = some u := by
  rw [rc_drop, List.getElem?_drop] at h
  have := (List.getElem?_eq_some_iff.1 h).1
  rw [List.getElem?_append_left this]
  exact h

theorem sizeRun : (Tryz.prog.info? 54).map (·.size) = some 2 := by kernel_rfl
/-- A copy of runs. -/
theorem run_copy2 {w : World} {g o dLen dCap sLen sCap : Nat} {t : TypeId} {ad : Addr} {cur V : List Value} (hb : Blk w g t cur) (hn : V.length = Nat.min sLen dLen * 2) (hfit : o + V.length ≤ cur.length) (hsrc : ∀ j v, V[j]? = some v → w.cell? (ad.add j) = some v) (h1 : ∀ v ∈ V, v.oneCell' = true) (ty : TypeId) :
    (Builtin.copy_ #[33, 33] ty #[.slice (some ⟨g, o, none⟩) dLen dCap, .slice (some ad) sLen sCap]).run Tryz.prog w = .ok (goInt (Nat.min sLen dLen)) (w.setCells g o V) := by
  have hl := run_loadCells_list (P := Tryz.prog) w ad V hsrc
  have hst := run_storeCells_cells (P := Tryz.prog) g o V 0 w (fun j hj => by rw [Nat.add_zero, hb.cell, List.getElem?_eq_getElem (by omega)]; rfl) (fun j hj => hb.frozen _) h1
  have hs := sizeRun
  cases hq : Tryz.prog.info? 54 with
  | none => simp [hq] at hs
  | some i =>
    have hi : i.size = 2 := by simpa [hq] using hs
    simp [Builtin.copy_, run_underlying Tryz.underlying33, Builtin.lenOf, Builtin.firstCells, sizeOf, typeInfo, hq, hi, ← hn, hl, hst]
theorem run_copy0 {w : World} {d a : Option Addr} {dLen dCap sLen sCap : Nat} (hn : Nat.min sLen dLen = 0) (ty : TypeId) :
    (Builtin.copy_ #[33, 33] ty #[.slice d dLen dCap, .slice a sLen sCap]).run Tryz.prog w = .ok (goInt 0) w := by
  have hs := sizeRun
  cases hq : Tryz.prog.info? 54 with
  | none => simp [hq] at hs
  | some i =>
    have hl : ∀ (x : Addr), (loadCells x 0).run Tryz.prog w = .ok #[] w := fun x => by simpa using run_loadCells_list (P := Tryz.prog) w x [] (by simp)
    cases d <;> cases a <;> simp [Builtin.copy_, run_underlying Tryz.underlying33, Builtin.lenOf, Builtin.firstCells, sizeOf, typeInfo, hq, hn, storeCells, hl]
def zeros (n : Nat) : List Value := rc (List.replicate n (0, 0))
theorem zeros_cells (n : Nat) : (Builtin.zeroCells z2.cells n).toList = zeros n := by
  apply List.ext_getElem
  · simp [Builtin.zeroCells, zeros, rc_length, z2, Value.cells]
  · intro i h1 h2
    have hi : i < n * 2 := by simpa [zeros, rc_length] using h2
    have hx : (List.replicate n ((0, 0) : R))[i / 2]? = some (0, 0) := by rw [List.getElem?_replicate, if_pos (by omega)]
    have e0 := rc_get0 hx
    have e1 := rc_get1 hx
    have : (Builtin.zeroCells z2.cells n).toList[i] = .int .i64 0 := by
      simp only [Builtin.zeroCells, z2, Value.cells, Array.getElem_toList, Array.getElem_map]
      rcases Nat.mod_two_eq_zero_or_one i with hm | hm <;> simp [hm]
    rw [this]
    have hz : (zeros n)[i]? = some (.int .i64 0) := by
      unfold zeros
      rcases Nat.mod_two_eq_zero_or_one i with hm | hm
      · rw [show i / 2 * 2 = i by omega] at e0; exact e0
      · rw [show i / 2 * 2 + 1 = i by omega] at e1; exact e1
    rw [List.getElem?_eq_getElem h2] at hz
    exact (Option.some.inj hz).symm
theorem run_clear2 {w : World} {g o n c : Nat} {t : TypeId} {cur : List Value} (hb : Blk w g t cur) (hn : 0 < n) (hfit : o + n * 2 ≤ cur.length) (ty : TypeId) :
    (Builtin.clear_ #[33] ty #[.slice (some ⟨g, o, none⟩) n c]).run Tryz.prog w = .ok (.tuple #[]) (w.setCells g o (zeros n)) := by
  have hlz : (zeros n).length = n * 2 := by simp [zeros, rc_length]
  have hst := run_storeCells_cells (P := Tryz.prog) g o (zeros n) 0 w (fun j hj => by rw [Nat.add_zero, hb.cell, List.getElem?_eq_getElem (by omega)]; rfl) (fun j hj => hb.frozen _) (rc_one _)
  have hz : (zeroValue 54).run Tryz.prog w = .ok z2 w := Tryz.zeroValue54 w
  obtain ⟨n, rfl⟩ : ∃ m, n = m + 1 := ⟨n - 1, by omega⟩
  rw [Nat.add_zero] at hst
  simp [Builtin.clear_, run_underlying Tryz.underlying33, hz, hst, zeros_cells]
theorem run_clear0 {w : World} {a : Option Addr} {c : Nat} (ty : TypeId) : (Builtin.clear_ #[33] ty #[.slice a 0 c]).run Tryz.prog w = .ok (.tuple #[]) w := by
  cases a <;> simp [Builtin.clear_, run_underlying Tryz.underlying33]
theorem wpList_clear_run {P : Program} (w : World) {ops : Array Oper} {rest : List Oper} {o : Oper} {a : Act} {Q : Exit → Act → World → Prop} (hgd : o.guard = none) (s : Operand) (t : TypeId)
    (ho : o.op = .call { callee := .builtin .clear, args := #[s], argTypes := #[t] }) (v : Value) (hs : a.eval s = v) {v' : Value} {w' : World}
    (hr : (Builtin.clear_ #[t] o.type #[v]).run P w = .ok v' w') (h : wpList P ops Q rest (a.put o.dst v') w') : wpList P ops Q (o :: rest) a w :=
  wpList_plain hgd fun _ hK => by
    unfold Oper.wp execOp
    simp only [ho, resolve, invoke, builtin, Sem.run_bind, Sem.run_pure, Result.andThen_ok, List.map_toArray, List.map_cons, List.map_nil, hs, hr]
    exact hK _ _ h

section
variable {w : World} {B g d cap k : Nat} {l : List R}
set_option maxRecDepth 100000 in
set_option maxHeartbeats 3200000 in
/-- By none, in the midst. -/
theorem Repl0m (h : OwnN w B (.slice (some ⟨g, 0, none⟩) (k + 1 + d) cap) (k + 1 + d) l) (hd : 0 < d) (hn : k + 1 + d ≤ 32768) (hB : B ≤ w.heap.size) :
    Calls Tryz.prog 71 #[.slice (some ⟨g, 0, none⟩) (k + 1 + d) cap, .int .i64 k, .int .i64 ((k : Int) + 1), .slice none 0 0] w (Lays w B (l.take k ++ [] ++ l.drop (k + 1))) := by
  obtain ⟨rest, hb, hrl, hnc, hcm, hBg⟩ := blk_of_own h
  have hl := h.1
  have hVl : (rc (l.drop (k + 1))).length = d * 2 := by rw [rc_length, List.length_drop]; omega
  have hcl : (rc l ++ rest).length = cap * 2 := by rw [List.length_append, rc_length, hrl]; omega
  have e1 : ((k : Int) == (k : Int) + 1) = false := beq_eq_false_iff_ne.2 (by omega)
  have e2 : ((k : Int) + 1 == (k : Int) + 1 + (d : Int)) = false := beq_eq_false_iff_ne.2 (by omega)
  have a0 : (0 : Int) ≤ (k : Int) := by omega
  have a1 : (0 : Int) ≤ (k : Int) + 1 := by omega
  have a2 : (k : Int) ≤ (k : Int) + 1 := by omega
  have a3 : (k : Int) + 1 ≤ (cap : Int) := by omega
  have a4 : (k : Int) ≤ (cap : Int) := by omega
  have a5 : (k : Int) + 1 ≤ (k : Int) + 1 + (d : Int) := by omega
  have a6 : (k : Int) + (d : Int) ≤ (cap : Int) := by omega
  have a7 : (0 : Int) ≤ (k : Int) + (d : Int) := by omega
  have a8 : ¬ ((cap : Int) < (k : Int) + (d : Int)) := by omega
  have a9 : (k : Int) ≤ (k : Int) + (d : Int) := by omega
  have t1 : ((k : Int) + 1).toNat = k + 1 := by omega
  have t2 : ((k : Int) + (d : Int)).toNat = k + d := by omega
  have c1 : ¬ (cap = k) := by omega
  have c2 : ¬ (cap = k + 1) := by omega
  have c3 : ¬ (cap = k + d) := by omega
  have w0 : IntKind.i64.wrap (k : Int) = (k : Int) := IntWalk.i64_in _ (by omega)
  have w1 : IntKind.i64.wrap ((k : Int) + 1) = (k : Int) + 1 := IntWalk.i64_in _ (by omega)
  have w2 : IntKind.i64.wrap ((k : Int) + (d : Int)) = (k : Int) + (d : Int) := IntWalk.i64_in _ (by omega)
  have HBK := Lib.hid hb
  have HX := Lib.hid (And.intro hl (And.intro hVl (And.intro hcl (And.intro hnc (And.intro hcm hBg)))))
  clear h hl hVl hcl hrl hb
  have HC0 : Hid (∀ (W : World) (D : Option Addr) (dl dc : Nat) (ty : TypeId), (Builtin.copy_ #[33, 33] ty #[.slice D dl dc, .slice none 0 0]).run Tryz.prog W = .ok (goInt 0) W) := fun W D dl dc ty => run_copy0 (by simp) ty
  have HCP : Hid (∀ (W : World), Blk W g 54 (rc l ++ rest) → ∀ ty dc sc, (Builtin.copy_ #[33, 33] ty #[.slice (some ⟨g, k * 2, none⟩) d dc, .slice (some ⟨g, (k + 1) * 2, none⟩) d sc]).run Tryz.prog W = .ok (goInt (Nat.min d d)) (W.setCells g (k * 2) (rc (l.drop (k + 1))))) := fun W hb ty dc sc => by
    have hX := HX.out
    refine run_copy2 hb ?_ ?_ ?_ (rc_one _) ty
    · rw [hX.2.1]; simp
    · rw [hX.2.1, hX.2.2.1]; omega
    · intro j v hj
      rw [Addr.add_lit, hb.cell]
      exact at_rc (k + 1) hj
  have HCL : Hid (∀ (W : World), Blk W g 54 (over (rc l ++ rest) (k * 2) (rc (l.drop (k + 1)))) → ∀ ty c, (Builtin.clear_ #[33] ty #[.slice (some ⟨g, (k + d) * 2, none⟩) 1 c]).run Tryz.prog W = .ok (.tuple #[]) (W.setCells g ((k + d) * 2) (zeros 1))) := fun W hb ty c => by
    have hX := HX.out
    refine run_clear2 hb (by omega) ?_ ty
    rw [over_len _ _ _ (by rw [hX.2.1, hX.2.2.1]; omega), hX.2.2.1]
    omega
  go_enter Tryz.func71, Tryz.ntmps71
  go_wp2_with (fail)
  go_quiet (fail)
  go_wp2_with (with_reducible refine wpList_copy_runI _ rfl (.tmp 95) (.tmp 96) 33 33 rfl _ _ rfl rfl (HC0.out _ _ _ _ _) ?_)
  have hcp := HCP.out _ (HBK.out.drewN (nq + 1))
  go_region
  have HB1 := Lib.hid ((HBK.out.drewN (nq + 1)).setN (rc (l.drop (k + 1))) (k * 2) (by have := HX.out; rw [this.2.1, this.2.2.1]; omega))
  have HO1 := Lib.hid (Only.setCells (F := (B ≤ ·)) g (rc (l.drop (k + 1))) (k * 2) ((Only.refl (B ≤ ·) w).drewN (nq + 1)) HX.out.2.2.2.2.2)
  clear hcp
  generalize (w.drewN (nq + 1)).setCells g (k * 2) (rc (l.drop (k + 1))) = x1 at HB1 HO1 ⊢
  have hcl := HCL.out _ HB1.out
  have s1 : k + 1 + d - (k + d) = 1 := by omega
  go_wp2
  go_ret
  have hX := HX.out
  have hlo : (over (rc l ++ rest) (k * 2) (rc (l.drop (k + 1)))).length = cap * 2 := by rw [over_len _ _ _ (by rw [hX.2.1, hX.2.2.1]; omega), hX.2.2.1]
  have hz1 : (zeros 1).length = 2 := rfl
  refine ⟨_, k + d, rfl, own_of_blk (HB1.out.setN (zeros 1) ((k + d) * 2) (by rw [hlo, hz1]; omega)) (by rw [over_len _ _ _ (by rw [hlo, hz1]; omega), hlo]) (by omega) (by omega) hX.2.2.2.2.2 ?_ ?_, Only.setCells g (zeros 1) _ HO1.out hX.2.2.2.2.2⟩
  · rw [over_take_le _ _ _ (by rw [hlo]; omega) (Nat.le_refl _), show (k + d) * 2 = k * 2 + (rc (l.drop (k + 1))).length by rw [hX.2.1]; omega, over_take _ _ _ (by rw [hX.2.2.1]; omega), take_rc (by omega), ← rc_append, List.append_nil]
  · simp; omega
theorem drop_all {l : List R} {k : Nat} (h : k = l.length) : l.drop k = [] := List.drop_eq_nil_of_le (by omega)
theorem own_cut (h : OwnN w B (.slice (some ⟨g, 0, none⟩) (k + d) cap) (k + d) l) : OwnN w B (.slice (some ⟨g, 0, none⟩) k cap) k (l.take k) := by
  obtain ⟨rest, hb, hrl, hnc, hcm, hBg⟩ := blk_of_own h
  exact own_of_blk hb (by have := h.1; rw [List.length_append, rc_length, hrl]; omega) (by omega) hcm hBg (take_rc (by have := h.1; omega)) (by have := h.1; simp; omega)
theorem over_over {α : Type} {base V vs : List α} {o o2 : Nat} (ho : o2 = o + vs.length) (hf : o2 + V.length ≤ base.length) : (over (over base o2 V) o vs).take (o + vs.length + V.length) = base.take o ++ (vs ++ V) := by
  have h1 : (base.take o2).length = o2 := by simp; omega
  have h2 : (over base o2 V).take o = base.take o := over_take_le _ _ _ (by omega) (by omega)
  have h3 : (over base o2 V).drop (o + vs.length) = V ++ base.drop (o2 + V.length) := by
    unfold over
    rw [← ho, List.drop_left' h1]
  have h4 : (base.take o).length = o := by simp; omega
  have hu : over (over base o2 V) o vs = (over base o2 V).take o ++ (vs ++ (over base o2 V).drop (o + vs.length)) := rfl
  rw [hu, h2, h3]
  rw [← List.append_assoc vs, ← List.append_assoc, List.take_left' (by rw [List.length_append, List.length_append, h4]; omega)]

set_option maxRecDepth 100000 in
set_option maxHeartbeats 3200000 in
/-- By none, at the end. -/
theorem Repl0e (h : OwnN w B (.slice (some ⟨g, 0, none⟩) (k + 1) cap) (k + 1) l) (hn : k + 1 ≤ 32768) (hB : B ≤ w.heap.size) :
    Calls Tryz.prog 71 #[.slice (some ⟨g, 0, none⟩) (k + 1) cap, .int .i64 k, .int .i64 ((k : Int) + 1), .slice none 0 0] w (Lays w B (l.take k ++ [] ++ l.drop (k + 1))) := by
  obtain ⟨i0, hi0, hz0, hz1, hz2⟩ := info_parts infoRun
  have HI := Lib.hid (And.intro hi0 (And.intro hz0 (And.intro hz1 hz2)))
  clear hi0 hz0 hz1 hz2
  have HCUT := Lib.hid (own_cut (d := 1) h)
  obtain ⟨rest, hb, hrl, hnc, hcm, hBg⟩ := blk_of_own h
  have hl := h.1
  have hcl : (rc l ++ rest).length = cap * 2 := by rw [List.length_append, rc_length, hrl]; omega
  have e1 : ((k : Int) == (k : Int) + 1) = false := beq_eq_false_iff_ne.2 (by omega)
  have a0 : (0 : Int) ≤ (k : Int) := by omega
  have a1 : (0 : Int) ≤ (k : Int) + 1 := by omega
  have a2 : (k : Int) ≤ (k : Int) + 1 := by omega
  have a3 : (k : Int) + 1 ≤ (cap : Int) := by omega
  have a4 : (k : Int) ≤ (cap : Int) := by omega
  have t1 : ((k : Int) + 1).toNat = k + 1 := by omega
  have c1 : ¬ (cap = k) := by omega
  have hclr : ∀ ty c, (Builtin.clear_ #[33] ty #[.slice (some ⟨g, k * 2, none⟩) 1 c]).run Tryz.prog w = .ok (.tuple #[]) (w.setCells g (k * 2) (zeros 1)) := fun ty c => run_clear2 hb (by omega) (by rw [hcl]; omega) ty
  have HF : Hid (OwnN (w.setCells g (k * 2) (zeros 1)) B (.slice (some ⟨g, 0, none⟩) k cap) k (l.take k ++ [] ++ l.drop (k + 1))) := by
    have hz1 : (zeros 1).length = 2 := rfl
    refine own_of_blk (hb.setN (zeros 1) (k * 2) (by rw [hcl, hz1]; omega)) (by rw [over_len _ _ _ (by rw [hcl, hz1]; omega), hcl]) (by omega) hcm hBg ?_ ?_
    · rw [over_take_le _ _ _ (by rw [hcl]; omega) (Nat.le_refl _), take_rc (by omega), drop_all hl, List.append_nil, List.append_nil]
    · rw [drop_all hl]; simp; omega
  have HO : Hid (Only (B ≤ ·) w (w.setCells g (k * 2) (zeros 1))) := Only.setCells g (zeros 1) _ (Only.refl _ w) hBg
  clear h hl hcl hrl hb
  go_enter Tryz.func71, Tryz.ntmps71
  go_wp2_with (at_builtin; refine wpList_append_own_none rfl (.tmp 32) (.tmp 33) 33 rfl B 54 i0 2 Tryz.underlying33 HI.out.1 _ k (rc (l.take k)) rfl HCUT.out.2 rfl ?_)
  go_ret
  exact ⟨_, k, rfl, HF.out, HO.out⟩

set_option maxRecDepth 100000 in
set_option maxHeartbeats 3200000 in
/-- By one, or two, at the end. -/
theorem Repl2e (h : OwnN w B (.slice (some ⟨g, 0, none⟩) (k + 1) cap) (k + 1) l) (hn : k + 1 ≤ 32768) (hB : B ≤ w.heap.size) {gv m : Nat} {vs : List R} (hv : Blk w gv 54 (rc vs)) (hm : vs.length = m + 1) (hm2 : m ≤ 1) :
    Calls Tryz.prog 71 #[.slice (some ⟨g, 0, none⟩) (k + 1) cap, .int .i64 k, .int .i64 ((k : Int) + 1), .slice (some ⟨gv, 0, none⟩) (m + 1) (m + 1)] w (Lays w B (l.take k ++ vs ++ l.drop (k + 1))) := by
  obtain ⟨i0, hi0, hz0, hz1, hz2⟩ := info_parts infoRun
  have HI := Lib.hid (And.intro hi0 (And.intro hz0 (And.intro hz1 hz2)))
  clear hi0 hz0 hz1 hz2
  have HCUT := Lib.hid (own_cut (d := 1) h)
  obtain ⟨rest, hb, hrl, hnc, hcm, hBg⟩ := blk_of_own h
  have hl := h.1
  have e1 : ((k : Int) == (k : Int) + 1) = false := beq_eq_false_iff_ne.2 (by omega)
  have a0 : (0 : Int) ≤ (k : Int) := by omega
  have a1 : (0 : Int) ≤ (k : Int) + 1 := by omega
  have a2 : (k : Int) ≤ (k : Int) + 1 := by omega
  have a3 : (k : Int) + 1 ≤ (cap : Int) := by omega
  have a4 : (k : Int) ≤ (cap : Int) := by omega
  have t1 : ((k : Int) + 1).toNat = k + 1 := by omega
  have c1 : ¬ (cap = k) := by omega
  have b1 : ¬ ((k : Int) + ((m : Int) + 1) < (k : Int) + 1) := by omega
  have b2 : ¬ ((k : Int) + (m : Int) + 1 < (k : Int) + 1) := by omega
  have b3 : ¬ (k + (m + 1) < k + 1) := by omega
  have HSRC : Hid (∀ j u, (rc vs)[j]? = some u → w.cell? ((⟨gv, 0, none⟩ : Addr).add j) = some u) := fun j u hu => by rw [Addr.add_lit, hv.cell, Nat.zero_add]; exact hu
  have HLN : Hid ((rc vs).length = (m + 1) * 2) := by show _ = _; rw [rc_length, hm]
  obtain ⟨L, hL⟩ : ∃ L, L = l.take k ++ vs ++ l.drop (k + 1) := ⟨_, rfl⟩
  rw [← hL]
  have HDR : Hid (L = l.take k ++ vs ∧ k + (m + 1) = (l.take k ++ vs).length) := ⟨by rw [hL, drop_all hl, List.append_nil], by rw [List.length_append, hm, List.length_take]; omega⟩
  clear hL
  have hgg := World.ownsRow.lt h.2 g rfl
  clear h hl hrl hb hv
  go_enter Tryz.func71, Tryz.ntmps71
  go_wp2_with (at_builtin; refine wpList_append_own _ rfl (.tmp 32) (.tmp 33) 33 rfl B 54 i0 z2 2 16 Tryz.underlying33 HI.out.1 HI.out.2.1 HI.out.2.2.1 HI.out.2.2.2 (by rfl) (by omega) _ k (rc (l.take k)) rfl HCUT.out.2 ⟨gv, 0, none⟩ (m + 1) (m + 1) (rc vs) rfl HLN.out HSRC.out (rc_one _) (by simp only [maxLen]; omega) (by omega) hB ?_; intro v' w' ho' hg' _; obtain ⟨g', cap', rfl⟩ := ownsRow_succ (k := k + m) ho'; have HN' := Lib.hid ho'; have HO' := Lib.hid ((Only.refl (B ≤ ·) w).grown hg' (fun k hk => Nat.le_trans hB hk) (fun q hq => by cases hq; exact hBg)); clear ho' hg')
  go_ret
  exact ⟨_, k + (m + 1), rfl, ⟨by rw [HDR.out.1]; exact HDR.out.2, by rw [HDR.out.1, rc_append]; exact HN'.out⟩, HO'.out⟩

set_option maxRecDepth 100000 in
set_option maxHeartbeats 3200000 in
/-- By one, in the midst. -/
theorem Repl1m (h : OwnN w B (.slice (some ⟨g, 0, none⟩) (k + 1 + d) cap) (k + 1 + d) l) (hd : 0 < d) (hn : k + 1 + d ≤ 32768) (hB : B ≤ w.heap.size) {gv : Nat} {vs : List R} (hv : Blk w gv 54 (rc vs)) (hm : vs.length = 1) (hgv : gv ≠ g) :
    Calls Tryz.prog 71 #[.slice (some ⟨g, 0, none⟩) (k + 1 + d) cap, .int .i64 k, .int .i64 ((k : Int) + 1), .slice (some ⟨gv, 0, none⟩) 1 1] w (Lays w B (l.take k ++ vs ++ l.drop (k + 1))) := by
  obtain ⟨rest, hb, hrl, hnc, hcm, hBg⟩ := blk_of_own h
  have hl := h.1
  have hVl : (rc (l.drop (k + 1))).length = d * 2 := by rw [rc_length, List.length_drop]; omega
  have hvl : (rc vs).length = vs.length * 2 := rc_length vs
  have hcl : (rc l ++ rest).length = cap * 2 := by rw [List.length_append, rc_length, hrl]; omega
  have e1 : ((k : Int) == (k : Int) + 1) = false := beq_eq_false_iff_ne.2 (by omega)
  have e2 : ((k : Int) + 1 == (k : Int) + 1 + (d : Int)) = false := beq_eq_false_iff_ne.2 (by omega)
  have a0 : (0 : Int) ≤ (k : Int) := by omega
  have a1 : (0 : Int) ≤ (k : Int) + 1 := by omega
  have a2 : (k : Int) ≤ (k : Int) + 1 := by omega
  have a3 : (k : Int) + 1 ≤ (cap : Int) := by omega
  have a4 : (k : Int) ≤ (cap : Int) := by omega
  have a5 : (k : Int) + 1 ≤ (k : Int) + 1 + (d : Int) := by omega
  have t1 : ((k : Int) + 1).toNat = k + 1 := by omega
  have c1 : ¬ (cap = k) := by omega
  have c2 : ¬ (cap = k + 1) := by omega
  have w0 : IntKind.i64.wrap (k : Int) = (k : Int) := IntWalk.i64_in _ (by omega)
  have w1 : IntKind.i64.wrap ((k : Int) + 1) = (k : Int) + 1 := IntWalk.i64_in _ (by omega)
  have a6 : (k : Int) + 1 + (d : Int) ≤ (cap : Int) := by omega
  have a7 : (0 : Int) ≤ (k : Int) + 1 + (d : Int) := by omega
  have a8 : ¬ ((cap : Int) < (k : Int) + 1 + (d : Int)) := by omega
  have a9 : (k : Int) ≤ (k : Int) + 1 + (d : Int) := by omega
  have t2 : ((k : Int) + 1 + (d : Int)).toNat = k + 1 + d := by omega
  have s1 : k + 1 + d - k = 1 + d := by omega
  have w2 : IntKind.i64.wrap ((k : Int) + 1 + (d : Int)) = (k : Int) + 1 + (d : Int) := IntWalk.i64_in _ (by omega)
  obtain ⟨L, hL⟩ : ∃ L, L = l.take k ++ vs ++ l.drop (k + 1) := ⟨_, rfl⟩
  rw [← hL]
  have hvl2 : (rc vs).length = 2 := by rw [hvl, hm]
  have HLL : Hid (rc L = rc (l.take k) ++ rc vs ++ rc (l.drop (k + 1)) ∧ k + 1 + d = L.length) := ⟨by rw [hL, rc_append, rc_append], by rw [hL, List.length_append, List.length_append, hm, List.length_take, List.length_drop]; omega⟩
  have hlo1 : (over (rc l ++ rest) (k * 2) (rc vs)).length = cap * 2 := by rw [over_len _ _ _ (by rw [hvl2, hcl]; omega), hcl]
  have hlo2 : (over (over (rc l ++ rest) (k * 2) (rc vs)) ((k + 1) * 2) (rc (l.drop (k + 1)))).length = cap * 2 := by rw [over_len _ _ _ (by rw [hVl, hlo1]; omega), hlo1]
  have HB1 : Hid (∀ W : World, Blk W g 54 (rc l ++ rest) → Blk (W.setCells g (k * 2) (rc vs)) g 54 (over (rc l ++ rest) (k * 2) (rc vs))) := fun W hW => hW.setN _ _ (by rw [hvl2, hcl]; omega)
  have HB2 : Hid (∀ W : World, Blk W g 54 (over (rc l ++ rest) (k * 2) (rc vs)) → Blk (W.setCells g ((k + 1) * 2) (rc (l.drop (k + 1)))) g 54 (over (over (rc l ++ rest) (k * 2) (rc vs)) ((k + 1) * 2) (rc (l.drop (k + 1))))) := fun W hW => hW.setN _ _ (by rw [hVl, hlo1]; omega)
  have HC1 : Hid (∀ W : World, Blk W g 54 (rc l ++ rest) → Blk W gv 54 (rc vs) → ∀ ty dc, (Builtin.copy_ #[33, 33] ty #[.slice (some ⟨g, k * 2, none⟩) (1 + d) dc, .slice (some ⟨gv, 0, none⟩) 1 1]).run Tryz.prog W = .ok (goInt (Nat.min 1 (1 + d))) (W.setCells g (k * 2) (rc vs))) := fun W hb hv ty dc => by
    refine run_copy2 hb ?_ ?_ ?_ (rc_one _) ty
    · rw [hvl2]; simp only [Nat.min_def]; split <;> omega
    · rw [hvl2, hcl]; omega
    · intro j v hj
      rw [Addr.add_lit, hv.cell, Nat.zero_add]; exact hj
  have HC2 : Hid (∀ W : World, Blk W g 54 (over (rc l ++ rest) (k * 2) (rc vs)) → ∀ ty dc sc, (Builtin.copy_ #[33, 33] ty #[.slice (some ⟨g, (k + 1) * 2, none⟩) d dc, .slice (some ⟨g, (k + 1) * 2, none⟩) d sc]).run Tryz.prog W = .ok (goInt (Nat.min d d)) (W.setCells g ((k + 1) * 2) (rc (l.drop (k + 1))))) := fun W hb ty dc sc => by
    refine run_copy2 hb ?_ ?_ ?_ (rc_one _) ty
    · rw [hVl]; simp
    · rw [hVl, hlo1]; omega
    · intro j v hj
      rw [Addr.add_lit, hb.cell, over_get _ _ _ (by rw [hvl2, hcl]; omega), if_neg (by rw [hvl2]; omega)]
      exact at_rc (k + 1) hj
  have hclr : ∀ (W : World) (a : Option Addr) (c : Nat) ty, (Builtin.clear_ #[33] ty #[.slice a 0 c]).run Tryz.prog W = .ok (.tuple #[]) W := fun W a c ty => run_clear0 ty
  have HTK : Hid ((over (over (rc l ++ rest) (k * 2) (rc vs)) ((k + 1) * 2) (rc (l.drop (k + 1)))).take ((k + 1 + d) * 2) = rc L) := by
    show _ = _
    rw [show (k + 1 + d) * 2 = (k + 1) * 2 + (rc (l.drop (k + 1))).length by rw [hVl]; omega, over_take _ _ _ (by rw [hlo1]; omega), show (k + 1) * 2 = k * 2 + (rc vs).length by rw [hvl2]; omega, over_take _ _ _ (by rw [hcl]; omega), take_rc (by omega), HLL.out.1]
  have HBK := Lib.hid hb
  have HBV := Lib.hid hv
  have HLO := Lib.hid hlo2
  have HCM := Lib.hid (And.intro hnc (And.intro hcm hBg))
  clear h hl hVl hcl hrl hb hv hvl hlo1 hlo2 hvl2 hL hm
  by_cases hcap : cap = k + 1 + d
  all_goals
    (try subst hcap)
    go_enter Tryz.func71, Tryz.ntmps71
    go_wp2_with (fail)
    go_quiet (fail)
    have hc1 := HC1.out _ (HBK.out.drewN nq) (HBV.out.drewN nq)
    go_wp2_with (fail)
    have HX1 := Lib.hid (HB1.out _ (HBK.out.drewN nq))
    have HY1 := Lib.hid (Only.setCells (F := (B ≤ ·)) g (rc vs) (k * 2) ((Only.refl (B ≤ ·) w).drewN nq) HCM.out.2.2)
    clear hc1
    generalize (w.drewN nq).setCells g (k * 2) (rc vs) = x1 at HX1 HY1 ⊢
    have hc2 := HC2.out _ HX1.out.drew
    go_region
    have HX2 := Lib.hid (HB2.out _ HX1.out.drew)
    have HY2 := Lib.hid (Only.setCells (F := (B ≤ ·)) g (rc (l.drop (k + 1))) ((k + 1) * 2) HY1.out.drew HCM.out.2.2)
    clear hc2
    generalize x1.drew.setCells g ((k + 1) * 2) (rc (l.drop (k + 1))) = x2 at HX2 HY2 ⊢
    go_wp2
    go_ret
    exact ⟨_, k + 1 + d, rfl, own_of_blk HX2.out HLO.out HCM.out.1 HCM.out.2.1 HCM.out.2.2 HTK.out HLL.out.2, HY2.out⟩

set_option maxRecDepth 100000 in
set_option maxHeartbeats 3200000 in
/-- By two, in the midst, where there is room. -/
theorem Repl2f (h : OwnN w B (.slice (some ⟨g, 0, none⟩) (k + 1 + d) cap) (k + 1 + d) l) (hd : 0 < d) (hn : k + 1 + d ≤ 32768) (hB : B ≤ w.heap.size) {gv : Nat} {vs : List R} (hv : Blk w gv 54 (rc vs)) (hm : vs.length = 2) (hgv : gv ≠ g) (hcap : k + 2 + d ≤ cap) :
    Calls Tryz.prog 71 #[.slice (some ⟨g, 0, none⟩) (k + 1 + d) cap, .int .i64 k, .int .i64 ((k : Int) + 1), .slice (some ⟨gv, 0, none⟩) 2 2] w (Lays w B (l.take k ++ vs ++ l.drop (k + 1))) := by
  obtain ⟨rest, hb, hrl, hnc, hcm, hBg⟩ := blk_of_own h
  have hl := h.1
  have hVl : (rc (l.drop (k + 1))).length = d * 2 := by rw [rc_length, List.length_drop]; omega
  have hvl : (rc vs).length = vs.length * 2 := rc_length vs
  have hcl : (rc l ++ rest).length = cap * 2 := by rw [List.length_append, rc_length, hrl]; omega
  have e1 : ((k : Int) == (k : Int) + 1) = false := beq_eq_false_iff_ne.2 (by omega)
  have e2 : ((k : Int) + 1 == (k : Int) + 1 + (d : Int)) = false := beq_eq_false_iff_ne.2 (by omega)
  have a0 : (0 : Int) ≤ (k : Int) := by omega
  have a1 : (0 : Int) ≤ (k : Int) + 1 := by omega
  have a2 : (k : Int) ≤ (k : Int) + 1 := by omega
  have a3 : (k : Int) + 1 ≤ (cap : Int) := by omega
  have a4 : (k : Int) ≤ (cap : Int) := by omega
  have a5 : (k : Int) + 1 ≤ (k : Int) + 1 + (d : Int) := by omega
  have t1 : ((k : Int) + 1).toNat = k + 1 := by omega
  have c1 : ¬ (cap = k) := by omega
  have c2 : ¬ (cap = k + 1) := by omega
  have w0 : IntKind.i64.wrap (k : Int) = (k : Int) := IntWalk.i64_in _ (by omega)
  have w1 : IntKind.i64.wrap ((k : Int) + 1) = (k : Int) + 1 := IntWalk.i64_in _ (by omega)
  have a6 : (k : Int) + 2 + (d : Int) ≤ (cap : Int) := by omega
  have a7 : (0 : Int) ≤ (k : Int) + 2 + (d : Int) := by omega
  have a8 : ¬ ((cap : Int) < (k : Int) + 2 + (d : Int)) := by omega
  have a9 : (k : Int) ≤ (k : Int) + 2 + (d : Int) := by omega
  have b1 : ¬ ((k : Int) + 2 ≤ (k : Int) + 1) := by omega
  have b2 : (k : Int) + 2 ≤ (k : Int) + 2 + (d : Int) := by omega
  have b3 : (k : Int) + 2 ≤ (cap : Int) := by omega
  have b4 : (0 : Int) ≤ (k : Int) + 2 := by omega
  have t2 : ((k : Int) + 2 + (d : Int)).toNat = k + 2 + d := by omega
  have t3 : ((k : Int) + 2).toNat = k + 2 := by omega
  have c3 : ¬ (cap = k + 2) := by omega
  have s1 : k + 2 + d - k = 2 + d := by omega
  have w2 : IntKind.i64.wrap ((k : Int) + 2 + (d : Int)) = (k : Int) + 2 + (d : Int) := IntWalk.i64_in _ (by omega)
  have w3 : IntKind.i64.wrap ((k : Int) + 2) = (k : Int) + 2 := IntWalk.i64_in _ (by omega)
  obtain ⟨L, hL⟩ : ∃ L, L = l.take k ++ vs ++ l.drop (k + 1) := ⟨_, rfl⟩
  rw [← hL]
  have hvl2 : (rc vs).length = 4 := by rw [hvl, hm]
  have HLL : Hid (rc L = rc (l.take k) ++ rc vs ++ rc (l.drop (k + 1)) ∧ k + 2 + d = L.length) := ⟨by rw [hL, rc_append, rc_append], by rw [hL, List.length_append, List.length_append, hm, List.length_take, List.length_drop]; omega⟩
  have hlo1 : (over (rc l ++ rest) ((k + 2) * 2) (rc (l.drop (k + 1)))).length = cap * 2 := by rw [over_len _ _ _ (by rw [hVl, hcl]; omega), hcl]
  have hlo2 : (over (over (rc l ++ rest) ((k + 2) * 2) (rc (l.drop (k + 1)))) (k * 2) (rc vs)).length = cap * 2 := by rw [over_len _ _ _ (by rw [hvl2, hlo1]; omega), hlo1]
  have HB1 : Hid (∀ W : World, Blk W g 54 (rc l ++ rest) → Blk (W.setCells g ((k + 2) * 2) (rc (l.drop (k + 1)))) g 54 (over (rc l ++ rest) ((k + 2) * 2) (rc (l.drop (k + 1))))) := fun W hW => hW.setN _ _ (by rw [hVl, hcl]; omega)
  have HB2 : Hid (∀ W : World, Blk W g 54 (over (rc l ++ rest) ((k + 2) * 2) (rc (l.drop (k + 1)))) → Blk (W.setCells g (k * 2) (rc vs)) g 54 (over (over (rc l ++ rest) ((k + 2) * 2) (rc (l.drop (k + 1)))) (k * 2) (rc vs))) := fun W hW => hW.setN _ _ (by rw [hvl2, hlo1]; omega)
  have HC1 : Hid (∀ W : World, Blk W g 54 (rc l ++ rest) → ∀ ty dc sc, (Builtin.copy_ #[33, 33] ty #[.slice (some ⟨g, (k + 2) * 2, none⟩) d dc, .slice (some ⟨g, (k + 1) * 2, none⟩) d sc]).run Tryz.prog W = .ok (goInt (Nat.min d d)) (W.setCells g ((k + 2) * 2) (rc (l.drop (k + 1))))) := fun W hb ty dc sc => by
    refine run_copy2 hb ?_ ?_ ?_ (rc_one _) ty
    · rw [hVl]; simp
    · rw [hVl, hcl]; omega
    · intro j v hj
      rw [Addr.add_lit, hb.cell]
      exact at_rc (k + 1) hj
  have HC2 : Hid (∀ W : World, Blk W g 54 (over (rc l ++ rest) ((k + 2) * 2) (rc (l.drop (k + 1)))) → Blk W gv 54 (rc vs) → ∀ ty dc, (Builtin.copy_ #[33, 33] ty #[.slice (some ⟨g, k * 2, none⟩) (2 + d) dc, .slice (some ⟨gv, 0, none⟩) 2 2]).run Tryz.prog W = .ok (goInt (Nat.min 2 (2 + d))) (W.setCells g (k * 2) (rc vs))) := fun W hb hv ty dc => by
    refine run_copy2 hb ?_ ?_ ?_ (rc_one _) ty
    · rw [hvl2]; simp only [Nat.min_def]; split <;> omega
    · rw [hvl2, hlo1]; omega
    · intro j v hj
      rw [Addr.add_lit, hv.cell, Nat.zero_add]; exact hj
  have HOV : Hid (∀ W : World, Blk W g 54 (rc l ++ rest) → Blk W gv 54 (rc vs) → ∀ lb cb, (callFunc 80 #[.slice (some ⟨g, (k + 2) * 2, none⟩) lb cb, .slice (some ⟨gv, 0, none⟩) 2 2]).run Tryz.prog W = .ok (.value (.bool false)) W) := fun W hb hv lb cb => by
    rw [run_callFunc_extern Tryz.func80 (by kernel_rfl) (by kernel_rfl) (by kernel_rfl) (e := Extern.SlicesOverlaps.overlaps #[33, 33] #[4]) (by kernel_rfl),
      Lib.run_overlaps_apart W 33 4 54 Tryz.underlying33 2 Tryz.sizeOf54 ⟨g, (k + 2) * 2, none⟩ ⟨gv, 0, none⟩ lb cb 2 2 (Ne.symm hgv) 54 54 (cap * 2) 4 (by unfold Blk at hb; simp only [World.shape?, hb, List.size_toArray, hcl]) (by unfold Blk at hv; simp only [World.shape?, hv, List.size_toArray, hvl2]) (by decide) (hb.frozen _) (hb.frozen _)]
    rfl
  have HTK : Hid ((over (over (rc l ++ rest) ((k + 2) * 2) (rc (l.drop (k + 1)))) (k * 2) (rc vs)).take ((k + 2 + d) * 2) = rc L) := by
    show _ = _
    rw [show (k + 2 + d) * 2 = k * 2 + (rc vs).length + (rc (l.drop (k + 1))).length by rw [hVl, hvl2]; omega, over_over (by rw [hvl2]; omega) (by rw [hVl, hcl]; omega), take_rc (by omega), HLL.out.1, List.append_assoc]
  have HBK := Lib.hid hb
  have HBV := Lib.hid hv
  have HLO := Lib.hid hlo2
  have HCM := Lib.hid (And.intro hcap (And.intro hcm hBg))
  have HGV := Lib.hid hgv
  clear h hl hVl hcl hrl hb hv hvl hlo1 hlo2 hvl2 hL hm hgv
  go_enter Tryz.func71, Tryz.ntmps71
  go_wp2_with (fail)
  go_quiet (fail)
  have hov := HOV.out _ (HBK.out.drewN nq) (HBV.out.drewN nq)
  go_wp2_with (simp only [hov])
  have hc1 := HC1.out _ (HBK.out.drewN (nq + 1))
  go_region
  have HX1 := Lib.hid (HB1.out _ (HBK.out.drewN (nq + 1)))
  have HY1 := Lib.hid (Only.setCells (F := (B ≤ ·)) g (rc (l.drop (k + 1))) ((k + 2) * 2) ((Only.refl (B ≤ ·) w).drewN (nq + 1)) HCM.out.2.2)
  have HV1 := Lib.hid (Blk.farN HGV.out (rc (l.drop (k + 1))) ((k + 2) * 2) (HBV.out.drewN (nq + 1)))
  clear hc1 hov
  generalize (w.drewN (nq + 1)).setCells g ((k + 2) * 2) (rc (l.drop (k + 1))) = x1 at HX1 HY1 HV1 ⊢
  have hc2 := HC2.out _ HX1.out HV1.out
  go_wp2_with (fail)
  go_ret
  exact ⟨_, k + 2 + d, rfl, own_of_blk (HB2.out _ HX1.out) HLO.out HCM.out.1 HCM.out.2.1 HCM.out.2.2 HTK.out HLL.out.2, Only.setCells g (rc vs) (k * 2) HY1.out HCM.out.2.2⟩

set_option maxRecDepth 100000 in
theorem run_grow2 {W : World} {rest : List Value} (hb : Blk W g 54 (rc l ++ rest)) (hk : k ≤ l.length) {c : Nat} (h0 : 0 < c) (hg : cap < k + c) (hs : k + c ≤ 1000000) :
    ∃ G, k + c ≤ G ∧ G ≤ 9223372036854775807 ∧ ∀ ty, (Builtin.append_ #[33, 3] ty #[.slice (some ⟨g, 0, none⟩) k cap, .int .i64 (c : Nat)]).run Tryz.prog W = .ok (.slice (some ⟨W.heap.size, 0, none⟩) (k + c) G) (W.drew.alloc (.cells (rc (l.take k) ++ (zeros c ++ zeros (G - (k + c)))).toArray 54)) := by
  obtain ⟨i0, hi0, hz0, hz1, hz2⟩ := info_parts infoRun
  have hG1 := grownCap_ge W (k + c) cap 54
  have hG2 := grownCap_le_maxLen W (k + c) cap 54 (by unfold maxLen; omega)
  refine ⟨grownCap W (k + c) cap 54, hG1, by unfold maxLen at hG2; omega, fun ty => ?_⟩
  have hold : (Builtin.firstCells i0.size k (.slice (some ⟨g, 0, none⟩) k cap)).run Tryz.prog W.drew = .ok (rc (l.take k)).toArray W.drew := run_firstCells_some W.drew i0.size k ⟨g, 0, none⟩ k cap (rc (l.take k)) (by rw [hz1, rc_length, List.length_take, Nat.min_eq_left hk]) (fun j v hj => by
    rw [Addr.add_lit, hb.drew.cell, Nat.zero_add]
    rw [rc_take, List.getElem?_take] at hj
    split at hj
    · rw [List.getElem?_append_left (List.getElem?_eq_some_iff.1 hj).1]; exact hj
    · cases hj)
  have h := Lib.run_append_grow_zeros W 33 3 ty 54 i0 z2 .i64 .i64 Tryz.underlying33 Tryz.underlying3 hi0 hz0 (some ⟨g, 0, none⟩) k cap (rc (l.take k)) hold c h0 (by rw [hz1]; omega) (by omega) (by omega) (by rw [hz2]; omega) (by rw [hz2]; exact growslice_fits hg (by omega))
  rw [h]
  congr 3
  rw [← zeros_cells, ← zeros_cells]
  simp

set_option maxRecDepth 100000 in
set_option maxHeartbeats 3200000 in
/-- By two, in the midst, where there is no room. -/
theorem Repl2g (h : OwnN w B (.slice (some ⟨g, 0, none⟩) (k + 1 + d) cap) (k + 1 + d) l) (hd : 0 < d) (hn : k + 1 + d ≤ 32768) (hB : B ≤ w.heap.size) {gv : Nat} {vs : List R} (hv : Blk w gv 54 (rc vs)) (hm : vs.length = 2) (hcap : cap < k + 2 + d) :
    Calls Tryz.prog 71 #[.slice (some ⟨g, 0, none⟩) (k + 1 + d) cap, .int .i64 k, .int .i64 ((k : Int) + 1), .slice (some ⟨gv, 0, none⟩) 2 2] w (Lays w B (l.take k ++ vs ++ l.drop (k + 1))) := by
  obtain ⟨rest, hb, hrl, hnc, hcm, hBg⟩ := blk_of_own h
  have hl := h.1
  have hVl : (rc (l.drop (k + 1))).length = d * 2 := by rw [rc_length, List.length_drop]; omega
  have hvl : (rc vs).length = vs.length * 2 := rc_length vs
  have hcl : (rc l ++ rest).length = cap * 2 := by rw [List.length_append, rc_length, hrl]; omega
  have e1 : ((k : Int) == (k : Int) + 1) = false := beq_eq_false_iff_ne.2 (by omega)
  have e2 : ((k : Int) + 1 == (k : Int) + 1 + (d : Int)) = false := beq_eq_false_iff_ne.2 (by omega)
  have a0 : (0 : Int) ≤ (k : Int) := by omega
  have a1 : (0 : Int) ≤ (k : Int) + 1 := by omega
  have a2 : (k : Int) ≤ (k : Int) + 1 := by omega
  have a3 : (k : Int) + 1 ≤ (cap : Int) := by omega
  have a4 : (k : Int) ≤ (cap : Int) := by omega
  have a5 : (k : Int) + 1 ≤ (k : Int) + 1 + (d : Int) := by omega
  have t1 : ((k : Int) + 1).toNat = k + 1 := by omega
  have c1 : ¬ (cap = k) := by omega
  have c2 : ¬ (cap = k + 1) := by omega
  have w0 : IntKind.i64.wrap (k : Int) = (k : Int) := IntWalk.i64_in _ (by omega)
  have w1 : IntKind.i64.wrap ((k : Int) + 1) = (k : Int) + 1 := IntWalk.i64_in _ (by omega)
  have a6 : (cap : Int) < (k : Int) + 2 + (d : Int) := by omega
  have a7 : (0 : Int) ≤ (k : Int) + 2 + (d : Int) := by omega
  have b2 : (k : Int) + 2 ≤ (k : Int) + 2 + (d : Int) := by omega
  have b4 : (0 : Int) ≤ (k : Int) + 2 := by omega
  have t3 : ((k : Int) + 2).toNat = k + 2 := by omega
  have w2 : IntKind.i64.wrap ((k : Int) + 2 + (d : Int)) = (k : Int) + 2 + (d : Int) := IntWalk.i64_in _ (by omega)
  have w3 : IntKind.i64.wrap ((k : Int) + 2) = (k : Int) + 2 := IntWalk.i64_in _ (by omega)
  have hvl2 : (rc vs).length = 4 := by rw [hvl, hm]
  have HGR : Hid (∀ m : Nat, ∃ G, k + (2 + d) ≤ G ∧ G ≤ 9223372036854775807 ∧ ∀ ty, (Builtin.append_ #[33, 3] ty #[.slice (some ⟨g, 0, none⟩) k cap, .int .i64 ((2 + d : Nat) : Int)]).run Tryz.prog (w.drewN m) = .ok (.slice (some ⟨(w.drewN m).heap.size, 0, none⟩) (k + (2 + d)) G) ((w.drewN m).drew.alloc (.cells (rc (l.take k) ++ (zeros (2 + d) ++ zeros (G - (k + (2 + d))))).toArray 54))) := fun m => run_grow2 (hb.drewN m) (by omega) (by omega) (by omega) (by omega)
  obtain ⟨L, hL⟩ : ∃ L, L = l.take k ++ vs ++ l.drop (k + 1) := ⟨_, rfl⟩
  rw [← hL]
  have HLL : Hid (rc L = rc (l.take k) ++ rc vs ++ rc (l.drop (k + 1)) ∧ k + (2 + d) = L.length) := ⟨by rw [hL, rc_append, rc_append], by rw [hL, List.length_append, List.length_append, hm, List.length_take, List.length_drop]; omega⟩
  have HBK := Lib.hid hb
  have HBV := Lib.hid hv
  have HCM := Lib.hid (And.intro hVl (And.intro hvl2 (And.intro hcl (And.intro hl hBg))))
  have s2 : (k : Int) + 2 + (d : Int) - (k : Int) = ((2 + d : Nat) : Int) := by omega
  clear h hl hVl hcl hrl hb hv hvl hvl2 hL hm
  go_enter Tryz.func71, Tryz.ntmps71
  go_wp2_with (fail)
  go_quiet (fail)
  obtain ⟨G, hG1, hG2, hap0⟩ := HGR.out nq
  obtain ⟨base, hbase⟩ : ∃ base, base = rc (l.take k) ++ (zeros (2 + d) ++ zeros (G - (k + (2 + d)))) := ⟨_, rfl⟩
  obtain ⟨wN, hwN⟩ : ∃ wN, wN = (w.drewN nq).drew.alloc (.cells base.toArray 54) := ⟨_, rfl⟩
  obtain ⟨gn, hgn⟩ : ∃ gn, gn = w.heap.size := ⟨_, rfl⟩
  have hap : ∀ ty, (Builtin.append_ #[33, 3] ty #[.slice (some ⟨g, 0, none⟩) k cap, .int .i64 ((k : Int) + 2 + (d : Int) - (k : Int))]).run Tryz.prog (w.drewN nq) = .ok (.slice (some ⟨gn, 0, none⟩) (k + (2 + d)) G) wN := fun ty => by rw [s2, hap0 ty, hwN, hbase, hgn]; rfl
  have HBN : Hid (Blk wN gn 54 base) := by rw [hwN, hgn]; exact Blk.new ((w.drewN nq).drew) 54 base
  have HBG : Hid (Blk wN g 54 (rc l ++ rest)) := by rw [hwN]; exact ((HBK.out.drewN nq).drew).alloc _
  have HBW : Hid (Blk wN gv 54 (rc vs)) := by rw [hwN]; exact ((HBV.out.drewN nq).drew).alloc _
  have HON : Hid (Only (B ≤ ·) w wN) := by rw [hwN]; exact (((Only.refl (B ≤ ·) w).drewN nq).drew).alloc (fun k hk => Nat.le_trans hB hk) _
  have HGN : Hid (B ≤ gn ∧ g ≠ gn ∧ gv ≠ gn) := by
    rw [hgn]; exact ⟨hB, Nat.ne_of_lt HBK.out.lt, Nat.ne_of_lt HBV.out.lt⟩
  have hX := HCM.out
  have hbl : base.length = G * 2 := by rw [hbase]; simp [zeros, rc_length]; omega
  have hbt : base.take (k * 2) = rc (l.take k) := by rw [hbase, List.take_left' (by rw [rc_length, List.length_take, Nat.min_eq_left (by omega)])]
  have hlo1 : (over base (k * 2) (rc vs)).length = G * 2 := by rw [over_len _ _ _ (by rw [hX.2.1, hbl]; omega), hbl]
  have hlo2 : (over (over base (k * 2) (rc vs)) ((k + 2) * 2) (rc (l.drop (k + 1)))).length = G * 2 := by rw [over_len _ _ _ (by rw [hX.1, hlo1]; omega), hlo1]
  have HB1 : Hid (Blk (wN.setCells gn (k * 2) (rc vs)) gn 54 (over base (k * 2) (rc vs))) := HBN.out.setN _ _ (by rw [hX.2.1, hbl]; omega)
  have HB2 : Hid (∀ W : World, Blk W gn 54 (over base (k * 2) (rc vs)) → Blk (W.setCells gn ((k + 2) * 2) (rc (l.drop (k + 1)))) gn 54 (over (over base (k * 2) (rc vs)) ((k + 2) * 2) (rc (l.drop (k + 1))))) := fun W hW => hW.setN _ _ (by rw [hX.1, hlo1]; omega)
  have hc1 : ∀ ty dc, (Builtin.copy_ #[33, 33] ty #[.slice (some ⟨gn, k * 2, none⟩) (2 + d) dc, .slice (some ⟨gv, 0, none⟩) 2 2]).run Tryz.prog wN = .ok (goInt (Nat.min 2 (2 + d))) (wN.setCells gn (k * 2) (rc vs)) := fun ty dc => by
    refine run_copy2 HBN.out ?_ ?_ ?_ (rc_one _) ty
    · rw [hX.2.1]; simp only [Nat.min_def]; split <;> omega
    · rw [hX.2.1, hbl]; omega
    · intro j v hj
      rw [Addr.add_lit, HBW.out.cell, Nat.zero_add]; exact hj
  have HC2 : Hid (∀ W : World, Blk W gn 54 (over base (k * 2) (rc vs)) → Blk W g 54 (rc l ++ rest) → ∀ ty dc sc, (Builtin.copy_ #[33, 33] ty #[.slice (some ⟨gn, (k + 2) * 2, none⟩) d dc, .slice (some ⟨g, (k + 1) * 2, none⟩) d sc]).run Tryz.prog W = .ok (goInt (Nat.min d d)) (W.setCells gn ((k + 2) * 2) (rc (l.drop (k + 1))))) := fun W hb hb' ty dc sc => by
    refine run_copy2 hb ?_ ?_ ?_ (rc_one _) ty
    · rw [hX.1]; simp
    · rw [hX.1, hlo1]; omega
    · intro j v hj
      rw [Addr.add_lit, hb'.cell]
      exact at_rc (k + 1) hj
  have HTK : Hid ((over (over base (k * 2) (rc vs)) ((k + 2) * 2) (rc (l.drop (k + 1)))).take ((k + (2 + d)) * 2) = rc L) := by
    show _ = _
    rw [show (k + (2 + d)) * 2 = (k + 2) * 2 + (rc (l.drop (k + 1))).length by rw [hX.1]; omega, over_take _ _ _ (by rw [hlo1]; omega), show (k + 2) * 2 = k * 2 + (rc vs).length by rw [hX.2.1]; omega, over_take _ _ _ (by rw [hbl]; omega), hbt, HLL.out.1]
  have HLO := Lib.hid hlo2
  have g1 : ¬ (G = k) := by omega
  have g2 : ¬ (G = k + 2) := by omega
  have g3 : (k : Int) ≤ (G : Int) := by omega
  have g4 : (k : Int) + 2 ≤ (G : Int) := by omega
  have b5 : (k : Int) + 2 ≤ (k : Int) + (2 + (d : Int)) := by omega
  have b6 : (k : Int) ≤ (k : Int) + (2 + (d : Int)) := by omega
  have s3 : k + (2 + d) - (k + 2) = d := by omega
  have s4 : IntKind.i64.wrap ((k : Int) + 2 + (d : Int) - (k : Int)) = (k : Int) + 2 + (d : Int) - (k : Int) := IntWalk.i64_in _ (by omega)
  have HG := Lib.hid (And.intro hG1 hG2)
  have HAP := Lib.hid hap
  clear hap0 hbase hwN hgn s2 hbl hbt hlo1 hlo2 hX hG1 hG2 hap
  go_wp2_with (at_builtin; refine Lib.wpList_append_run _ rfl (.tmp 63) (.tmp 66) 33 3 rfl _ _ rfl rfl _ _ (HAP.out _) ?_)
  have HX1 := Lib.hid HB1.out
  have HY1 := Lib.hid (Only.setCells (F := (B ≤ ·)) gn (rc vs) (k * 2) HON.out HGN.out.1)
  have HG1 := Lib.hid (Blk.farN HGN.out.2.1 (rc vs) (k * 2) HBG.out)
  clear hc1 HB1
  generalize wN.setCells gn (k * 2) (rc vs) = x1 at HX1 HY1 HG1 ⊢
  have hc2 := HC2.out _ HX1.out.drew HG1.out.drew
  go_region
  have HX2 := Lib.hid (HB2.out _ HX1.out.drew)
  have HY2 := Lib.hid (Only.setCells (F := (B ≤ ·)) gn (rc (l.drop (k + 1))) ((k + 2) * 2) HY1.out.drew HGN.out.1)
  clear hc2
  generalize x1.drew.setCells gn ((k + 2) * 2) (rc (l.drop (k + 1))) = x2 at HX2 HY2 ⊢
  go_wp2
  go_ret
  exact ⟨_, k + (2 + d), rfl, own_of_blk HX2.out HLO.out HG.out.1 HG.out.2 HGN.out.1 HTK.out HLL.out.2, HY2.out⟩

end
end Go.Proofs.YtmadlckladohbaaGreat
