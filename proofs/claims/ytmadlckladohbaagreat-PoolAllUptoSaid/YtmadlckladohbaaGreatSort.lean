/-
  slices.SortFunc at a row of runs of the call's own, by where they begin.
-/
import Derived.Test.YtmadlckladohbaaGreatConc
import Derived.Lib.SlKeysI
import Derived.Shelf.SlSortCmp.NoneTotal
set_option linter.unusedVariables false
namespace Go.Proofs.YtmadlckladohbaaGreat
open Go.RowKit Go.Shelf Go.Lib Go.Sort

def enc2 (x : R) : List Value := [.int .i64 x.1, .int .i64 x.2]
theorem flat2 (l : List R) : flatK enc2 2 l.toArray = (rc l).toArray := by
  apply Array.ext
  · simp [flatK, rc_length]
  · intro i h1 h2
    have hi : i < l.length * 2 := by simpa [rc_length] using h2
    have hd : i / 2 < l.length := by omega
    have hx : l[i / 2]? = some l[i / 2] := List.getElem?_eq_getElem hd
    have e1 : (flatK enc2 2 l.toArray)[i] = (enc2 l[i / 2])[i % 2]! := by
      rw [← getElem!_pos, get_flatK _ _ _ i (by simpa using hi)]
      simp [hd]
    rw [e1]
    have h0 := rc_get0 hx
    have h1' := rc_get1 hx
    have e2 : (rc l).toArray[i] = (rc l)[i]'(by simpa using h2) := by simp
    rw [e2]
    rcases Nat.mod_two_eq_zero_or_one i with hm | hm
    · rw [show i / 2 * 2 = i by omega] at h0
      obtain ⟨hlt, h0⟩ := List.getElem?_eq_some_iff.1 h0
      rw [h0, hm]; rfl
    · rw [show i / 2 * 2 + 1 = i by omega] at h1'
      obtain ⟨hlt, h1'⟩ := List.getElem?_eq_some_iff.1 h1'
      rw [h1', hm]; rfl

theorem heap_sorted2 {w : World} {g n : Nat} {os : Array Obj} {cur : Array Value} {e : TypeId} {fr : Nat × Nat} (F : Array Value) (hb : w.heap[g]? = some (.cells cur e fr)) :
    (grow (putRow id (Sort.ahead w n) g 0 F) os).heap[g]? = some (.cells (putCells id 0 F cur) e fr) := by
  have hg : g < w.heap.size := (Array.getElem?_eq_some_iff.1 hb).1
  rw [heap_grow_old _ _ (by simpa using hg)]
  simp [putRow, mapBlock, Sort.ahead, Array.getElem?_modify, hb, onCells]
theorem grownBy_sorted2 {w : World} {g n : Nat} {os : Array Obj} (F : Array Value) : w.grownBy (grow (putRow id (Sort.ahead w n) g 0 F) os) (some g) := by
  refine ⟨rfl, rfl, rfl, by simp, fun k hk hne => ?_⟩
  rw [heap_grow_old _ _ (by simpa using hk)]
  have : g ≠ k := fun e => hne (by rw [e])
  simp [putRow, mapBlock, Sort.ahead, Array.getElem?_modify, this]
theorem take_put2 (cur : Array Value) (xs : List Value) (h : xs.length ≤ cur.size) : (putCells id 0 xs.toArray cur).toList.take xs.length = xs := by
  apply List.ext_getElem?
  intro j
  by_cases hj : j < xs.length
  · rw [List.getElem?_take_of_lt hj, Array.getElem?_toList]
    simp [putCells, hj, show j < cur.size by omega]
  · rw [List.getElem?_take_eq_none (by omega), List.getElem?_eq_none (by omega)]
theorem own_sorted2 {w : World} {B n g cap m : Nat} {os : Array Obj} {l l' : List R} (h : w.ownsRow B 54 2 (.slice (some ⟨g, 0, none⟩) n cap) n (rc l)) (hl : l'.length = l.length) :
    (grow (putRow id (Sort.ahead w m) g 0 (rc l').toArray) os).ownsRow B 54 2 (.slice (some ⟨g, 0, none⟩) n cap) n (rc l') := by
  obtain ⟨h1, h2⟩ := h
  rcases h2 with ⟨e, _⟩ | ⟨g', cap', cur, e, hb, hg, hn, hm, hs, ht⟩
  · cases e
  · simp only [Value.slice.injEq, Option.some.injEq, Addr.mk.injEq, and_true, true_and] at e
    obtain ⟨rfl, rfl⟩ := e
    have hle : (rc l').length = n * 2 := by rw [rc_length, hl, ← rc_length, h1]
    refine ⟨hle, .inr ⟨g, cap, _, rfl, hb, heap_sorted2 _ hg, hn, hm, by simp [putCells, hs], ?_⟩⟩
    rw [← hle]
    exact take_put2 cur (rc l') (by omega)
theorem holds2 {w : World} {B n g cap : Nat} {l : List R} (h : w.ownsRow B 54 2 (.slice (some ⟨g, 0, none⟩) n cap) n (rc l)) : HoldsK enc2 2 w g 0 l.toArray := by
  intro j hj
  rw [flat2] at hj ⊢
  have hj' : j < (rc l).length := by simpa using hj
  have hx : (rc l)[j]? = some (rc l)[j] := List.getElem?_eq_getElem hj'
  refine ⟨?_, by rw [Nat.zero_add]; exact h.frozenAt _⟩
  rw [Nat.zero_add, h.cellAt j (by rw [← h.1]; exact hj'), hx]
  simp [hj']

def cfA (x y : R) : Int := Lib.compareInt x.1 y.1
theorem ltA (x y : R) : ltOf cfA x y = decide (x.1 < y.1) := by
  unfold ltOf cfA Lib.compareInt
  by_cases h1 : x.1 < y.1
  · simp [h1]
  · by_cases h2 : y.1 < x.1 <;> simp [h1, h2]
theorem swoA : SWO (ltOf cfA) where
  irrefl x := by rw [ltA]; simp
  trans x y z h1 h2 := by rw [ltA] at *; simp at *; omega
  ntrans x y z h1 h2 := by rw [ltA] at *; simp at *; omega

set_option maxHeartbeats 1000000 in
theorem Union1_c (x y : R) (W : World) : Calls Tryz.prog 60 #[.agg #[.int .i64 x.1, .int .i64 x.2], .agg #[.int .i64 y.1, .int .i64 y.2]] W fun e w' => e = .returned (.int .i64 (cfA x y)) ∧ ∃ q os', w' = grow (W.drewN q) os' := by
  have hcon := fun W' => Tryz.cmp_Compare_int x.1 y.1 W'
  change ∀ W', Calls Tryz.prog 61 _ _ _ at hcon
  obtain ⟨x1, x2⟩ := x
  obtain ⟨y1, y2⟩ := y
  unfold cfA
  simp only at hcon ⊢
  generalize Lib.compareInt x1 y1 = r at hcon ⊢
  go_enter Tryz.func60, Tryz.ntmps60
  go_wp2_with (go_at_call 61; refine (hcon _).mono ?_; rintro e w' ⟨rfl, rfl⟩)
  go_ret
  exact ⟨rfl, 0, _, by rw [alloc_eq_grow, alloc_eq_grow, grow_grow]; rfl⟩

theorem perm_of {d' : Array R} {l : List R} (h : PermIn 0 l.toArray.size l.toArray d') : d'.toList.Perm l := by
  obtain ⟨h1, _, h3⟩ := h
  have e1 : d'.extract 0 l.toArray.size = d' := by rw [← h1]; simp
  have e2 : l.toArray.extract 0 l.toArray.size = l.toArray := by simp
  rw [e1, e2] at h3
  exact h3
theorem pairwise_of {d' : Array R} {n : Nat} (hn : n = d'.size) (h : SortedIn (ltOf cfA) 0 n d') : d'.toList.Pairwise (fun x y => x.1 ≤ y.1) := by
  rw [List.pairwise_iff_getElem]
  intro i j hi hj hij
  have hj' : j < d'.size := by simpa using hj
  have := h i j (Nat.zero_le _) hij (by omega)
  rw [ltA, getElem!_pos d' i (by omega), getElem!_pos d' j hj'] at this
  simp at this
  simpa using this

set_option maxHeartbeats 1000000 in
theorem SortFunc_c (w : World) (B n : Nat) (v : Value) (l : List R) (h : OwnN w B v n l) (hB : B ≤ w.heap.size) (hn : n ≤ 1000000) :
    Calls Tryz.prog 59 #[v, .func (.func 60) #[] #[]] w fun e w' => e = .returned (.tuple #[]) ∧ ∃ l', l'.Perm l ∧ l'.Pairwise (fun x y => x.1 ≤ y.1) ∧ OwnN w' B v n l' ∧ Only (B ≤ ·) w w' := by
  rcases Joins.ownsRow_forms h.2 with ⟨rfl, h0⟩ | ⟨g, cap, rfl⟩
  · subst h0
    obtain rfl : l = [] := List.eq_nil_of_length_eq_zero h.1.symm
    exact (AnyF.slices_SortFunc_none { Tryz.layF06 with } none 0 (.func (.func 60) #[] #[]) w).mono fun e w' ⟨h1, h2⟩ => ⟨h1, [], List.Perm.refl _, List.Pairwise.nil, by rw [h2]; exact h, by rw [h2]; exact Only.refl _ _⟩
  · have eg : ∀ args w, (callFunc 60 args).run Tryz.prog w = .ok (.enter 60 args) w := enters_of Tryz.func60 (by kernel_rfl) rfl
    have hg := World.ownsRow.lt h.2 g rfl
    have hl := h.1
    have hcon := AnyQ.slices_SortFunc Tryz.layF06 2 Tryz.isAgg54 Tryz.sizeOf54 enc2 (fun _ => rfl) (fun x v hv => by simp [enc2] at hv; rcases hv with rfl | rfl <;> rfl) cfA swoA 60 #[] g 0 cap l.toArray w eg (fun _ _ _ _ x y => Union1_c x y _) (holds2 h.2) hg.2 (by simp; omega)
    change Calls Tryz.prog 59 _ _ _ at hcon
    have e0 : l.toArray.size = n := by simp [hl]
    rw [e0] at hcon
    refine hcon.mono fun e w' ⟨h1, d', m, os, h2, h3, h4⟩ => ⟨h1, d'.toList, ?_, ?_, ?_, ?_⟩
    · exact perm_of (by rw [e0]; exact h2)
    · exact pairwise_of (by have := h2.1; simp at this; omega) h3
    · have hd : d'.toList.length = l.length := by have := h2.1; simpa using this
      refine ⟨by rw [hd]; exact hl, ?_⟩
      rw [h4]
      unfold sortWorldK putRowK
      rw [show d' = d'.toList.toArray by simp, flat2]
      exact own_sorted2 h.2 hd
    · rw [h4]
      unfold sortWorldK putRowK
      exact (Only.refl _ w).grown (grownBy_sorted2 _) (fun k hk => Nat.le_trans hB hk) (fun k hk => by cases hk; exact hg.1)
end Go.Proofs.YtmadlckladohbaaGreat
