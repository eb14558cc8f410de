/-
  A pool: Give, of pages that are free or held; of pages in use.
-/
import Derived.Test.YtmadlckladohbaaGreatPgv
set_option linter.unusedVariables false
namespace Go.Proofs.YtmadlckladohbaaGreat
open Go.RowKit

theorem look_at {w : World} {pb mb n : Nat} {S : PS} {fv : Value} {fl : List R} {D : DataW Value} (h : AtD w pb mb n S fv fl D) {t : Int} (ht : (Lit.int .i64 t).wf = true) :
    ∃ v l, (Instr.lookup 66 (.map (some mb)) (.int .i64 t) false).run Tryz.prog w = .ok v w ∧ Row w v l ∧ Off pb v l ∧ IsRow l (S.H t) := by
  obtain ⟨v, ps, hrun, hv⟩ := World.ownsMap.lookup h.2.2.2.2.1 keyed Tryz.underlying66 (z := nilV) (Tryz.zeroValue33 w) (zd := .held nilV) (zp := []) rfl (Maps.keyOf_int_mk Tryz.underlying3 ht)
  obtain ⟨v', l, e1, e2, e3, e4⟩ := h.2.2.2.2.2 t
  have hv' := Option.some.inj hv
  have h1 : DataW.held v = D.atKey (.int .i64 t) (.held nilV) := congrArg Prod.fst hv'
  rw [e1] at h1
  obtain rfl : v = v' := by injection h1
  exact ⟨v, l, hrun, e2, e3, e4⟩
theorem map_ne {w : World} {pb mb n : Nat} {S : PS} {fv : Value} {fl : List R} {D : DataW Value} (h : AtD w pb mb n S fv fl D) : pb ≠ mb := by
  rintro rfl
  obtain ⟨es, c, e⟩ := h.2.2.2.2.1.block
  have := h.1
  unfold Blk at this
  rw [e] at this
  cases this
theorem map_is {w : World} {mb n : Nat} {D : DataW Value} (h : MapB w mb n D) : Maps.IsMap D := by
  obtain ⟨es, e, _⟩ := World.ownsMap.entries h keyed
  exact ⟨es, e⟩
theorem key_ne {t u : Int} (h : u ≠ t) : Lit.int .i64 u ≠ Lit.int .i64 t := fun e => h (by injection e)
/-- What a transaction holds is put anew. -/
theorem put_at {w w' : World} {pb mb n : Nat} {S : PS} {fv : Value} {fl : List R} {D : DataW Value} (h : AtD w pb mb n S fv fl D) {t : Int} (ht : (Lit.int .i64 t).wf = true) {v : Value} {l : List R} (hv : Row w v l) (hvo : Off pb v l) {H' : Int → Int → Prop} (hl : IsRow l (H' t)) (ho : ∀ u, u ≠ t → ∀ p, S.H u p ↔ H' u p)
    (hm : w'.ownsMap Tryz.prog 3 Rv mb (n + 1) (D.put (.int .i64 t) (.held v))) (hg : w.grownBy w' (some mb)) : AtD w' pb mb (n + 1) { S with H := H' } fv fl (D.put (.int .i64 t) (.held v)) := by
  have hne := map_ne h
  have hblk := h.2.2.2.2.1.block
  have hO : Only (fun k => k = mb ∨ w.heap.size ≤ k) w w' := (Only.refl _ w).grown hg (fun k hk => .inr hk) (fun g e => by cases e; exact .inl rfl)
  have hF : ∀ k, (k = mb ∨ w.heap.size ≤ k) → w.heap.size ≤ k ∨ ∃ es c, w.heap[k]? = some (.map es c) := fun k hk => by
    rcases hk with rfl | hk
    · exact .inr hblk
    · exact .inl hk
  have hpast : ∀ {v l}, Row w v l → Row w' v l := fun hr => hr.past hO fun k hk => by
    rcases hF k hk with h | h
    · exact .inl h
    · exact .inr (.inr h)
  obtain ⟨h1, h2, h3, h4, h5, h6⟩ := h
  refine ⟨h1.only hO (fun hk => ?_), hpast h2, h3, h4, hm, fun u => ?_⟩
  · rcases hk with hk | hk
    · exact hne hk
    · have := h1.lt; omega
  · by_cases e : u = t
    · subst e
      exact ⟨v, l, Maps.atKey_put_same (map_is h5) (keyed.key (Maps.keyOf_int_mk Tryz.underlying3 ht)) _ _, hpast hv, hvo, hl⟩
    · obtain ⟨v', l', e1, e2, e3, e4⟩ := h6 u
      exact ⟨v', l', by rw [Maps.atKey_put_other (key_ne e)]; exact e1, hpast e2, e3, e4.congr (ho u e)⟩

theorem GiveArg_not {S : PS} {t : Int} {x : R} (ha : ¬ GiveArg S t x) (hok : S.Ok) : 0 ≤ t ∧ 2 ≤ x.1 ∧ 1 ≤ x.2 ∧ x.1 + x.2 ≤ S.pages ∧ may x = true := by
  unfold GiveArg at ha
  have := hok.hi
  have := hok.top
  refine ⟨by omega, by omega, by omega, by omega, (may_iff x).2 ⟨by omega, by omega, by omega⟩⟩
theorem one_row {w : World} {x1 x2 : Int} : Row (w.alloc (.cells #[.int .i64 x1, .int .i64 x2] 54)) (.slice (some ⟨w.heap.size, 0, none⟩) 1 1) [(x1, x2)] := by
  have hb : Blk (w.alloc (.cells #[.int .i64 x1, .int .i64 x2] 54)) w.heap.size 54 (rc [(x1, x2)] ++ []) := Blk.new w _ [.int .i64 x1, .int .i64 x2]
  exact ⟨_, 1, rfl, Rs.blk hb, (fun e => by cases e), Nat.le_refl _, by omega⟩

set_option maxRecDepth 100000 in
set_option maxHeartbeats 6400000 in
theorem Give_twice (w : World) (pb mb n : Nat) (S : PS) (t : Int) (x : R) (h : At w pb mb n S) (hok : S.Ok) (ha : ¬ GiveArg S t x) (hu : ¬ Unused S x) :
    Calls Tryz.prog 13 #[.pointer (some ⟨pb, 0, none⟩), .int .i64 t, .agg #[.int .i64 x.1, .int .i64 x.2]] w (Told w (.int .i64 110)) := by
  obtain ⟨fv, fl, D, h⟩ := h
  have HAT := Lib.hid h
  have HOK := Lib.hid hok
  have hlt := h.1.lt
  have HLTP := Lib.hid hlt
  obtain ⟨g1, g2, g3, g4, g5⟩ := GiveArg_not ha hok
  have HB0 : Blk (w.alloc (.cells #[.int .i64 x.1, .int .i64 x.2] 54)) w.heap.size 54 [.int .i64 x.1, .int .i64 x.2] := Blk.new w _ [.int .i64 x.1, .int .i64 x.2]
  have HOB : Hid (Only (w.heap.size ≤ ·) w (w.alloc (.cells #[.int .i64 x.1, .int .i64 x.2] 54))) := Lib.hid (boxed_only w x)
  have c0 := (h.later HOB.out).cells.1
  have q0 := HB0.cell 0
  have q1 := HB0.cell 1
  have HMX := Lib.hid g5
  have o1 := hok.hi
  have o2 := hok.top
  have HUS : Hid (∀ W vx, Only (w.heap.size ≤ ·) w W → Row W vx [x] → Calls Tryz.prog 40 #[.pointer (some ⟨pb, 0, none⟩), vx] W (Told W (.bool false))) := Lib.hid fun W vx hW hx => (inUse_c W pb mb n S vx x ⟨_, _, _, h.later hW⟩ hx g5).mono fun e w' ⟨⟨b, h1, h2⟩, h3⟩ => ⟨by
    rw [h1]
    congr 2
    cases b
    · rfl
    · exact absurd (h2.1 rfl) hu, h3⟩
  clear h HB0 hok ha hlt
  obtain ⟨x1, x2⟩ := x
  obtain ⟨pg, hpg⟩ : ∃ pg, pg = S.pages := ⟨_, rfl⟩
  have HPG := Lib.hid hpg
  rw [← hpg] at g4 c0 o1
  simp only at c0 g1 g2 g3 g4 HOB
  clear hpg
  have e1 : decide (t < 0) = false := decide_eq_false (by omega)
  have e2 : decide (x1 < 2) = false := decide_eq_false (by omega)
  have e3 : decide (x2 < 1) = false := decide_eq_false (by omega)
  have hw : IntKind.i64.wrap (pg - x1) = pg - x1 := IntWalk.i64_in _ (by omega)
  have e4 : decide (pg - x1 < x2) = false := decide_eq_false (by omega)
  go_enter Tryz.func13, Tryz.ntmps13
  go_wp2_with (fail)
  go_quiet (fail)
  have r0 : ((w.alloc (.cells #[.int .i64 x1, .int .i64 x2] 54)).drewN nq).cell? ⟨w.heap.size, 0, none⟩ = some (.int .i64 x1) := q0
  have r1 : ((w.alloc (.cells #[.int .i64 x1, .int .i64 x2] 54)).drewN nq).cell? ⟨w.heap.size, 1, none⟩ = some (.int .i64 x2) := q1
  have HOY : Hid (Only (w.heap.size ≤ ·) w ((w.alloc (.cells #[.int .i64 x1, .int .i64 x2] 54)).drewN nq)) := Lib.hid (HOB.out.drewN _)
  clear q0 q1 c0
  generalize hwy : World.drewN (w.alloc (.cells #[.int .i64 x1, .int .i64 x2] 54)) nq = wy at r0 r1 HOY ⊢
  clear hwy
  have HON : Hid (Only (w.heap.size ≤ ·) w (wy.alloc (.cells #[.int .i64 x1, .int .i64 x2] 54))) := Lib.hid (HOY.out.alloc (fun _ h => h) _)
  have HRX : Hid (Row (wy.alloc (.cells #[.int .i64 x1, .int .i64 x2] 54)) (.slice (some ⟨wy.heap.size, 0, none⟩) 1 1) [(x1, x2)]) := Lib.hid one_row
  go_wp2_with (go_at_call 40; (with_reducible refine (HUS.out _ _ HON.out HRX.out).mono ?_); rintro e w3 ⟨rfl, ho⟩; have HRX3 := Lib.hid (HRX.out.later ho); have HO3 := Lib.hid (on_new HON.out ho); clear ho)
  go_ret
  exact ⟨rfl, HO3.out⟩

def Given (w : World) (pb mb n : Nat) (S : PS) (e : Ending) (w' : World) : Prop := e = .returned (.int .i64 0) ∧ At w' pb mb n S ∧ Touch pb mb w w'
set_option maxRecDepth 100000 in
set_option maxHeartbeats 6400000 in
theorem Give_ok (w : World) (pb mb n : Nat) (S : PS) (t : Int) (x : R) (h : At w pb mb n S) (hok : S.Ok) (ha : ¬ GiveArg S t x) (hu : Unused S x) (ht : t ≤ 9223372036854775807) (hn : n ≤ 100000) :
    Calls Tryz.prog 13 #[.pointer (some ⟨pb, 0, none⟩), .int .i64 t, .agg #[.int .i64 x.1, .int .i64 x.2]] w (Given w pb mb (n + 1) (GaveS S t x)) := by
  have HNB := Lib.hid hn
  have HTW : Hid ((Lit.int .i64 t).wf = true) := Lib.hid (by have := (GiveArg_not ha hok).1; simp [Lit.wf, IntKind.min, IntKind.max, IntKind.signed, IntKind.bits]; omega)
  have HXI : Hid (∀ y ∈ [x], I64 y) := Lib.hid (i64_of (one_right (GiveArg_not ha hok).2.2.2.2))
  obtain ⟨fv, fl, D, h⟩ := h
  have HAT := Lib.hid h
  have HOK := Lib.hid hok
  have hlt := h.1.lt
  have HLTP := Lib.hid hlt
  obtain ⟨g1, g2, g3, g4, g5⟩ := GiveArg_not ha hok
  have HB0 : Blk (w.alloc (.cells #[.int .i64 x.1, .int .i64 x.2] 54)) w.heap.size 54 [.int .i64 x.1, .int .i64 x.2] := Blk.new w _ [.int .i64 x.1, .int .i64 x.2]
  have HOB : Hid (Only (w.heap.size ≤ ·) w (w.alloc (.cells #[.int .i64 x.1, .int .i64 x.2] 54))) := Lib.hid (boxed_only w x)
  have c0 := (h.later HOB.out).cells.1
  have q0 := HB0.cell 0
  have q1 := HB0.cell 1
  have HMX := Lib.hid g5
  have o1 := hok.hi
  have o2 := hok.top
  have HUS : Hid (∀ W vx, Only (w.heap.size ≤ ·) w W → Row W vx [x] → Calls Tryz.prog 40 #[.pointer (some ⟨pb, 0, none⟩), vx] W (Told W (.bool true))) := Lib.hid fun W vx hW hx => (inUse_c W pb mb n S vx x ⟨_, _, _, h.later hW⟩ hx g5).mono fun e w' ⟨⟨b, h1, h2⟩, h3⟩ => ⟨by
    rw [h1]
    congr 2
    exact h2.2 hu, h3⟩
  clear h HB0 hok ha hlt
  obtain ⟨x1, x2⟩ := x
  obtain ⟨pg, hpg⟩ : ∃ pg, pg = S.pages := ⟨_, rfl⟩
  have HPG := Lib.hid hpg
  rw [← hpg] at g4 c0 o1
  simp only at c0 g1 g2 g3 g4 HOB
  clear hpg
  have e1 : decide (t < 0) = false := decide_eq_false (by omega)
  have e2 : decide (x1 < 2) = false := decide_eq_false (by omega)
  have e3 : decide (x2 < 1) = false := decide_eq_false (by omega)
  have hw : IntKind.i64.wrap (pg - x1) = pg - x1 := IntWalk.i64_in _ (by omega)
  have e4 : decide (pg - x1 < x2) = false := decide_eq_false (by omega)
  go_enter Tryz.func13, Tryz.ntmps13
  go_wp2_with (fail)
  go_quiet (fail)
  have r0 : ((w.alloc (.cells #[.int .i64 x1, .int .i64 x2] 54)).drewN nq).cell? ⟨w.heap.size, 0, none⟩ = some (.int .i64 x1) := q0
  have r1 : ((w.alloc (.cells #[.int .i64 x1, .int .i64 x2] 54)).drewN nq).cell? ⟨w.heap.size, 1, none⟩ = some (.int .i64 x2) := q1
  have HOY : Hid (Only (w.heap.size ≤ ·) w ((w.alloc (.cells #[.int .i64 x1, .int .i64 x2] 54)).drewN nq)) := Lib.hid (HOB.out.drewN _)
  clear q0 q1 c0
  generalize hwy : World.drewN (w.alloc (.cells #[.int .i64 x1, .int .i64 x2] 54)) nq = wy at r0 r1 HOY ⊢
  clear hwy
  have HON : Hid (Only (w.heap.size ≤ ·) w (wy.alloc (.cells #[.int .i64 x1, .int .i64 x2] 54))) := Lib.hid (HOY.out.alloc (fun _ h => h) _)
  have HRX : Hid (Row (wy.alloc (.cells #[.int .i64 x1, .int .i64 x2] 54)) (.slice (some ⟨wy.heap.size, 0, none⟩) 1 1) [(x1, x2)]) := Lib.hid one_row
  go_upto_region 6 with (go_at_call 40; (with_reducible refine (HUS.out _ _ HON.out HRX.out).mono ?_); rintro e w3 ⟨rfl, ho⟩; have HRX3 := Lib.hid (HRX.out.later ho); have HO3 := Lib.hid (on_new HON.out ho); clear ho)
  have HAZ := Lib.hid (HAT.out.later HO3.out).drew
  have HAT5 := Lib.hid (HAT.out.later HO3.out).drew
  have HROWX := Lib.hid (HRX3.out.later (Only.refl _ w3).drew)
  have HO := Lib.hid HO3.out.drew
  have HPM := Lib.hid (map_ne HAZ.out)
  obtain ⟨vl, ll, hlk, hrl, hol, hlr⟩ := look_at HAZ.out HTW.out
  have HLK := Lib.hid (And.intro hlk hrl)
  have HLR := Lib.hid hlr
  clear hlk hrl hlr hol
  generalize hvx : Value.slice (some ⟨wy.heap.size, 0, none⟩) 1 1 = vx at HROWX HRX3 ⊢
  generalize hxx : ((x1, x2) : R) = x at HROWX HMX HXI ⊢
  refine wp_region_list (B := [false, false, false, false, false, false, false, false, false, false, false, false, false, false]) (S := (fun W => W.cell? ⟨pb, 3, none⟩ = some (.map (some mb)))) (by kernel_rfl) (by kernel_rfl) (by kernel_rfl) HAT5.out.cells.2.2.2 (fun hsel hHeld => ?_)
  generalize hwz : World.drew _ = wz at HAZ HO hHeld HLK HROWX ⊢
  obtain ⟨hlk, hrl⟩ := HLK.out
  have HROWL := Lib.hid hrl
  clear hwz
  have HOZ := Lib.hid (Only.refl (wz.heap.size ≤ ·) wz)
  have hz3 := HAZ.out.cells.2.2.2
  skip
  have HUN : Hid (∀ W, Only (wz.heap.size ≤ ·) wz W → Calls Tryz.prog 41 #[vl, vx] W (UnionSays W ll [x])) := Lib.hid fun W hW => Union_c W vl vx ll [x] (HROWL.out.later hW) (HROWX.out.later hW) (i64_of HLR.out.1) HXI.out
  refine oneA 0 38 hsel (h := ?_)
  simp only [Act.put, List.setIfInBounds_toArray, List.set_cons_zero, List.set_cons_succ]
  refine oneA 1 39 hsel (h := ?_)
  simp only [Act.put, List.setIfInBounds_toArray, List.set_cons_zero, List.set_cons_succ]
  refine oneA 2 40 hsel (h := ?_)
  simp only [Act.put, List.setIfInBounds_toArray, List.set_cons_zero, List.set_cons_succ]
  refine oneA 3 41 hsel (h := ?_)
  simp only [Act.put, List.setIfInBounds_toArray, List.set_cons_zero, List.set_cons_succ]
  refine oneA 4 42 hsel (h := ?_)
  simp only [Act.put, List.setIfInBounds_toArray, List.set_cons_zero, List.set_cons_succ]
  refine oneA 5 43 hsel (h := ?_)
  simp only [Act.put, List.setIfInBounds_toArray, List.set_cons_zero, List.set_cons_succ]
  refine oneA 6 44 hsel (h := ?_)
  simp only [Act.put, List.setIfInBounds_toArray, List.set_cons_zero, List.set_cons_succ]
  refine oneA 7 45 hsel (h := ?_)
  simp only [Act.put, List.setIfInBounds_toArray, List.set_cons_zero, List.set_cons_succ]
  refine oneA 8 46 hsel (h := ?_)
  simp only [Act.put, List.setIfInBounds_toArray, List.set_cons_zero, List.set_cons_succ]
  refine oneA 9 47 hsel (h := ?_)
  simp only [Act.put, List.setIfInBounds_toArray, List.set_cons_zero, List.set_cons_succ]
  refine oneA 11 49 hsel (h := ?_)
  simp only [Act.put, List.setIfInBounds_toArray, List.set_cons_zero, List.set_cons_succ]
  refine wpAnyL_ready (rs := [10]) (by kernel_rfl) (by kernel_rfl) (by simp) ?_
  refine AllReadyL.cons (o := ?_) ?_ (fun K hK => ?_) AllReadyL.nil
  case refine_2 => (simp only [List.getElem?_cons_succ, List.getElem?_cons_zero]; rfl)
  go_simp
  clear hHeld
  refine hK.out _ _ hz3 (fun hHeld => ?_)
  clear hK K
  try simp only [Act.put, List.setIfInBounds_toArray, List.set_cons_zero, List.set_cons_succ]
  refine wpAnyL_ready (rs := [12]) (by kernel_rfl) (by kernel_rfl) (by simp) ?_
  refine AllReadyL.cons (o := ?_) ?_ (fun K hK => ?_) AllReadyL.nil
  case refine_2 => (simp only [List.getElem?_cons_succ, List.getElem?_cons_zero]; rfl)
  go_simp
  (go_at_call 41; (with_reducible refine (HUN.out _ HOZ.out).mono ?_); rintro ee w5 ⟨v5, n5, u5, rfl, hv5, hu5, ho⟩; have HV5 := Lib.hid hv5; have HU5 := Lib.hid hu5; have HO5 := Lib.hid ho; have HA5 := Lib.hid (HAZ.out.later ho); clear hv5 hu5 ho)
  go_wp2_with (fail)
  clear hHeld
  refine hK.out _ _ HA5.out.cells.2.2.2 (fun hHeld => ?_)
  clear hK K
  try simp only [Act.put, List.setIfInBounds_toArray, List.set_cons_zero, List.set_cons_succ]
  refine wpAnyL_ready (rs := [13]) (by kernel_rfl) (by kernel_rfl) (by simp) ?_
  refine AllReadyL.cons (o := ?_) ?_ (fun K hK => ?_) AllReadyL.nil
  case refine_2 => (simp only [List.getElem?_cons_succ, List.getElem?_cons_zero]; rfl)
  obtain ⟨w6, hup, hm6, hg6⟩ := World.ownsMap.update HA5.out.2.2.2.2.1 keyed Tryz.underlying66 (by simp only [maxLen]; have := HNB.out; omega) (Maps.keyOf_int_mk Tryz.underlying3 HTW.out) (val := v5) rfl
  have HM6 := Lib.hid hm6
  have HG6 := Lib.hid hg6
  have d6 := grown_cell hg6 HA5.out.cells.2.2.2 HPM.out
  clear hm6 hg6
  go_simp
  clear hHeld
  refine hK.out _ _ d6 (fun hHeld => ?_)
  clear hK K
  try simp only [Act.put, List.setIfInBounds_toArray, List.set_cons_zero, List.set_cons_succ]
  clear hup
  refine wpAnyL_done (by kernel_rfl) (by kernel_rfl) ?_ _
  clear hsel hHeld
  go_wp2
  go_ret
  refine ⟨rfl, ⟨fv, fl, _, put_at HA5.out HTW.out HV5.out.row (own_off HV5.out (Nat.lt_of_lt_of_le HLTP.out HO.out.size)) (H' := fun u p => S.H u p ∨ (u = t ∧ within (x1, x2) p)) (HU5.out.congr fun p => ?_) (fun u hu p => ⟨.inl, fun h => h.elim id fun h => absurd h.1 hu⟩) HM6.out HG6.out⟩, Touch.trans (Touch.new (on_new HO.out HO5.out)) ((Only.refl _ w5).grown HG6.out (fun k hk => .inl hk) (fun g e => by cases e; exact .inr (.inr rfl)))⟩
  rw [mem_row HLR.out p, mem_one HMX.out p, ← hxx]
  exact ⟨fun h => h.elim .inl fun h => .inr ⟨rfl, h⟩, fun h => h.elim .inl fun h => .inr h.2⟩
end Go.Proofs.YtmadlckladohbaaGreat
