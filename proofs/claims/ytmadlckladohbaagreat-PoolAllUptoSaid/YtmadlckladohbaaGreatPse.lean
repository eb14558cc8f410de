/-
  A pool: Settle.
-/
import Derived.Test.YtmadlckladohbaaGreatPgw
import Derived.Test.YtmadlckladohbaaGreatShelf
import Derived.Lib.SlMapFilter
set_option linter.unusedVariables false
namespace Go.Proofs.YtmadlckladohbaaGreat
open Go.RowKit Go.Shelf

def pdN (m : Int) : Lit → DataW Value → Bool
  | .int _ t, _ => decide (t ≤ m)
  | _, _ => false
def SettledS (S : PS) (m : Int) : PS := { S with F := fun p => S.F p ∨ ∃ t, t ≤ m ∧ S.H t p, H := fun t p => ¬ t ≤ m ∧ S.H t p }
theorem atKey_del_many {es : List (Lit × DataW Value)} (m t : Int) (z : DataW Value) : (Lib.deleteFuncD (pdN m) (.map es)).atKey (.int .i64 t) z = if t ≤ m then z else (DataW.map es).atKey (.int .i64 t) z := by
  unfold Lib.deleteFuncD DataW.atKey
  simp only [List.find?_filter]
  by_cases h : t ≤ m
  · rw [if_pos h, List.find?_eq_none.2 (fun p _ => ?_)]
    intro hp
    simp only [Bool.not_eq_true', decide_eq_true_eq] at hp
    have e := WideAt.sameKey_eq hp.2
    rw [e] at hp
    simp [pdN, h] at hp
  · rw [if_neg h]
    have e : (fun p : Lit × DataW Value => decide ((!pdN m p.1 p.2) = true ∧ p.1.sameKey (.int .i64 t) = true)) = fun p => p.1.sameKey (.int .i64 t) := by
      funext p
      cases hs : p.1.sameKey (.int .i64 t)
      · simp
      · have e := WideAt.sameKey_eq hs
        rw [e]
        simp [pdN, h]
    rw [e]
theorem settle_at {w w' : World} {pb mb n : Nat} {S : PS} {fv : Value} {fl : List R} {D : DataW Value} (h : AtD w pb mb n S fv fl D) {m : Int}
    (hm : w'.ownsMap Tryz.prog 3 Rv mb n (Lib.deleteFuncD (pdN m) D)) (hg : w.grownBy w' (some mb)) : AtD w' pb mb n { S with H := fun t p => ¬ t ≤ m ∧ S.H t p } fv fl (Lib.deleteFuncD (pdN m) D) := by
  have hne := map_ne h
  have hblk := h.2.2.2.2.1.block
  have hO : Only (fun k => k = mb ∨ w.heap.size ≤ k) w w' := (Only.refl _ w).grown hg (fun k hk => .inr hk) (fun g e => by cases e; exact .inl rfl)
  have hpast : ∀ {v l}, Row w v l → Row w' v l := fun hr => hr.past hO fun k hk => by
    rcases hk with rfl | h
    · exact .inr (.inr hblk)
    · exact .inl h
  obtain ⟨h1, h2, h3, h4, h5, h6⟩ := h
  obtain ⟨es, rfl⟩ := map_is h5
  refine ⟨h1.only hO (fun hk => ?_), hpast h2, h3, h4, hm, fun u => ?_⟩
  · rcases hk with hk | hk
    · exact hne hk
    · have := h1.lt; omega
  · by_cases e : u ≤ m
    · exact ⟨nilV, [], by rw [atKey_del_many, if_pos e], Row.nil_ _, Off.nil_ _ _, rfl, fun p => ⟨fun hp => by simp [inn] at hp, fun hp => absurd e hp.1⟩⟩
    · obtain ⟨v', l', e1, e2, e3, e4⟩ := h6 u
      exact ⟨v', l', by rw [atKey_del_many, if_neg e]; exact e1, hpast e2, e3, e4.congr fun p => ⟨fun hp => ⟨e, hp⟩, fun hp => hp.2⟩⟩

theorem delete_c (w : World) (pb mb n bx : Nat) (S : PS) (fv : Value) (fl : List R) (D : DataW Value) (m : Int) (h : AtD w pb mb n S fv fl D) (hb : Blk w bx 3 [.int .i64 m]) :
    Calls Tryz.prog 44 #[.map (some mb), .func (.func 42) #[] #[.pointer (some ⟨bx, 0, none⟩)]] w fun e w' => e = .returned (.tuple #[]) ∧ w'.ownsMap Tryz.prog 3 Rv mb n (Lib.deleteFuncD (pdN m) D) ∧ w.grownBy w' (some mb) := by
  have eg : ∀ args w, (callFunc 42 args).run Tryz.prog w = .ok (.enter 42 args) w := enters_of Tryz.func42 (by kernel_rfl) rfl
  have hne : bx ≠ mb := by
    rintro rfl
    obtain ⟨es, c, e⟩ := h.2.2.2.2.1.block
    unfold Blk at hb
    rw [e] at hb
    cases hb
  refine AnyDf.maps_DeleteFunc Tryz.layDf keyed Rv (pdN m) 42 #[.pointer (some ⟨bx, 0, none⟩)] mb n D w eg h.2.2.2.2.1 (fun W key val kl yd yp hgW hkey hv => ?_)
  obtain ⟨x, rfl, rfl, _⟩ := Maps.keyOf_int_inv Tryz.underlying3 hkey
  have hc : W.cell? ⟨bx, 0, none⟩ = some (.int .i64 m) := grown_cell hgW (by have := hb.cell 0; simpa using this) hne
  exact (Settle1_c W bx x m val hc).mono fun e w' ⟨h1, h2⟩ => ⟨h1, h2 ▸ World.grownBy.refl _ _⟩

def Settled (w : World) (pb mb n : Nat) (S : PS) (e : Ending) (w' : World) : Prop := e = .returned (.tuple #[]) ∧ At w' pb mb n S ∧ Touch pb mb w w'
set_option maxRecDepth 100000 in
set_option maxHeartbeats 6400000 in
theorem Settle_c (w : World) (pb mb n : Nat) (S : PS) (t o : Int) (h : At w pb mb n S) (hok : S.Ok) (ht : -9223372036854775808 ≤ t ∧ t ≤ 9223372036854775807) (ho : -9223372036854775808 ≤ o ∧ o ≤ 9223372036854775807) :
    Calls Tryz.prog 14 #[.pointer (some ⟨pb, 0, none⟩), .int .i64 t, .int .i64 o] w (Settled w pb mb n (SettledS S (min (max t 0 - 2) o))) := by
  obtain ⟨fv, fl, D, h⟩ := h
  have HAT := Lib.hid h
  have HOK := Lib.hid hok
  have HFI : Hid (∀ y ∈ fl, I64 y) := Lib.hid (i64_of h.2.2.2.1.1)
  have HLT := Lib.hid h.1.lt
  obtain ⟨A, nn, cc, rfl⟩ := h.2.1.form
  clear h hok
  have hmx : (0 : Int) ≤ max t 0 ∧ max t 0 ≤ 9223372036854775807 := by omega
  obtain ⟨M, hM⟩ : ∃ M, M = min (max t 0 - 2) o := ⟨_, rfl⟩
  rw [← hM]
  go_enter Tryz.func14, Tryz.ntmps14
  go_upto_region 2 with (fail)
  rw [← hM]
  obtain ⟨bx, hbx⟩ : ∃ bx, bx = w.heap.size := ⟨_, rfl⟩
  have HBX := Lib.hid hbx
  rw [← hbx]
  have HBZ : Hid (Blk (w.alloc (.cells #[.int .i64 M] 3)).drew bx 3 [.int .i64 M]) := Lib.hid (by rw [hbx]; exact Blk.new w _ [.int .i64 M])
  have HOZ : Hid (Only (w.heap.size ≤ ·) w (w.alloc (.cells #[.int .i64 M] 3)).drew) := Lib.hid ((Only.refl _ w).alloc (fun _ h => h) (.cells #[.int .i64 M] 3)).drew
  have HAZ := Lib.hid (HAT.out.later HOZ.out)
  clear hbx hM
  refine wp_region_list (B := [false, false, false, false, false, false, false, false, false, false, false, false]) (S := (fun _ => True)) (by kernel_rfl) (by kernel_rfl) (by kernel_rfl) trivial (fun hsel hHeld => ?_)
  generalize hwz : World.drew _ = wz at HAZ HOZ HBZ hHeld ⊢
  clear hwz
  have d2 := HAZ.out.cells.2.2.1
  have HHB : Hid (Calls Tryz.prog 43 #[.pointer (some ⟨pb, 0, none⟩), .func (.func 42) #[] #[.pointer (some ⟨bx, 0, none⟩)]] wz (HeldSays wz fun p => ∃ t, decide (t ≤ M) = true ∧ S.H t p)) := Lib.hid (heldBy_Settle1 wz pb mb n S ⟨_, _, _, HAZ.out⟩ HOK.out (fun t => decide (t ≤ M)) bx (fun W x v hW => (Settle1_c W bx x M v (by have := (HBZ.out.later hW).cell 0; simpa using this)).mono fun e w' ⟨h1, h2⟩ => ⟨h1, h2 ▸ Only.refl _ _⟩))
  refine oneA 0 14 hsel (h := ?_)
  simp only [Act.put, List.setIfInBounds_toArray, List.set_cons_zero, List.set_cons_succ]
  refine oneA 1 15 hsel (h := ?_)
  simp only [Act.put, List.setIfInBounds_toArray, List.set_cons_zero, List.set_cons_succ]
  refine oneA 2 16 hsel (h := ?_)
  simp only [Act.put, List.setIfInBounds_toArray, List.set_cons_zero, List.set_cons_succ]
  refine oneA 3 17 hsel (h := ?_)
  simp only [Act.put, List.setIfInBounds_toArray, List.set_cons_zero, List.set_cons_succ]
  refine oneA 5 19 hsel (h := ?_)
  simp only [Act.put, List.setIfInBounds_toArray, List.set_cons_zero, List.set_cons_succ]
  refine oneA 6 20 hsel (h := ?_)
  simp only [Act.put, List.setIfInBounds_toArray, List.set_cons_zero, List.set_cons_succ]
  refine wpAnyL_ready (rs := [4, 7]) (by kernel_rfl) (by kernel_rfl) (by simp) ?_
  refine AllReadyL.cons (o := ?_) ?_ (fun K hK => ?_) (AllReadyL.cons (o := ?_) ?_ (fun K hK => ?_) AllReadyL.nil)
  case refine_2 => (simp only [List.getElem?_cons_succ, List.getElem?_cons_zero]; rfl)
  case refine_5 => (simp only [List.getElem?_cons_succ, List.getElem?_cons_zero]; rfl)
  case refine_3 =>
    go_simp
    clear hHeld
    refine hK.out _ _ trivial (fun hHeld => ?_)
    clear hK K
    try simp only [Act.put, List.setIfInBounds_toArray, List.set_cons_zero, List.set_cons_succ]
    refine wpAnyL_ready (rs := [7]) (by kernel_rfl) (by kernel_rfl) (by simp) ?_
    refine AllReadyL.cons (o := ?_) ?_ (fun K hK => ?_) AllReadyL.nil
    case refine_2 => (simp only [List.getElem?_cons_succ, List.getElem?_cons_zero]; rfl)
    go_simp
    (go_at_call 43; (with_reducible refine HHB.out.mono ?_); rintro ee w7 ⟨v7, n7, l7, rfl, hv7, hl7, ho⟩; have HV7 := Lib.hid hv7; have HL7 := Lib.hid hl7; have HO7 := Lib.hid ho; have HA7 := Lib.hid (HAZ.out.later ho); have d2 := HA7.out.cells.2.2.1; clear hv7 hl7 ho)
    go_wp2_with (fail)
    clear hHeld
    refine hK.out _ _ trivial (fun hHeld => ?_)
    clear hK K
    try simp only [Act.put, List.setIfInBounds_toArray, List.set_cons_zero, List.set_cons_succ]
    refine wpAnyL_ready (rs := [8]) (by kernel_rfl) (by kernel_rfl) (by simp) ?_
    refine AllReadyL.cons (o := ?_) ?_ (fun K hK => ?_) AllReadyL.nil
    case refine_2 => (simp only [List.getElem?_cons_succ, List.getElem?_cons_zero]; rfl)
    have HFR : Hid (Row w7 (.slice A nn cc) fl) := Lib.hid HA7.out.2.1
    have HLI : Hid (∀ y ∈ l7, I64 y) := Lib.hid (i64_of HL7.out.1)
    go_simp
    (go_at_call 41; (with_reducible refine (Union_c w7 _ v7 fl l7 HFR.out HV7.out.row HFI.out HLI.out).mono ?_); rintro ee w8 ⟨v8, n8, l8, rfl, hv8, hl8, ho⟩; obtain ⟨A8, c8, rfl⟩ := hv8.slice; have HV8 := Lib.hid hv8; have HL8 := Lib.hid hl8; have HO8 := Lib.hid (on_new HO7.out ho); have HA8 := Lib.hid (HA7.out.later ho); have e2 := HA8.out.cells.2.2.1; have f2 := HA8.out.frozen 2; clear hv8 hl8 ho)
    go_wp2_with (fail)
    clear hHeld
    refine hK.out _ _ trivial (fun hHeld => ?_)
    clear hK K
    try simp only [Act.put, List.setIfInBounds_toArray, List.set_cons_zero, List.set_cons_succ]
    refine oneA 9 23 hsel (h := ?_)
    simp only [Act.put, List.setIfInBounds_toArray, List.set_cons_zero, List.set_cons_succ]
    refine oneA 10 24 hsel (h := ?_)
    simp only [Act.put, List.setIfInBounds_toArray, List.set_cons_zero, List.set_cons_succ]
    refine wpAnyL_ready (rs := [11]) (by kernel_rfl) (by kernel_rfl) (by simp) ?_
    refine AllReadyL.cons (o := ?_) ?_ (fun K hK => ?_) AllReadyL.nil
    case refine_2 => (simp only [List.getElem?_cons_succ, List.getElem?_cons_zero]; rfl)
    go_simp
    clear hHeld
    refine hK.out _ _ trivial (fun hHeld => ?_)
    clear hK K
    try simp only [Act.put, List.setIfInBounds_toArray, List.set_cons_zero, List.set_cons_succ]
    refine wpAnyL_done (by kernel_rfl) (by kernel_rfl) ?_ _
    clear hsel hHeld
    have HP9 : Hid (AtD (w8.setCell ⟨pb, 2, none⟩ (.slice A8 n8 c8)) pb mb n { S with F := fun p => S.F p ∨ ∃ t, t ≤ M ∧ S.H t p } (.slice A8 n8 c8) l8 D) := Lib.hid (HA8.out.put ((Only.refl (fun k => k = pb) w8).setCell (p := ⟨pb, 2, none⟩) rfl _) (HA8.out.1.set_ 2 _) HV8.out.row (own_off HV8.out (Nat.lt_of_lt_of_le HLT.out (on_new HOZ.out HO7.out).size)) (HL8.out.congr fun p => by rw [mem_row HA8.out.2.2.2.1 p, mem_row HL7.out p]; simp))
    have HB9 : Hid (Blk (w8.setCell ⟨pb, 2, none⟩ (.slice A8 n8 c8)) bx 3 [.int .i64 M]) := Lib.hid ((HBZ.out.later HO8.out).far (p := ⟨pb, 2, none⟩) (by have := HLT.out; have := HBX.out; show bx ≠ pb; omega) _)
    have HO9 : Hid (Touch pb mb w (w8.setCell ⟨pb, 2, none⟩ (.slice A8 n8 c8))) := Lib.hid (Touch.trans (Touch.new (on_new HOZ.out HO8.out)) (Only.mono ((Only.refl (fun k => k = pb) w8).setCell (p := ⟨pb, 2, none⟩) rfl _) fun k hk => .inr (.inl hk)))
    generalize hw9 : World.setCell w8 ⟨pb, 2, none⟩ (.slice A8 n8 c8) = w9 at HP9 HB9 HO9 ⊢
    clear hw9 e2 f2
    have e3 := HP9.out.cells.2.2.2
    go_wp2_with (go_at_call 44; (with_reducible refine (delete_c w9 pb mb n bx _ _ _ D M HP9.out HB9.out).mono ?_); rintro ee w10 ⟨rfl, hm, hg⟩; have HM10 := Lib.hid hm; have HG10 := Lib.hid hg; clear hm hg)
    go_end0
    exact ⟨rfl, ⟨_, _, _, settle_at HP9.out HM10.out HG10.out⟩, Touch.trans HO9.out ((Only.refl _ w9).grown HG10.out (fun k hk => .inl hk) (fun g e => by cases e; exact .inr (.inr rfl)))⟩
  case refine_6 =>
    go_simp
    (go_at_call 43; (with_reducible refine HHB.out.mono ?_); rintro ee w7 ⟨v7, n7, l7, rfl, hv7, hl7, ho⟩; have HV7 := Lib.hid hv7; have HL7 := Lib.hid hl7; have HO7 := Lib.hid ho; have HA7 := Lib.hid (HAZ.out.later ho); have d2 := HA7.out.cells.2.2.1; clear hv7 hl7 ho)
    go_wp2_with (fail)
    clear hHeld
    refine hK.out _ _ trivial (fun hHeld => ?_)
    clear hK K
    try simp only [Act.put, List.setIfInBounds_toArray, List.set_cons_zero, List.set_cons_succ]
    refine wpAnyL_ready (rs := [4]) (by kernel_rfl) (by kernel_rfl) (by simp) ?_
    refine AllReadyL.cons (o := ?_) ?_ (fun K hK => ?_) AllReadyL.nil
    case refine_2 => (simp only [List.getElem?_cons_succ, List.getElem?_cons_zero]; rfl)
    go_simp
    clear hHeld
    refine hK.out _ _ trivial (fun hHeld => ?_)
    clear hK K
    try simp only [Act.put, List.setIfInBounds_toArray, List.set_cons_zero, List.set_cons_succ]
    refine wpAnyL_ready (rs := [8]) (by kernel_rfl) (by kernel_rfl) (by simp) ?_
    refine AllReadyL.cons (o := ?_) ?_ (fun K hK => ?_) AllReadyL.nil
    case refine_2 => (simp only [List.getElem?_cons_succ, List.getElem?_cons_zero]; rfl)
    have HFR : Hid (Row w7 (.slice A nn cc) fl) := Lib.hid HA7.out.2.1
    have HLI : Hid (∀ y ∈ l7, I64 y) := Lib.hid (i64_of HL7.out.1)
    go_simp
    (go_at_call 41; (with_reducible refine (Union_c w7 _ v7 fl l7 HFR.out HV7.out.row HFI.out HLI.out).mono ?_); rintro ee w8 ⟨v8, n8, l8, rfl, hv8, hl8, ho⟩; obtain ⟨A8, c8, rfl⟩ := hv8.slice; have HV8 := Lib.hid hv8; have HL8 := Lib.hid hl8; have HO8 := Lib.hid (on_new HO7.out ho); have HA8 := Lib.hid (HA7.out.later ho); have e2 := HA8.out.cells.2.2.1; have f2 := HA8.out.frozen 2; clear hv8 hl8 ho)
    go_wp2_with (fail)
    clear hHeld
    refine hK.out _ _ trivial (fun hHeld => ?_)
    clear hK K
    try simp only [Act.put, List.setIfInBounds_toArray, List.set_cons_zero, List.set_cons_succ]
    refine oneA 9 23 hsel (h := ?_)
    simp only [Act.put, List.setIfInBounds_toArray, List.set_cons_zero, List.set_cons_succ]
    refine oneA 10 24 hsel (h := ?_)
    simp only [Act.put, List.setIfInBounds_toArray, List.set_cons_zero, List.set_cons_succ]
    refine wpAnyL_ready (rs := [11]) (by kernel_rfl) (by kernel_rfl) (by simp) ?_
    refine AllReadyL.cons (o := ?_) ?_ (fun K hK => ?_) AllReadyL.nil
    case refine_2 => (simp only [List.getElem?_cons_succ, List.getElem?_cons_zero]; rfl)
    go_simp
    clear hHeld
    refine hK.out _ _ trivial (fun hHeld => ?_)
    clear hK K
    try simp only [Act.put, List.setIfInBounds_toArray, List.set_cons_zero, List.set_cons_succ]
    refine wpAnyL_done (by kernel_rfl) (by kernel_rfl) ?_ _
    clear hsel hHeld
    have HP9 : Hid (AtD (w8.setCell ⟨pb, 2, none⟩ (.slice A8 n8 c8)) pb mb n { S with F := fun p => S.F p ∨ ∃ t, t ≤ M ∧ S.H t p } (.slice A8 n8 c8) l8 D) := Lib.hid (HA8.out.put ((Only.refl (fun k => k = pb) w8).setCell (p := ⟨pb, 2, none⟩) rfl _) (HA8.out.1.set_ 2 _) HV8.out.row (own_off HV8.out (Nat.lt_of_lt_of_le HLT.out (on_new HOZ.out HO7.out).size)) (HL8.out.congr fun p => by rw [mem_row HA8.out.2.2.2.1 p, mem_row HL7.out p]; simp))
    have HB9 : Hid (Blk (w8.setCell ⟨pb, 2, none⟩ (.slice A8 n8 c8)) bx 3 [.int .i64 M]) := Lib.hid ((HBZ.out.later HO8.out).far (p := ⟨pb, 2, none⟩) (by have := HLT.out; have := HBX.out; show bx ≠ pb; omega) _)
    have HO9 : Hid (Touch pb mb w (w8.setCell ⟨pb, 2, none⟩ (.slice A8 n8 c8))) := Lib.hid (Touch.trans (Touch.new (on_new HOZ.out HO8.out)) (Only.mono ((Only.refl (fun k => k = pb) w8).setCell (p := ⟨pb, 2, none⟩) rfl _) fun k hk => .inr (.inl hk)))
    generalize hw9 : World.setCell w8 ⟨pb, 2, none⟩ (.slice A8 n8 c8) = w9 at HP9 HB9 HO9 ⊢
    clear hw9 e2 f2
    have e3 := HP9.out.cells.2.2.2
    go_wp2_with (go_at_call 44; (with_reducible refine (delete_c w9 pb mb n bx _ _ _ D M HP9.out HB9.out).mono ?_); rintro ee w10 ⟨rfl, hm, hg⟩; have HM10 := Lib.hid hm; have HG10 := Lib.hid hg; clear hm hg)
    go_end0
    exact ⟨rfl, ⟨_, _, _, settle_at HP9.out HM10.out HG10.out⟩, Touch.trans HO9.out ((Only.refl _ w9).grown HG10.out (fun k hk => .inl hk) (fun g e => by cases e; exact .inr (.inr rfl)))⟩
end Go.Proofs.YtmadlckladohbaaGreat
