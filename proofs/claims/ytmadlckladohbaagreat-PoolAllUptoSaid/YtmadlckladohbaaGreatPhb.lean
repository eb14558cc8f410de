/-
  A pool: heldBy, Held.
-/
import Derived.Test.YtmadlckladohbaaGreatPst
import Derived.Test.YtmadlckladohbaaGreatCntp
import Derived.Maps.RangeWalk
set_option linter.unusedVariables false
namespace Go.Proofs.YtmadlckladohbaaGreat
open Go.RowKit

theorem nodup_le : ∀ (m : Nat) (l : List Int), l.Nodup → (∀ p ∈ l, 0 ≤ p ∧ p < m) → l.length ≤ m
  | 0, [], _, _ => Nat.le_refl _
  | 0, x :: l, _, h => by have := h x (by simp); omega
  | m + 1, l, hn, h => by
    have h1 := nodup_le m (l.erase (m : Int)) (hn.erase _) (fun p hp => by
      have hm := (hn.mem_erase_iff).1 hp
      have := h p hm.2
      have := hm.1
      omega)
    by_cases hm : (m : Int) ∈ l
    · rw [List.length_erase_of_mem hm] at h1; omega
    · rw [List.erase_of_not_mem hm] at h1; omega
theorem rise_nodup {l : List Int} (h : l.Pairwise (· < ·)) : l.Nodup := h.imp fun h => by omega

/-- The pages of those that have come. -/
def CameP (S : PS) (which : Int → Bool) (left : Lit → Bool) (ps : List Int) : Prop := ps.Nodup ∧ ∀ p, p ∈ ps ↔ ∃ t, left (.int .i64 t) = false ∧ which t = true ∧ S.H t p
theorem CameP.len {S : PS} {which : Int → Bool} {left : Lit → Bool} {ps : List Int} (hok : S.Ok) (h : CameP S which left ps) : (∀ p ∈ ps, 0 ≤ p ∧ p < 16384) ∧ ps.length ≤ 16384 := by
  have hb : ∀ p ∈ ps, 0 ≤ p ∧ p < 16384 := fun p hp => by
    obtain ⟨t, _, _, ht⟩ := (h.2 p).1 hp
    have := hok.held t p ht
    have := hok.hi
    have := hok.top
    omega
  exact ⟨hb, nodup_le 16384 ps h.1 hb⟩
theorem same_key (z x : Int) : Lit.sameKey (.int .i64 z) (.int .i64 x) = decide (z = x) := by simp [Lit.sameKey]
theorem held_nil {w : World} {pb : Nat} {D : DataW Value} {H : Int → Int → Prop} (h : HoldsAt w pb D H) {t : Int} (ht : Maps.has D (.int .i64 t) = false) (p : Int) : ¬ H t p := fun hp => by
  obtain ⟨v, l, h1, h2, h3, h4⟩ := h t
  rw [Maps.atKey_of_not_has ht] at h1
  cases h1
  obtain ⟨A, c, e, _⟩ := h2
  simp only [nilV, Value.slice.injEq] at e
  have hl : l = [] := List.eq_nil_of_length_eq_zero e.2.1.symm
  have := (h4.2 p).2 hp
  rw [hl] at this
  simp [inn] at this
theorem CameP.start {w : World} {pb : Nat} {D : DataW Value} {S : PS} (h : HoldsAt w pb D S.H) (which : Int → Bool) : CameP S which (Maps.has D) [] := by
  refine ⟨List.nodup_nil, fun p => ⟨fun hp => by simp at hp, ?_⟩⟩
  rintro ⟨t, h1, _, h3⟩
  exact absurd h3 (held_nil h h1 p)
theorem CameP.skip {S : PS} {which : Int → Bool} {left : Lit → Bool} {ps : List Int} (h : CameP S which left ps) {x : Int} (hx : which x = false) : CameP S which (fun z => left z && !z.sameKey (.int .i64 x)) ps := by
  refine ⟨h.1, fun p => ?_⟩
  rw [h.2 p]
  constructor
  · rintro ⟨t, h1, h2, h3⟩
    exact ⟨t, by simp [h1], h2, h3⟩
  · rintro ⟨t, h1, h2, h3⟩
    simp only [same_key] at h1
    by_cases e : t = x
    · rw [e, hx] at h2; cases h2
    · exact ⟨t, by simpa [e] using h1, h2, h3⟩
theorem CameP.step {S : PS} {which : Int → Bool} {left : Lit → Bool} {ps : List Int} (hok : S.Ok) (h : CameP S which left ps) {x : Int} (hl : left (.int .i64 x) = true) (hx : which x = true) {l : List R} (hr : IsRow l (S.H x)) :
    CameP S which (fun z => left z && !z.sameKey (.int .i64 x)) (ps ++ pagesOf l) := by
  refine ⟨List.nodup_append.2 ⟨h.1, rise_nodup (pages_rise hr.1), fun a ha b hb e => ?_⟩, fun p => ?_⟩
  · subst e
    obtain ⟨t, h1, _, h3⟩ := (h.2 a).1 ha
    have h4 := (hr.2 a).1 ((mem_pagesOf hr.1 a).1 hb)
    have := hok.one t x a h3 h4
    subst this
    rw [hl] at h1
    cases h1
  · rw [List.mem_append, h.2 p, mem_pagesOf hr.1, hr.2]
    constructor
    · rintro (⟨t, h1, h2, h3⟩ | h4)
      · exact ⟨t, by simp [h1], h2, h3⟩
      · exact ⟨x, by simp [same_key], hx, h4⟩
    · rintro ⟨t, h1, h2, h3⟩
      simp only [same_key] at h1
      by_cases e : t = x
      · subst e; exact .inr h3
      · exact .inl ⟨t, by simpa [e] using h1, h2, h3⟩
theorem CameP.done {S : PS} {which : Int → Bool} {left : Lit → Bool} {ps : List Int} (h : CameP S which left ps) (hl : ∀ z, left z = false) (p : Int) : p ∈ ps ↔ ∃ t, which t = true ∧ S.H t p := by
  rw [h.2 p]
  exact ⟨fun ⟨t, _, h⟩ => ⟨t, h⟩, fun ⟨t, h⟩ => ⟨t, hl _, h⟩⟩

def HeldSays (w : World) (S : Int → Prop) (e : Ending) (w' : World) : Prop := ∃ v n u, e = .returned v ∧ OwnN w' w.heap.size v n u ∧ IsRow u S ∧ Only (w.heap.size ≤ ·) w w'
theorem new_grown {a w : World} (h : Only (a.heap.size ≤ ·) a w) (row : Option Nat) : a.grownBy w row := ⟨h.os, h.tape, h.output, h.size, fun k hk _ => h.block k (by omega)⟩
theorem ints_src {w : World} {B n : Nat} {v : Value} {ps : List Int} (h : w.ownsRow B 3 1 v n (ic ps)) : ∃ A c, v = .slice A n c ∧ (A = none → n = 0 ∧ c = 0) ∧ ∀ ad, A = some ad → ∀ j u, (ic ps)[j]? = some u → w.cell? (ad.add j) = some u := by
  rcases Joins.ownsRow_forms h with ⟨rfl, rfl⟩ | ⟨g, cap, rfl⟩
  · exact ⟨none, 0, rfl, (fun _ => ⟨rfl, rfl⟩), (fun ad e => by cases e)⟩
  · refine ⟨some ⟨g, 0, none⟩, cap, rfl, (fun e => by cases e), fun ad e j u hu => ?_⟩
    cases e
    exact h.cells (g := g) rfl j u hu
theorem ints_of {w : World} {B n : Nat} {v : Value} {ps : List Int} (h : w.ownsRow B 3 1 v n (ic ps)) (hn : n = ps.length) : ∃ A c, v = .slice A n c ∧ Ints w.heap.size w (.slice A n c) ps := by
  rcases Joins.ownsRow_forms h with ⟨rfl, rfl⟩ | ⟨g, cap, rfl⟩
  · exact ⟨none, 0, rfl, .inl ⟨_, _, rfl, List.eq_nil_of_length_eq_zero hn.symm⟩⟩
  · refine ⟨some ⟨g, 0, none⟩, cap, rfl, .inr ⟨g, 0, cap, by rw [hn], (World.ownsRow.lt h g rfl).2, fun j hj => ?_⟩⟩
    have := h.cells (g := g) rfl j (.int .i64 (ps[j]?.getD 0)) (by rw [ic, List.getElem?_map, List.getElem?_eq_getElem hj]; rfl)
    rwa [Addr.add_lit] at this
theorem ic_append (l m : List Int) : ic (l ++ m) = ic l ++ ic m := List.map_append
theorem only_grown {F : Nat → Prop} {a w w' : World} (h : Only F a w) {row : Option Nat} (hg : w.grownBy w' row) (hF : ∀ k, a.heap.size ≤ k → F k) (hr : ∀ g, row = some g → F g) : Only F a w' := h.grown hg hF hr

set_option maxRecDepth 100000 in
set_option maxHeartbeats 6400000 in
theorem heldBy_pHeld1 (w : World) (pb mb n : Nat) (S : PS) (h : At w pb mb n S) (hok : S.Ok) (which : Int → Bool)
    (HC : ∀ (W : World) (x : Int) (v : Value), Only (w.heap.size ≤ ·) w W → Calls Tryz.prog 47 #[.int .i64 x, v] W (Told W (.bool (which x)))) :
    Calls Tryz.prog 43 #[.pointer (some ⟨pb, 0, none⟩), .func (.func 47) #[] #[]] w (HeldSays w fun p => ∃ t, which t = true ∧ S.H t p) := by
  obtain ⟨fv, fl, D, h⟩ := h
  obtain ⟨c0, c1, c2, c3⟩ := h.cells
  have hown : w.ownsMap Tryz.prog 3 Rv mb n D := h.2.2.2.2.1
  have HH : Hid (HoldsAt w pb D S.H) := Lib.hid h.2.2.2.2.2
  have hmlt := World.ownsMap.lt hown
  have HCC := Lib.hid HC
  have HOK := Lib.hid hok
  obtain ⟨i0, hi0, hz0, hz1, hz2⟩ := info_parts infoI
  have HI := Lib.hid (And.intro hi0 (And.intro hz0 (And.intro hz1 hz2)))
  have HO : Hid (Only (w.heap.size ≤ ·) w w) := Lib.hid (Only.refl _ w)
  clear hi0 hz0 hz1 hz2 h HC hok c0 c1 c2
  obtain ⟨rb, hrb⟩ : ∃ rb, rb = w.heap.size := ⟨_, rfl⟩
  have HRB := Lib.hid hrb
  go_enter Tryz.func43, Tryz.ntmps43
  go_wp2_with (first
    | (at_range; refine wpList_range_own _ rfl _ 66 rfl 3 33 keyed Tryz.underlying66 Rv mb n D rfl hown ?_; intro w0 hrg0 hg0 hs0)
    | (fail))
  rw [← hrb] at hrg0 ⊢
  clear hrb
  have HG0 : Hid (Only (w.heap.size ≤ ·) w w0) := Lib.hid ((Only.refl _ w).grown hg0 (fun _ h => h) (fun g e => by cases e))
  have HS0 : Hid (w0.heap.size = rb + 1) := Lib.hid (by rw [hs0, HRB.out])
  have HRG0 := Lib.hid hrg0
  clear hs0 hg0 hrg0
  go_frame
  go_loopw [5] (fun s wr => ∃ (left : Lit → Bool) (cnt P : Nat) (ps : List Int) (u : Value), s = u ∧ Hid (wr.ranges Tryz.prog 3 Rv mb rb n D left cnt) ∧ Hid (P = ps.length) ∧ P ≤ 16384 ∧ Hid (wr.ownsRow (rb + 1) 3 1 u P (ic ps)) ∧ Hid (CameP S which left ps) ∧ Hid (Only (w.heap.size ≤ ·) w wr))
    (fun _ wr => wr.rangeLeft mb rb)
  case atStart => exact ⟨_, _, 0, [], _, rfl, HRG0, Lib.hid rfl, Nat.zero_le _, Lib.hid (World.ownsRow_nil _ _ _ _), Lib.hid (CameP.start HH.out which), HG0⟩
  case round =>
    obtain ⟨left, cnt, P, ps, u, rfl, HRG, HP, hP, HOW, HCA, HOR⟩ := hrel
    have hrg := HRG.out
    go_wp2_with (first
      | (at_next; refine wpList_next_ranges _ rfl _ rfl 3 keyed Rv (Value.int .i64) id (fun key kl hkey => by obtain ⟨x, rfl, _⟩ := Maps.keyOf_int_inv Tryz.underlying3 hkey; exact ⟨x, rfl⟩) (fun v _ _ => ⟨v, rfl⟩) mb rb n D left cnt rfl hrg ?_ ?_)
      | (fail))
    · intro _ hl0
      obtain ⟨A, c, rfl, hI⟩ := ints_of HOW.out HP.out
      have HIS := Lib.hid hI
      have hcl := HCA.out.len HOK.out
      have HCL := Lib.hid hcl
      clear hI hcl
      go_wp2_with (go_at_call 64; (with_reducible refine (Of_c wr A P c ps HIS.out HP.out (Nat.le_trans HCL.out.2 (by decide)) (fun p hp => by have := HCL.out.1 p hp; omega)).mono ?_); rintro e w2 ⟨v2, n2, l2, rfl, hv2, hr2, ho2⟩; have HV2 := Lib.hid hv2; have HR2 := Lib.hid hr2; have HO2 := Lib.hid ho2; clear hv2 hr2 ho2)
      go_ret
      refine ⟨_, n2, l2, rfl, HV2.out.weaken HOR.out.size, HR2.out.congr fun p => ?_, on_new HOR.out HO2.out⟩
      rw [← HCA.out.done hl0 p]
      exact ⟨fun h => h.1, fun h => ⟨h, by have := HCL.out.1 p h; omega⟩⟩
    · intro x c kl yd yp w1 cnt1 hkey hlx hv hat hrg1 hlt hg1 hs1 hen
      obtain ⟨x', ex, rfl, hwx⟩ := Maps.keyOf_int_inv Tryz.underlying3 hkey
      cases ex
      obtain ⟨rfl, rfl⟩ : yd = .held c ∧ yp = [] := by
        have := Option.some.inj hv
        cases this
        exact ⟨rfl, rfl⟩
      obtain ⟨v, l, e1, e2, e3, e4⟩ := HH.out x
      rw [hat] at e1
      obtain rfl : c = v := by injection e1
      have ho1 : Only (w.heap.size ≤ ·) w w1 := HOR.out.grown hg1 (fun _ h => h) (fun g e => by cases e; exact Nat.le_of_eq HRB.out.symm)
      have HO1 := Lib.hid ho1
      have HROW := Lib.hid (e2.later ho1)
      have HISR := Lib.hid e4
      have HCX := Lib.hid (HCC.out w1 x c ho1)
      have HL := Lib.hid hlx
      have hne : u5.ownBlock ≠ some rb := fun e => by have := (World.ownsRow.lt HOW.out rb e).1; omega
      have HMB : Hid (some mb ≠ u5.ownBlock) := Lib.hid fun e => (by have := (World.ownsRow.lt HOW.out mb e.symm).1; have := HRB.out; omega)
      have HOW1 := Lib.hid (World.ownsRow.kept HOW.out hg1 (.inr hne))
      have HRG1 := Lib.hid hrg1
      have HLT := Lib.hid hlt
      obtain ⟨b, hb⟩ : ∃ b, b = which x := ⟨_, rfl⟩
      rw [← hb] at HCX
      have HB := Lib.hid hb
      have HNE := Lib.hid hne
      have HREN := Lib.hid (And.intro HRG.out.left_eq trivial)
      clear hkey hlx hv hat hrg1 hlt hg1 hs1 e1 e2 e3 e4 ho1 hb hne hrg
      cases b
      · go_wp2_with (go_at_call 47; (with_reducible refine HCX.out.mono ?_); rintro e w2 ⟨rfl, ho2⟩; have HRG2 := Lib.hid (HRG1.out.kept (new_grown ho2 none) (by simp) (by simp)); have HOW2 := Lib.hid (World.ownsRow.kept HOW1.out (new_grown ho2 (some rb)) (.inr HNE.out)); have HO2 := Lib.hid (on_new HO1.out ho2); clear ho2)
        go_roundw
        case rel => exact ⟨_, cnt1, P, ps, _, rfl, HRG2, HP, hP, HOW2, Lib.hid (HCA.out.skip HB.out.symm), HO2⟩
        case measure => rw [HRG2.out.left_eq, HREN.out.1]; exact HLT.out
      · have HCA2 := Lib.hid (HCA.out.step HOK.out HL.out HB.out.symm HISR.out)
        have HLEN : Hid ((ps ++ pagesOf l).length ≤ 16384) := Lib.hid (HCA2.out.len HOK.out).2
        have HI64 : Hid (∀ y ∈ l, I64 y) := Lib.hid (i64_of HISR.out.1)
        have HKN : Hid (known l = l) := Lib.hid (known_of HISR.out.1)
        obtain ⟨q, hq⟩ : ∃ q, q = (pagesOf l).length := ⟨_, rfl⟩
        have hPq : P + q ≤ 16384 := by have := HLEN.out; rw [List.length_append, ← hq, ← HP.out] at this; exact this
        have HQ := Lib.hid hq
        clear hq
        go_wp2_with (first
          | (go_at_call 47; (with_reducible refine HCX.out.mono ?_); rintro e w2 ⟨rfl, ho2⟩; have HRG2 := Lib.hid (HRG1.out.kept (new_grown ho2 none) (by simp) (by simp)); have HOW2 := Lib.hid (World.ownsRow.kept HOW1.out (new_grown ho2 (some rb)) (.inr HNE.out)); have HRW2 := Lib.hid (HROW.out.later ho2); have HO2 := Lib.hid (on_new HO1.out ho2); clear ho2)
          | (go_at_call 63; ((with_reducible refine (Pages_c w2 c l HRW2.out HI64.out).mono ?_); rintro e w3 ⟨v3, rfl, hv3, ho3⟩; rw [HKN.out, ← HQ.out] at hv3; obtain ⟨A3, c3', rfl, hn3, hs3⟩ := ints_src hv3; have HS3 : Hid ((A3 = none → q = 0 ∧ c3' = 0) ∧ ∀ ad, A3 = some ad → ∀ j u, (ic (pagesOf l))[j]? = some u → w3.cell? (ad.add j) = some u) := Lib.hid ⟨hn3, hs3⟩; have HRG3 := Lib.hid (HRG2.out.kept (new_grown ho3 none) (by simp) (by simp)); have HOW3 := Lib.hid (World.ownsRow.kept HOW2.out (new_grown ho3 (some rb)) (.inr HNE.out)); have HO3 := Lib.hid (on_new HO2.out ho3); clear ho3 hv3 hn3 hs3))
          | (at_builtin; refine wpList_append_src _ rfl (.tmp 22) (.tmp 24) 37 rfl (rb + 1) 3 i0 z0 1 8 Tryz.underlying37 HI.out.1 HI.out.2.1 HI.out.2.2.1 HI.out.2.2.2 (by rfl) (by omega) _ P _ rfl HOW3.out A3 q c3' (ic (pagesOf l)) rfl HS3.out.1 (by rw [ic, List.length_map, ← HQ.out, Nat.mul_one]) HS3.out.2 (ic_one _) (by simp only [maxLen]; omega) (by omega) (by have := HRG3.out.lt; omega) ?_; intro v4 w4 ho4 hg4; have HOW4 := Lib.hid ho4; have HRG4 := Lib.hid (HRG3.out.kept hg4 HMB.out HNE.out.symm); have HO4 := Lib.hid (HO3.out.grown hg4 (fun _ h => h) (fun g e => (by have := (World.ownsRow.lt HOW3.out g e).1; have := HRB.out; omega))); clear ho4 hg4))
        go_roundw
        case rel => exact ⟨_, cnt1, P + q, ps ++ pagesOf l, _, rfl, HRG4, Lib.hid (by rw [List.length_append, ← HP.out, ← HQ.out]), hPq, Lib.hid (by have := HOW4.out; rw [← ic_append] at this; exact this), HCA2, HO4⟩
        case measure => rw [HRG4.out.left_eq, HREN.out.1]; exact HLT.out
set_option maxRecDepth 100000 in
set_option maxHeartbeats 6400000 in
theorem heldBy_Settle1 (w : World) (pb mb n : Nat) (S : PS) (h : At w pb mb n S) (hok : S.Ok) (which : Int → Bool) (bx : Nat)
    (HC : ∀ (W : World) (x : Int) (v : Value), Only (w.heap.size ≤ ·) w W → Calls Tryz.prog 42 #[.int .i64 x, v, .pointer (some ⟨bx, 0, none⟩)] W (Told W (.bool (which x)))) :
    Calls Tryz.prog 43 #[.pointer (some ⟨pb, 0, none⟩), .func (.func 42) #[] #[.pointer (some ⟨bx, 0, none⟩)]] w (HeldSays w fun p => ∃ t, which t = true ∧ S.H t p) := by
  obtain ⟨fv, fl, D, h⟩ := h
  obtain ⟨c0, c1, c2, c3⟩ := h.cells
  have hown : w.ownsMap Tryz.prog 3 Rv mb n D := h.2.2.2.2.1
  have HH : Hid (HoldsAt w pb D S.H) := Lib.hid h.2.2.2.2.2
  have hmlt := World.ownsMap.lt hown
  have HCC := Lib.hid HC
  have HOK := Lib.hid hok
  obtain ⟨i0, hi0, hz0, hz1, hz2⟩ := info_parts infoI
  have HI := Lib.hid (And.intro hi0 (And.intro hz0 (And.intro hz1 hz2)))
  have HO : Hid (Only (w.heap.size ≤ ·) w w) := Lib.hid (Only.refl _ w)
  clear hi0 hz0 hz1 hz2 h HC hok c0 c1 c2
  obtain ⟨rb, hrb⟩ : ∃ rb, rb = w.heap.size := ⟨_, rfl⟩
  have HRB := Lib.hid hrb
  go_enter Tryz.func43, Tryz.ntmps43
  go_wp2_with (first
    | (at_range; refine wpList_range_own _ rfl _ 66 rfl 3 33 keyed Tryz.underlying66 Rv mb n D rfl hown ?_; intro w0 hrg0 hg0 hs0)
    | (fail))
  rw [← hrb] at hrg0 ⊢
  clear hrb
  have HG0 : Hid (Only (w.heap.size ≤ ·) w w0) := Lib.hid ((Only.refl _ w).grown hg0 (fun _ h => h) (fun g e => by cases e))
  have HS0 : Hid (w0.heap.size = rb + 1) := Lib.hid (by rw [hs0, HRB.out])
  have HRG0 := Lib.hid hrg0
  clear hs0 hg0 hrg0
  go_frame
  go_loopw [5] (fun s wr => ∃ (left : Lit → Bool) (cnt P : Nat) (ps : List Int) (u : Value), s = u ∧ Hid (wr.ranges Tryz.prog 3 Rv mb rb n D left cnt) ∧ Hid (P = ps.length) ∧ P ≤ 16384 ∧ Hid (wr.ownsRow (rb + 1) 3 1 u P (ic ps)) ∧ Hid (CameP S which left ps) ∧ Hid (Only (w.heap.size ≤ ·) w wr))
    (fun _ wr => wr.rangeLeft mb rb)
  case atStart => exact ⟨_, _, 0, [], _, rfl, HRG0, Lib.hid rfl, Nat.zero_le _, Lib.hid (World.ownsRow_nil _ _ _ _), Lib.hid (CameP.start HH.out which), HG0⟩
  case round =>
    obtain ⟨left, cnt, P, ps, u, rfl, HRG, HP, hP, HOW, HCA, HOR⟩ := hrel
    have hrg := HRG.out
    go_wp2_with (first
      | (at_next; refine wpList_next_ranges _ rfl _ rfl 3 keyed Rv (Value.int .i64) id (fun key kl hkey => by obtain ⟨x, rfl, _⟩ := Maps.keyOf_int_inv Tryz.underlying3 hkey; exact ⟨x, rfl⟩) (fun v _ _ => ⟨v, rfl⟩) mb rb n D left cnt rfl hrg ?_ ?_)
      | (fail))
    · intro _ hl0
      obtain ⟨A, c, rfl, hI⟩ := ints_of HOW.out HP.out
      have HIS := Lib.hid hI
      have hcl := HCA.out.len HOK.out
      have HCL := Lib.hid hcl
      clear hI hcl
      go_wp2_with (go_at_call 64; (with_reducible refine (Of_c wr A P c ps HIS.out HP.out (Nat.le_trans HCL.out.2 (by decide)) (fun p hp => by have := HCL.out.1 p hp; omega)).mono ?_); rintro e w2 ⟨v2, n2, l2, rfl, hv2, hr2, ho2⟩; have HV2 := Lib.hid hv2; have HR2 := Lib.hid hr2; have HO2 := Lib.hid ho2; clear hv2 hr2 ho2)
      go_ret
      refine ⟨_, n2, l2, rfl, HV2.out.weaken HOR.out.size, HR2.out.congr fun p => ?_, on_new HOR.out HO2.out⟩
      rw [← HCA.out.done hl0 p]
      exact ⟨fun h => h.1, fun h => ⟨h, by have := HCL.out.1 p h; omega⟩⟩
    · intro x c kl yd yp w1 cnt1 hkey hlx hv hat hrg1 hlt hg1 hs1 hen
      obtain ⟨x', ex, rfl, hwx⟩ := Maps.keyOf_int_inv Tryz.underlying3 hkey
      cases ex
      obtain ⟨rfl, rfl⟩ : yd = .held c ∧ yp = [] := by
        have := Option.some.inj hv
        cases this
        exact ⟨rfl, rfl⟩
      obtain ⟨v, l, e1, e2, e3, e4⟩ := HH.out x
      rw [hat] at e1
      obtain rfl : c = v := by injection e1
      have ho1 : Only (w.heap.size ≤ ·) w w1 := HOR.out.grown hg1 (fun _ h => h) (fun g e => by cases e; exact Nat.le_of_eq HRB.out.symm)
      have HO1 := Lib.hid ho1
      have HROW := Lib.hid (e2.later ho1)
      have HISR := Lib.hid e4
      have HCX := Lib.hid (HCC.out w1 x c ho1)
      have HL := Lib.hid hlx
      have hne : u5.ownBlock ≠ some rb := fun e => by have := (World.ownsRow.lt HOW.out rb e).1; omega
      have HMB : Hid (some mb ≠ u5.ownBlock) := Lib.hid fun e => (by have := (World.ownsRow.lt HOW.out mb e.symm).1; have := HRB.out; omega)
      have HOW1 := Lib.hid (World.ownsRow.kept HOW.out hg1 (.inr hne))
      have HRG1 := Lib.hid hrg1
      have HLT := Lib.hid hlt
      obtain ⟨b, hb⟩ : ∃ b, b = which x := ⟨_, rfl⟩
      rw [← hb] at HCX
      have HB := Lib.hid hb
      have HNE := Lib.hid hne
      have HREN := Lib.hid (And.intro HRG.out.left_eq trivial)
      clear hkey hlx hv hat hrg1 hlt hg1 hs1 e1 e2 e3 e4 ho1 hb hne hrg
      cases b
      · go_wp2_with (go_at_call 42; (with_reducible refine HCX.out.mono ?_); rintro e w2 ⟨rfl, ho2⟩; have HRG2 := Lib.hid (HRG1.out.kept (new_grown ho2 none) (by simp) (by simp)); have HOW2 := Lib.hid (World.ownsRow.kept HOW1.out (new_grown ho2 (some rb)) (.inr HNE.out)); have HO2 := Lib.hid (on_new HO1.out ho2); clear ho2)
        go_roundw
        case rel => exact ⟨_, cnt1, P, ps, _, rfl, HRG2, HP, hP, HOW2, Lib.hid (HCA.out.skip HB.out.symm), HO2⟩
        case measure => rw [HRG2.out.left_eq, HREN.out.1]; exact HLT.out
      · have HCA2 := Lib.hid (HCA.out.step HOK.out HL.out HB.out.symm HISR.out)
        have HLEN : Hid ((ps ++ pagesOf l).length ≤ 16384) := Lib.hid (HCA2.out.len HOK.out).2
        have HI64 : Hid (∀ y ∈ l, I64 y) := Lib.hid (i64_of HISR.out.1)
        have HKN : Hid (known l = l) := Lib.hid (known_of HISR.out.1)
        obtain ⟨q, hq⟩ : ∃ q, q = (pagesOf l).length := ⟨_, rfl⟩
        have hPq : P + q ≤ 16384 := by have := HLEN.out; rw [List.length_append, ← hq, ← HP.out] at this; exact this
        have HQ := Lib.hid hq
        clear hq
        go_wp2_with (first
          | (go_at_call 42; (with_reducible refine HCX.out.mono ?_); rintro e w2 ⟨rfl, ho2⟩; have HRG2 := Lib.hid (HRG1.out.kept (new_grown ho2 none) (by simp) (by simp)); have HOW2 := Lib.hid (World.ownsRow.kept HOW1.out (new_grown ho2 (some rb)) (.inr HNE.out)); have HRW2 := Lib.hid (HROW.out.later ho2); have HO2 := Lib.hid (on_new HO1.out ho2); clear ho2)
          | (go_at_call 63; ((with_reducible refine (Pages_c w2 c l HRW2.out HI64.out).mono ?_); rintro e w3 ⟨v3, rfl, hv3, ho3⟩; rw [HKN.out, ← HQ.out] at hv3; obtain ⟨A3, c3', rfl, hn3, hs3⟩ := ints_src hv3; have HS3 : Hid ((A3 = none → q = 0 ∧ c3' = 0) ∧ ∀ ad, A3 = some ad → ∀ j u, (ic (pagesOf l))[j]? = some u → w3.cell? (ad.add j) = some u) := Lib.hid ⟨hn3, hs3⟩; have HRG3 := Lib.hid (HRG2.out.kept (new_grown ho3 none) (by simp) (by simp)); have HOW3 := Lib.hid (World.ownsRow.kept HOW2.out (new_grown ho3 (some rb)) (.inr HNE.out)); have HO3 := Lib.hid (on_new HO2.out ho3); clear ho3 hv3 hn3 hs3))
          | (at_builtin; refine wpList_append_src _ rfl (.tmp 22) (.tmp 24) 37 rfl (rb + 1) 3 i0 z0 1 8 Tryz.underlying37 HI.out.1 HI.out.2.1 HI.out.2.2.1 HI.out.2.2.2 (by rfl) (by omega) _ P _ rfl HOW3.out A3 q c3' (ic (pagesOf l)) rfl HS3.out.1 (by rw [ic, List.length_map, ← HQ.out, Nat.mul_one]) HS3.out.2 (ic_one _) (by simp only [maxLen]; omega) (by omega) (by have := HRG3.out.lt; omega) ?_; intro v4 w4 ho4 hg4; have HOW4 := Lib.hid ho4; have HRG4 := Lib.hid (HRG3.out.kept hg4 HMB.out HNE.out.symm); have HO4 := Lib.hid (HO3.out.grown hg4 (fun _ h => h) (fun g e => (by have := (World.ownsRow.lt HOW3.out g e).1; have := HRB.out; omega))); clear ho4 hg4))
        go_roundw
        case rel => exact ⟨_, cnt1, P + q, ps ++ pagesOf l, _, rfl, HRG4, Lib.hid (by rw [List.length_append, ← HP.out, ← HQ.out]), hPq, Lib.hid (by have := HOW4.out; rw [← ic_append] at this; exact this), HCA2, HO4⟩
        case measure => rw [HRG4.out.left_eq, HREN.out.1]; exact HLT.out
set_option maxRecDepth 100000 in
set_option maxHeartbeats 6400000 in
theorem heldBy_State1 (w : World) (pb mb n : Nat) (S : PS) (h : At w pb mb n S) (hok : S.Ok) (which : Int → Bool) (bx : Nat)
    (HC : ∀ (W : World) (x : Int) (v : Value), Only (w.heap.size ≤ ·) w W → Calls Tryz.prog 48 #[.int .i64 x, v, .pointer (some ⟨bx, 0, none⟩)] W (Told W (.bool (which x)))) :
    Calls Tryz.prog 43 #[.pointer (some ⟨pb, 0, none⟩), .func (.func 48) #[] #[.pointer (some ⟨bx, 0, none⟩)]] w (HeldSays w fun p => ∃ t, which t = true ∧ S.H t p) := by
  obtain ⟨fv, fl, D, h⟩ := h
  obtain ⟨c0, c1, c2, c3⟩ := h.cells
  have hown : w.ownsMap Tryz.prog 3 Rv mb n D := h.2.2.2.2.1
  have HH : Hid (HoldsAt w pb D S.H) := Lib.hid h.2.2.2.2.2
  have hmlt := World.ownsMap.lt hown
  have HCC := Lib.hid HC
  have HOK := Lib.hid hok
  obtain ⟨i0, hi0, hz0, hz1, hz2⟩ := info_parts infoI
  have HI := Lib.hid (And.intro hi0 (And.intro hz0 (And.intro hz1 hz2)))
  have HO : Hid (Only (w.heap.size ≤ ·) w w) := Lib.hid (Only.refl _ w)
  clear hi0 hz0 hz1 hz2 h HC hok c0 c1 c2
  obtain ⟨rb, hrb⟩ : ∃ rb, rb = w.heap.size := ⟨_, rfl⟩
  have HRB := Lib.hid hrb
  go_enter Tryz.func43, Tryz.ntmps43
  go_wp2_with (first
    | (at_range; refine wpList_range_own _ rfl _ 66 rfl 3 33 keyed Tryz.underlying66 Rv mb n D rfl hown ?_; intro w0 hrg0 hg0 hs0)
    | (fail))
  rw [← hrb] at hrg0 ⊢
  clear hrb
  have HG0 : Hid (Only (w.heap.size ≤ ·) w w0) := Lib.hid ((Only.refl _ w).grown hg0 (fun _ h => h) (fun g e => by cases e))
  have HS0 : Hid (w0.heap.size = rb + 1) := Lib.hid (by rw [hs0, HRB.out])
  have HRG0 := Lib.hid hrg0
  clear hs0 hg0 hrg0
  go_frame
  go_loopw [5] (fun s wr => ∃ (left : Lit → Bool) (cnt P : Nat) (ps : List Int) (u : Value), s = u ∧ Hid (wr.ranges Tryz.prog 3 Rv mb rb n D left cnt) ∧ Hid (P = ps.length) ∧ P ≤ 16384 ∧ Hid (wr.ownsRow (rb + 1) 3 1 u P (ic ps)) ∧ Hid (CameP S which left ps) ∧ Hid (Only (w.heap.size ≤ ·) w wr))
    (fun _ wr => wr.rangeLeft mb rb)
  case atStart => exact ⟨_, _, 0, [], _, rfl, HRG0, Lib.hid rfl, Nat.zero_le _, Lib.hid (World.ownsRow_nil _ _ _ _), Lib.hid (CameP.start HH.out which), HG0⟩
  case round =>
    obtain ⟨left, cnt, P, ps, u, rfl, HRG, HP, hP, HOW, HCA, HOR⟩ := hrel
    have hrg := HRG.out
    go_wp2_with (first
      | (at_next; refine wpList_next_ranges _ rfl _ rfl 3 keyed Rv (Value.int .i64) id (fun key kl hkey => by obtain ⟨x, rfl, _⟩ := Maps.keyOf_int_inv Tryz.underlying3 hkey; exact ⟨x, rfl⟩) (fun v _ _ => ⟨v, rfl⟩) mb rb n D left cnt rfl hrg ?_ ?_)
      | (fail))
    · intro _ hl0
      obtain ⟨A, c, rfl, hI⟩ := ints_of HOW.out HP.out
      have HIS := Lib.hid hI
      have hcl := HCA.out.len HOK.out
      have HCL := Lib.hid hcl
      clear hI hcl
      go_wp2_with (go_at_call 64; (with_reducible refine (Of_c wr A P c ps HIS.out HP.out (Nat.le_trans HCL.out.2 (by decide)) (fun p hp => by have := HCL.out.1 p hp; omega)).mono ?_); rintro e w2 ⟨v2, n2, l2, rfl, hv2, hr2, ho2⟩; have HV2 := Lib.hid hv2; have HR2 := Lib.hid hr2; have HO2 := Lib.hid ho2; clear hv2 hr2 ho2)
      go_ret
      refine ⟨_, n2, l2, rfl, HV2.out.weaken HOR.out.size, HR2.out.congr fun p => ?_, on_new HOR.out HO2.out⟩
      rw [← HCA.out.done hl0 p]
      exact ⟨fun h => h.1, fun h => ⟨h, by have := HCL.out.1 p h; omega⟩⟩
    · intro x c kl yd yp w1 cnt1 hkey hlx hv hat hrg1 hlt hg1 hs1 hen
      obtain ⟨x', ex, rfl, hwx⟩ := Maps.keyOf_int_inv Tryz.underlying3 hkey
      cases ex
      obtain ⟨rfl, rfl⟩ : yd = .held c ∧ yp = [] := by
        have := Option.some.inj hv
        cases this
        exact ⟨rfl, rfl⟩
      obtain ⟨v, l, e1, e2, e3, e4⟩ := HH.out x
      rw [hat] at e1
      obtain rfl : c = v := by injection e1
      have ho1 : Only (w.heap.size ≤ ·) w w1 := HOR.out.grown hg1 (fun _ h => h) (fun g e => by cases e; exact Nat.le_of_eq HRB.out.symm)
      have HO1 := Lib.hid ho1
      have HROW := Lib.hid (e2.later ho1)
      have HISR := Lib.hid e4
      have HCX := Lib.hid (HCC.out w1 x c ho1)
      have HL := Lib.hid hlx
      have hne : u5.ownBlock ≠ some rb := fun e => by have := (World.ownsRow.lt HOW.out rb e).1; omega
      have HMB : Hid (some mb ≠ u5.ownBlock) := Lib.hid fun e => (by have := (World.ownsRow.lt HOW.out mb e.symm).1; have := HRB.out; omega)
      have HOW1 := Lib.hid (World.ownsRow.kept HOW.out hg1 (.inr hne))
      have HRG1 := Lib.hid hrg1
      have HLT := Lib.hid hlt
      obtain ⟨b, hb⟩ : ∃ b, b = which x := ⟨_, rfl⟩
      rw [← hb] at HCX
      have HB := Lib.hid hb
      have HNE := Lib.hid hne
      have HREN := Lib.hid (And.intro HRG.out.left_eq trivial)
      clear hkey hlx hv hat hrg1 hlt hg1 hs1 e1 e2 e3 e4 ho1 hb hne hrg
      cases b
      · go_wp2_with (go_at_call 48; (with_reducible refine HCX.out.mono ?_); rintro e w2 ⟨rfl, ho2⟩; have HRG2 := Lib.hid (HRG1.out.kept (new_grown ho2 none) (by simp) (by simp)); have HOW2 := Lib.hid (World.ownsRow.kept HOW1.out (new_grown ho2 (some rb)) (.inr HNE.out)); have HO2 := Lib.hid (on_new HO1.out ho2); clear ho2)
        go_roundw
        case rel => exact ⟨_, cnt1, P, ps, _, rfl, HRG2, HP, hP, HOW2, Lib.hid (HCA.out.skip HB.out.symm), HO2⟩
        case measure => rw [HRG2.out.left_eq, HREN.out.1]; exact HLT.out
      · have HCA2 := Lib.hid (HCA.out.step HOK.out HL.out HB.out.symm HISR.out)
        have HLEN : Hid ((ps ++ pagesOf l).length ≤ 16384) := Lib.hid (HCA2.out.len HOK.out).2
        have HI64 : Hid (∀ y ∈ l, I64 y) := Lib.hid (i64_of HISR.out.1)
        have HKN : Hid (known l = l) := Lib.hid (known_of HISR.out.1)
        obtain ⟨q, hq⟩ : ∃ q, q = (pagesOf l).length := ⟨_, rfl⟩
        have hPq : P + q ≤ 16384 := by have := HLEN.out; rw [List.length_append, ← hq, ← HP.out] at this; exact this
        have HQ := Lib.hid hq
        clear hq
        go_wp2_with (first
          | (go_at_call 48; (with_reducible refine HCX.out.mono ?_); rintro e w2 ⟨rfl, ho2⟩; have HRG2 := Lib.hid (HRG1.out.kept (new_grown ho2 none) (by simp) (by simp)); have HOW2 := Lib.hid (World.ownsRow.kept HOW1.out (new_grown ho2 (some rb)) (.inr HNE.out)); have HRW2 := Lib.hid (HROW.out.later ho2); have HO2 := Lib.hid (on_new HO1.out ho2); clear ho2)
          | (go_at_call 63; ((with_reducible refine (Pages_c w2 c l HRW2.out HI64.out).mono ?_); rintro e w3 ⟨v3, rfl, hv3, ho3⟩; rw [HKN.out, ← HQ.out] at hv3; obtain ⟨A3, c3', rfl, hn3, hs3⟩ := ints_src hv3; have HS3 : Hid ((A3 = none → q = 0 ∧ c3' = 0) ∧ ∀ ad, A3 = some ad → ∀ j u, (ic (pagesOf l))[j]? = some u → w3.cell? (ad.add j) = some u) := Lib.hid ⟨hn3, hs3⟩; have HRG3 := Lib.hid (HRG2.out.kept (new_grown ho3 none) (by simp) (by simp)); have HOW3 := Lib.hid (World.ownsRow.kept HOW2.out (new_grown ho3 (some rb)) (.inr HNE.out)); have HO3 := Lib.hid (on_new HO2.out ho3); clear ho3 hv3 hn3 hs3))
          | (at_builtin; refine wpList_append_src _ rfl (.tmp 22) (.tmp 24) 37 rfl (rb + 1) 3 i0 z0 1 8 Tryz.underlying37 HI.out.1 HI.out.2.1 HI.out.2.2.1 HI.out.2.2.2 (by rfl) (by omega) _ P _ rfl HOW3.out A3 q c3' (ic (pagesOf l)) rfl HS3.out.1 (by rw [ic, List.length_map, ← HQ.out, Nat.mul_one]) HS3.out.2 (ic_one _) (by simp only [maxLen]; omega) (by omega) (by have := HRG3.out.lt; omega) ?_; intro v4 w4 ho4 hg4; have HOW4 := Lib.hid ho4; have HRG4 := Lib.hid (HRG3.out.kept hg4 HMB.out HNE.out.symm); have HO4 := Lib.hid (HO3.out.grown hg4 (fun _ h => h) (fun g e => (by have := (World.ownsRow.lt HOW3.out g e).1; have := HRB.out; omega))); clear ho4 hg4))
        go_roundw
        case rel => exact ⟨_, cnt1, P + q, ps ++ pagesOf l, _, rfl, HRG4, Lib.hid (by rw [List.length_append, ← HP.out, ← HQ.out]), hPq, Lib.hid (by have := HOW4.out; rw [← ic_append] at this; exact this), HCA2, HO4⟩
        case measure => rw [HRG4.out.left_eq, HREN.out.1]; exact HLT.out

theorem pHeld1_c (w : World) (x : Int) (v : Value) : Calls Tryz.prog 47 #[.int .i64 x, v] w (Told w (.bool true)) := by
  go_enter Tryz.func47, Tryz.ntmps47
  go_wp2
  go_ret
  exact ⟨rfl, Only.refl _ _⟩
theorem Settle1_c (w : World) (bx : Nat) (x m : Int) (v : Value) (h : w.cell? ⟨bx, 0, none⟩ = some (.int .i64 m)) : Calls Tryz.prog 42 #[.int .i64 x, v, .pointer (some ⟨bx, 0, none⟩)] w fun e w' => e = .returned (.bool (decide (x ≤ m))) ∧ w' = w := by
  go_enter Tryz.func42, Tryz.ntmps42
  go_wp2
  go_ret
  exact ⟨rfl, rfl⟩
theorem State1_c (w : World) (bx : Nat) (x m : Int) (v : Value) (h : w.cell? ⟨bx, 0, none⟩ = some (.int .i64 m)) : Calls Tryz.prog 48 #[.int .i64 x, v, .pointer (some ⟨bx, 0, none⟩)] w (Told w (.bool (decide (x ≠ m)))) := by
  by_cases hx : x = m
  all_goals
    go_enter Tryz.func48, Tryz.ntmps48
    go_wp2
    go_ret
    exact ⟨by simp [hx], Only.refl _ _⟩

theorem pHeld_c (w : World) (pb mb n : Nat) (S : PS) (h : At w pb mb n S) (hok : S.Ok) : Calls Tryz.prog 23 #[.pointer (some ⟨pb, 0, none⟩)] w (HeldSays w fun p => ∃ t, S.H t p) := by
  have H := Lib.hid (heldBy_pHeld1 w pb mb n S h hok (fun _ => true) (fun W x v _ => pHeld1_c W x v))
  clear h hok
  go_enter Tryz.func23, Tryz.ntmps23
  go_wp2_with (go_at_call 43; (with_reducible refine H.out.mono ?_); rintro e w1 ⟨v, n1, l, rfl, hv, hr, ho⟩; have HV := Lib.hid hv; have HR := Lib.hid hr; have HO := Lib.hid ho; clear hv hr ho)
  go_ret
  exact ⟨_, n1, l, rfl, HV.out, HR.out.congr fun p => ⟨fun ⟨t, _, h⟩ => ⟨t, h⟩, fun ⟨t, h⟩ => ⟨t, trivial, h⟩⟩, HO.out⟩
theorem pFree_c (w : World) (pb mb n : Nat) (S : PS) (h : At w pb mb n S) : Calls Tryz.prog 22 #[.pointer (some ⟨pb, 0, none⟩)] w (HeldSays w S.F) := by
  obtain ⟨fv, fl, D, h⟩ := h
  obtain ⟨c0, c1, c2, c3⟩ := h.cells
  have H := Lib.hid (Clone_c w fv fl h.2.1 (Nat.le_trans (right_length h.2.2.2.1.1) (by decide)))
  have HR := Lib.hid h.2.2.2.1
  obtain ⟨A, nn, cc, rfl⟩ := h.2.1.form
  clear h c0 c1 c3
  go_enter Tryz.func22, Tryz.ntmps22
  go_wp2_with (go_at_call 27; (with_reducible refine H.out.mono ?_); rintro e w1 ⟨v, n1, rfl, hv, ho⟩; have HV := Lib.hid hv; have HO := Lib.hid ho; clear hv ho)
  go_ret
  exact ⟨_, n1, fl, rfl, HV.out, HR.out, HO.out⟩

end Go.Proofs.YtmadlckladohbaaGreat
