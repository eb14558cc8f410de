/-
  RunCounts: the walk.
-/
import Derived.Test.YtjnaejogclmooaaRuni
import Derived.Test.YtjnaejogclmooaaCntp
set_option linter.unusedVariables false
namespace Go.Proofs.Ytjnaejogclmooaa
open Go.RowKit

/-- Numbers in memory. -/
def IRow (w : World) (A : Option Addr) (c : Nat) (ps : List Int) : Prop := (A = none ∧ c = 0 ∧ ps = []) ∨ ∃ g, A = some ⟨g, 0, none⟩ ∧ g < w.heap.size ∧ ps.length ≤ c ∧ c ≤ 9223372036854775807 ∧ ∀ j z, ps[j]? = some z → w.cell? ⟨g, j, none⟩ = some (.int .i64 z)
theorem IRow.later {w w' : World} {A : Option Addr} {c : Nat} {ps : List Int} (h : IRow w A c ps) (ho : Only (w.heap.size ≤ ·) w w') : IRow w' A c ps := by
  rcases h with h | ⟨g, h1, h2, h3, h4, h5⟩
  · exact .inl h
  · exact .inr ⟨g, h1, Nat.lt_of_lt_of_le h2 ho.size, h3, h4, fun j z hj => (ho.cell (p := ⟨g, j, none⟩) (Nat.not_le.2 h2)).trans (h5 j z hj)⟩
theorem IRow.at_ {w : World} {A : Option Addr} {c k : Nat} {ps : List Int} (h : IRow w A c ps) (hk : k < ps.length) : ∃ g z, A = some ⟨g, 0, none⟩ ∧ ps[k]? = some z ∧ w.cell? ⟨g, k, none⟩ = some (.int .i64 z) := by
  rcases h with ⟨_, _, rfl⟩ | ⟨g, h1, h2, h3, h4, h5⟩
  · simp at hk
  · exact ⟨g, ps[k], h1, List.getElem?_eq_getElem hk, h5 _ _ (List.getElem?_eq_getElem hk)⟩
theorem Pages_s (W : World) (v : Value) (l : List R) (n : Nat) (h : Row W v l) (hr : ∀ x ∈ l, I64 x) (hn : n = (pagesOf (known l)).length) : Calls Try.prog 13 #[v] W fun e w' => (∃ A c, e = .returned (.slice A n c) ∧ IRow w' A c (pagesOf (known l))) ∧ Only (W.heap.size ≤ ·) W w' :=
  (Pages_c W v l h hr).mono fun e w' ⟨u, h1, h2, h3⟩ => by
    refine ⟨?_, h3⟩
    rcases Joins.ownsRow_forms h2 with ⟨rfl, hz⟩ | ⟨g, cap, rfl⟩
    · have h0 : pagesOf (known l) = [] := List.eq_nil_of_length_eq_zero hz
      exact ⟨none, 0, by rw [h1, hn, hz], .inl ⟨rfl, rfl, h0⟩⟩
    · refine ⟨some ⟨g, 0, none⟩, cap, by rw [h1, hn], .inr ⟨g, rfl, (World.ownsRow.lt h2 g rfl).2, ?_, ?_, fun j z hj => ?_⟩⟩
      · rcases h2.2 with ⟨e, _⟩ | ⟨g', cap', cur, e, hb, hg, hc, hm, _, _⟩
        · cases e
        · cases e; exact hc
      · rcases h2.2 with ⟨e, _⟩ | ⟨g', cap', cur, e, hb, hg, hc, hm, _, _⟩
        · cases e
        · cases e; simpa only [maxLen] using hm
      · have := h2.cells (g := g) rfl j (.int .i64 z) (by unfold ic; rw [List.getElem?_map, hj]; rfl)
        rwa [Addr.add_lit, Nat.zero_add] at this
theorem card_le (u : List R) : card u ≤ 32768 := by
  unfold card
  exact Nat.le_trans List.countP_le_length (by simp)
theorem pages_len {u : List R} (h : right u = true) : (pagesOf u).length = card u := by
  have := pages_length h
  rw [cnt_card h] at this
  omega
theorem Count_n (W : World) (v : Value) (l : List R) (n : Nat) (h : Row W v l) (hr : ∀ x ∈ l, I64 x) (hn : n = card (known l)) : Calls Try.prog 17 #[v] W (Told W (.int .i64 n)) := by
  have := Count_c W v l h hr
  rwa [cnt_card (known_right l), ← hn] at this
def TrueIff (r : Bool) (p : Prop) : Prop := r = true ↔ p
theorem Meet_k (W : World) (v u : Value) (a b : List R) (r : Bool) (h : Row W v a) (h' : Row W u b) (hra : ∀ x ∈ a, I64 x) (hrb : ∀ x ∈ b, I64 x) (e : TrueIff r (∃ p, Mem a p ∧ Mem b p)) : Calls Try.prog 28 #[v, u] W (Told W (.bool r)) := Meet_b W v u a b r h h' hra hrb e
theorem End_i (W : World) (v : Value) (l : List R) (n : Int) (h : Row W v l) (hr : ∀ x ∈ l, I64 x) (hn : n = endOf (known l)) : Calls Try.prog 18 #[v] W (Told W (.int .i64 n)) := by
  have := End_c W v l h hr
  rwa [← hn] at this
theorem End_n (W : World) (v : Value) (l : List R) (n : Nat) (h : Row W v l) (hr : ∀ x ∈ l, I64 x) (hn : (n : Int) = endOf (known l)) : Calls Try.prog 18 #[v] W (Told W (.int .i64 n)) := by
  have := End_c W v l h hr
  rwa [← hn] at this

set_option maxRecDepth 100000 in
set_option maxHeartbeats 6400000 in
theorem counts_good (w : World) (v u : Value) (a b : List R) (h : Row w v a) (h' : Row w u b) (hra : ∀ x ∈ a, I64 x) (hrb : ∀ x ∈ b, I64 x) (hsa : true = short a) (hsb : true = short b) :
    Calls Try.prog 9 #[v, u] w (Told w (.bool true)) := by
  have HO : Hid (Only (w.heap.size ≤ ·) w w) := Only.refl _ w
  have HA := Lib.hid h
  have HB := Lib.hid h'
  have HAi := Lib.hid hra
  have HBi := Lib.hid hrb
  have HSA := Lib.hid hsa
  have HSB := Lib.hid hsb
  have HAlen : Hid (a.length ≤ 1000000) := Nat.le_trans (short_iff hsa.symm).1 (by decide)
  have HBlen : Hid (b.length ≤ 1000000) := Nat.le_trans (short_iff hsb.symm).1 (by decide)
  have ha1 := card_le (known a)
  have hb1 := card_le (known b)
  obtain ⟨ea1, ea2, _, _⟩ := endOf_facts (known_right a)
  obtain ⟨eb1, eb2, _, _⟩ := endOf_facts (known_right b)
  obtain ⟨n1, hn1⟩ : ∃ n, n = card (known a) := ⟨_, rfl⟩
  obtain ⟨n2, hn2⟩ : ∃ n, n = card (known b) := ⟨_, rfl⟩
  obtain ⟨e1, he1⟩ : ∃ n : Nat, (n : Int) = endOf (known a) := ⟨(endOf (known a)).toNat, by omega⟩
  obtain ⟨e2, he2⟩ : ∃ n : Nat, (n : Int) = endOf (known b) := ⟨(endOf (known b)).toNat, by omega⟩
  have HN1 := Lib.hid hn1
  have HN2 := Lib.hid hn2
  have HE1 := Lib.hid he1
  have HE2 := Lib.hid he2
  have HEU : Hid (∀ u, IsRow u (fun p => Mem a p ∨ Mem b p) → max (e1 : Int) (e2 : Int) = endOf (known u)) := fun u hu => by
    rw [known_of hu.1, endOf_union hu.1 (known_right a) (known_right b) hu.2, ← he1, ← he2]
  rw [← hn1] at ha1
  rw [← hn2] at hb1
  rw [← he1] at ea2
  rw [← he2] at eb2
  have HPL : Hid (n1 = (pagesOf (known a)).length) := by show _ = _; rw [pages_len (known_right a)]; exact hn1
  obtain ⟨ps, hps⟩ : ∃ ps, ps = pagesOf (known a) := ⟨_, rfl⟩
  have HPS := Lib.hid hps
  clear h h' hra hrb hsa hsb hn1 hn2 he1 he2 ea1 eb1 hps
  go_enter Try.func9, Try.ntmps9
  go_wp2_with (first
    | (go_at_call 10; (with_reducible refine (few_b _ _ _ _ HA.out HSA.out).mono ?_); rintro e w1 ⟨rfl, ho⟩; (try replace HA := Lib.hid (HA.out.later ho)); (try replace HB := Lib.hid (HB.out.later ho)); (try replace HX := Lib.hid (HX.out.later ho)); (try replace HY := Lib.hid (HY.out.later ho)); (try replace HP := Lib.hid (HP.out.later ho)); replace HO := Lib.hid (on_new HO.out ho); clear ho)
    | (go_at_call 10; (with_reducible refine (few_b _ _ _ _ HB.out HSB.out).mono ?_); rintro e w2 ⟨rfl, ho⟩; (try replace HA := Lib.hid (HA.out.later ho)); (try replace HB := Lib.hid (HB.out.later ho)); (try replace HX := Lib.hid (HX.out.later ho)); (try replace HY := Lib.hid (HY.out.later ho)); (try replace HP := Lib.hid (HP.out.later ho)); replace HO := Lib.hid (on_new HO.out ho); clear ho)
    | (go_at_call 14; (with_reducible refine (of_v _ _ _ HA.out (by first | exact HAlen.out | decide)).mono ?_); rintro e wx ⟨⟨vx, rfl, h⟩, ho⟩; (try replace HA := Lib.hid (HA.out.later ho)); (try replace HB := Lib.hid (HB.out.later ho)); (try replace HX := Lib.hid (HX.out.later ho)); (try replace HY := Lib.hid (HY.out.later ho)); (try replace HP := Lib.hid (HP.out.later ho)); have HX := Lib.hid h; (try have HXlen := Lib.hid HAlen.out); (try have HXi := Lib.hid HAi.out); clear h; replace HO := Lib.hid (on_new HO.out ho); clear ho)
    | (go_at_call 14; (with_reducible refine (of_v _ _ _ HB.out (by first | exact HBlen.out | decide)).mono ?_); rintro e wy ⟨⟨vy, rfl, h⟩, ho⟩; (try replace HA := Lib.hid (HA.out.later ho)); (try replace HB := Lib.hid (HB.out.later ho)); (try replace HX := Lib.hid (HX.out.later ho)); (try replace HY := Lib.hid (HY.out.later ho)); (try replace HP := Lib.hid (HP.out.later ho)); have HY := Lib.hid h; (try have HYlen := Lib.hid HBlen.out); (try have HYi := Lib.hid HBi.out); clear h; replace HO := Lib.hid (on_new HO.out ho); clear ho)
    | (go_at_call 13; (with_reducible refine (Pages_s _ _ _ _ HX.out HXi.out HPL.out).mono ?_); rintro e wp ⟨⟨ap, cp, rfl, h⟩, ho⟩; (try replace HA := Lib.hid (HA.out.later ho)); (try replace HB := Lib.hid (HB.out.later ho)); (try replace HX := Lib.hid (HX.out.later ho)); (try replace HY := Lib.hid (HY.out.later ho)); (try replace HP := Lib.hid (HP.out.later ho)); have HP := Lib.hid h; clear h; replace HO := Lib.hid (on_new HO.out ho); clear ho))
  rw [← HPS.out] at HP HPL
  have HY0 := Lib.hid HY.out
  go_loopw [7, 26] (fun s i wr => ∃ (k c : Nat), k ≤ n1 ∧ c ≤ k ∧ s = .int .i64 c ∧ i = .int .i64 k ∧ c = (ps.take k).countP (fun p => inn (known b) p) ∧ Only (wp.heap.size ≤ ·) wp wr) (fun _ i _ => n1 - (intOf i).toNat)
  case atStart => exact ⟨0, 0, Nat.zero_le _, Nat.le_refl _, rfl, rfl, by simp, Only.refl _ _⟩
  case round =>
    obtain ⟨k, c, hk, hck, rfl, rfl, hcc, ho⟩ := hrel
    have HQ := Lib.hid ho
    have HCC := Lib.hid hcc
    clear ho hcc
    by_cases hlt : k < n1
    · obtain ⟨g, z, rfl, hz, hcz⟩ := (HP.out.later HQ.out).at_ (k := k) (by rw [← HPL.out]; exact hlt)
      have hzi := inn_lt (known_right a) ((mem_pagesOf (known_right a) z).1 (by rw [← HPS.out]; exact List.mem_of_getElem? hz))
      have hct : (ps.take (k + 1)).countP (fun p => inn (known b) p) = c + if inn (known b) z = true then 1 else 0 := by
        rw [List.take_add_one, hz, List.countP_append, ← HCC.out]
        simp [List.countP_singleton]
      obtain ⟨bz, hbz⟩ : ∃ x, x = inn (known b) z := ⟨_, rfl⟩
      have HHAS : Hid (∀ W, Row W vy b → Calls Try.prog 19 #[vy, .int .i64 z] W (Told W (.bool bz))) := fun W hW => by
        rw [hbz]; exact Has_c W vy b z hW HBi.out (by omega) (by omega)
      rw [← hbz] at hct
      have HCT := Lib.hid hct
      have HYr := Lib.hid (HY0.out.later HQ.out)
      have aw : IntKind.i64.wrap ((c : Int) + 1) = ((c + 1 : Nat) : Int) := by rw [IntWalk.i64_in _ (by omega)]; omega
      clear hz hzi hbz hct
      cases bz
      · go_wp2_with (go_at_call 19; (with_reducible refine (HHAS.out _ HYr.out).mono ?_); rintro e w9 ⟨rfl, ho9⟩; have HO9 := Lib.hid (on_new HQ.out ho9); clear ho9)
        go_roundw
        case rel => exact ⟨k + 1, c, by omega, by omega, rfl, by go_num, by rw [HCT.out]; rfl, HO9.out⟩
        case measure => simp [intOf]; omega
      · go_wp2_with (go_at_call 19; (with_reducible refine (HHAS.out _ HYr.out).mono ?_); rintro e w9 ⟨rfl, ho9⟩; have HO9 := Lib.hid (on_new HQ.out ho9); clear ho9)
        go_roundw
        case rel => exact ⟨k + 1, c + 1, by omega, by omega, by go_num, by go_num, by rw [HCT.out]; rfl, HO9.out⟩
        case measure => simp [intOf]; omega
    · obtain rfl : k = n1 := by omega
      have hkm : ¬ (k : Int) < (k : Int) := by omega
      replace HO := Lib.hid (on_new HO.out HQ.out)
      replace HX := Lib.hid (HX.out.later HQ.out)
      replace HY := Lib.hid (HY.out.later HQ.out)
      have hcb : c = (List.range 32768).countP (fun q : Nat => inn (known a) q && inn (known b) q) := by
        rw [HCC.out, List.take_of_length_le (by rw [← HPL.out]; exact Nat.le_refl _), HPS.out, pages_countP _ (known_right a)]
      have hM : ∀ r : Bool, (r = true ↔ 0 < c) → (r = true ↔ ∃ p, Mem a p ∧ Mem b p) := fun r hr => by
        rw [hr, hcb, List.countP_pos_iff]
        constructor
        · rintro ⟨q, _, hq⟩
          rw [Bool.and_eq_true] at hq
          exact ⟨q, hq⟩
        · rintro ⟨p, h1, h2⟩
          have := mem_range HSA.out.symm h1
          have e : ((p.toNat : Nat) : Int) = p := by omega
          exact ⟨p.toNat, by rw [List.mem_range]; omega, by rw [e, Bool.and_eq_true]; exact ⟨h1, h2⟩⟩
      have hU : ∀ u, IsRow u (fun p => Mem a p ∨ Mem b p) → k + n2 - c = card (known u) ∧ c ≤ k + n2 := fun u hu => by
        have := card_union (u := u) (a := known a) (b := known b) hu.2
        rw [← hcb, ← HN1.out, ← HN2.out] at this
        rw [known_of hu.1]
        omega
      have hcl : c ≤ k + n2 := by omega
      have HU := Lib.hid hU
      have HMM := Lib.hid hM
      obtain ⟨n3, hn3⟩ : ∃ n3, n3 = k + n2 - c := ⟨_, rfl⟩
      have HN3 := Lib.hid hn3
      have aw1 : IntKind.i64.wrap ((k : Int) + (n2 : Int)) = ((n3 + c : Nat) : Int) := by rw [IntWalk.i64_in _ (by omega)]; omega
      have aw2 : IntKind.i64.wrap ((n3 : Int) + (c : Int)) = ((n3 + c : Nat) : Int) := by rw [IntWalk.i64_in _ (by omega)]; omega
      clear HCC hcb hU hM hn3
      rcases Nat.eq_zero_or_pos c with hc0 | hc0
      · have HMC : Hid (TrueIff false (∃ p, Mem a p ∧ Mem b p)) := HMM.out false ⟨fun h => (by cases h), fun h => by omega⟩
        have hcn : ¬ (0 : Int) < (c : Int) := by omega
        have hcd : decide ((0 : Int) < (c : Int)) = false := decide_eq_false hcn
        clear hc0
        go_wp2_with (first
          | (go_at_call 11; (with_reducible refine (alive_c _).mono ?_); rintro e w20 ⟨rfl, ho⟩; (try replace HX := Lib.hid (HX.out.later ho)); (try replace HY := Lib.hid (HY.out.later ho)); (try replace HV := Lib.hid (HV.out.later ho)); replace HO := Lib.hid (on_new HO.out ho); clear ho)
          | (go_at_call 17; (with_reducible refine (Count_n _ _ _ _ HX.out HXi.out HN1.out).mono ?_); rintro e w21 ⟨rfl, ho⟩; (try replace HX := Lib.hid (HX.out.later ho)); (try replace HY := Lib.hid (HY.out.later ho)); (try replace HV := Lib.hid (HV.out.later ho)); replace HO := Lib.hid (on_new HO.out ho); clear ho)
          | (go_at_call 17; (with_reducible refine (Count_n _ _ _ _ HY.out HYi.out HN2.out).mono ?_); rintro e w22 ⟨rfl, ho⟩; (try replace HX := Lib.hid (HX.out.later ho)); (try replace HY := Lib.hid (HY.out.later ho)); (try replace HV := Lib.hid (HV.out.later ho)); replace HO := Lib.hid (on_new HO.out ho); clear ho)
          | (go_at_call 27; (with_reducible refine (Union_v _ _ _ _ _ HX.out HY.out HXi.out HYi.out).mono ?_); rintro e wv ⟨⟨vv, lv, rfl, h, hu⟩, ho⟩; (try replace HX := Lib.hid (HX.out.later ho)); (try replace HY := Lib.hid (HY.out.later ho)); (try replace HV := Lib.hid (HV.out.later ho)); have HV := Lib.hid h; have HVu := Lib.hid hu; have HVlen := Lib.hid (row_len hu); have HVi := Lib.hid (i64_of hu.1); clear hu; clear h; replace HO := Lib.hid (on_new HO.out ho); clear ho)
          | (go_at_call 17; (with_reducible refine (Count_n _ _ _ _ HV.out HVi.out (HN3.out.trans (HU.out _ HVu.out).1)).mono ?_); rintro e w24 ⟨rfl, ho⟩; (try replace HX := Lib.hid (HX.out.later ho)); (try replace HY := Lib.hid (HY.out.later ho)); (try replace HV := Lib.hid (HV.out.later ho)); replace HO := Lib.hid (on_new HO.out ho); clear ho)
          | (go_at_call 28; (with_reducible refine (Meet_k _ _ _ _ _ _ HX.out HY.out HXi.out HYi.out HMC.out).mono ?_); rintro e w25 ⟨rfl, ho⟩; (try replace HX := Lib.hid (HX.out.later ho)); (try replace HY := Lib.hid (HY.out.later ho)); (try replace HV := Lib.hid (HV.out.later ho)); replace HO := Lib.hid (on_new HO.out ho); clear ho)
          | (go_at_call 18; (with_reducible refine (End_n _ _ _ _ HX.out HXi.out HE1.out).mono ?_); rintro e w26 ⟨rfl, ho⟩; (try replace HX := Lib.hid (HX.out.later ho)); (try replace HY := Lib.hid (HY.out.later ho)); (try replace HV := Lib.hid (HV.out.later ho)); replace HO := Lib.hid (on_new HO.out ho); clear ho)
          | (go_at_call 18; (with_reducible refine (End_n _ _ _ _ HY.out HYi.out HE2.out).mono ?_); rintro e w27 ⟨rfl, ho⟩; (try replace HX := Lib.hid (HX.out.later ho)); (try replace HY := Lib.hid (HY.out.later ho)); (try replace HV := Lib.hid (HV.out.later ho)); replace HO := Lib.hid (on_new HO.out ho); clear ho)
          | (go_at_call 18; (with_reducible refine (End_i _ _ _ _ HV.out HVi.out (HEU.out _ HVu.out)).mono ?_); rintro e w28 ⟨rfl, ho⟩; (try replace HX := Lib.hid (HX.out.later ho)); (try replace HY := Lib.hid (HY.out.later ho)); (try replace HV := Lib.hid (HV.out.later ho)); replace HO := Lib.hid (on_new HO.out ho); clear ho))
        go_ret
        exact ⟨rfl, HO.out⟩
      · have HMC : Hid (TrueIff true (∃ p, Mem a p ∧ Mem b p)) := HMM.out true ⟨fun _ => hc0, fun _ => rfl⟩
        have hcn : (0 : Int) < (c : Int) := by omega
        have hcd : decide ((0 : Int) < (c : Int)) = true := decide_eq_true hcn
        clear hc0
        go_wp2_with (first
          | (go_at_call 11; (with_reducible refine (alive_c _).mono ?_); rintro e w20 ⟨rfl, ho⟩; (try replace HX := Lib.hid (HX.out.later ho)); (try replace HY := Lib.hid (HY.out.later ho)); (try replace HV := Lib.hid (HV.out.later ho)); replace HO := Lib.hid (on_new HO.out ho); clear ho)
          | (go_at_call 17; (with_reducible refine (Count_n _ _ _ _ HX.out HXi.out HN1.out).mono ?_); rintro e w21 ⟨rfl, ho⟩; (try replace HX := Lib.hid (HX.out.later ho)); (try replace HY := Lib.hid (HY.out.later ho)); (try replace HV := Lib.hid (HV.out.later ho)); replace HO := Lib.hid (on_new HO.out ho); clear ho)
          | (go_at_call 17; (with_reducible refine (Count_n _ _ _ _ HY.out HYi.out HN2.out).mono ?_); rintro e w22 ⟨rfl, ho⟩; (try replace HX := Lib.hid (HX.out.later ho)); (try replace HY := Lib.hid (HY.out.later ho)); (try replace HV := Lib.hid (HV.out.later ho)); replace HO := Lib.hid (on_new HO.out ho); clear ho)
          | (go_at_call 27; (with_reducible refine (Union_v _ _ _ _ _ HX.out HY.out HXi.out HYi.out).mono ?_); rintro e wv ⟨⟨vv, lv, rfl, h, hu⟩, ho⟩; (try replace HX := Lib.hid (HX.out.later ho)); (try replace HY := Lib.hid (HY.out.later ho)); (try replace HV := Lib.hid (HV.out.later ho)); have HV := Lib.hid h; have HVu := Lib.hid hu; have HVlen := Lib.hid (row_len hu); have HVi := Lib.hid (i64_of hu.1); clear hu; clear h; replace HO := Lib.hid (on_new HO.out ho); clear ho)
          | (go_at_call 17; (with_reducible refine (Count_n _ _ _ _ HV.out HVi.out (HN3.out.trans (HU.out _ HVu.out).1)).mono ?_); rintro e w24 ⟨rfl, ho⟩; (try replace HX := Lib.hid (HX.out.later ho)); (try replace HY := Lib.hid (HY.out.later ho)); (try replace HV := Lib.hid (HV.out.later ho)); replace HO := Lib.hid (on_new HO.out ho); clear ho)
          | (go_at_call 28; (with_reducible refine (Meet_k _ _ _ _ _ _ HX.out HY.out HXi.out HYi.out HMC.out).mono ?_); rintro e w25 ⟨rfl, ho⟩; (try replace HX := Lib.hid (HX.out.later ho)); (try replace HY := Lib.hid (HY.out.later ho)); (try replace HV := Lib.hid (HV.out.later ho)); replace HO := Lib.hid (on_new HO.out ho); clear ho)
          | (go_at_call 18; (with_reducible refine (End_n _ _ _ _ HX.out HXi.out HE1.out).mono ?_); rintro e w26 ⟨rfl, ho⟩; (try replace HX := Lib.hid (HX.out.later ho)); (try replace HY := Lib.hid (HY.out.later ho)); (try replace HV := Lib.hid (HV.out.later ho)); replace HO := Lib.hid (on_new HO.out ho); clear ho)
          | (go_at_call 18; (with_reducible refine (End_n _ _ _ _ HY.out HYi.out HE2.out).mono ?_); rintro e w27 ⟨rfl, ho⟩; (try replace HX := Lib.hid (HX.out.later ho)); (try replace HY := Lib.hid (HY.out.later ho)); (try replace HV := Lib.hid (HV.out.later ho)); replace HO := Lib.hid (on_new HO.out ho); clear ho)
          | (go_at_call 18; (with_reducible refine (End_i _ _ _ _ HV.out HVi.out (HEU.out _ HVu.out)).mono ?_); rintro e w28 ⟨rfl, ho⟩; (try replace HX := Lib.hid (HX.out.later ho)); (try replace HY := Lib.hid (HY.out.later ho)); (try replace HV := Lib.hid (HV.out.later ho)); replace HO := Lib.hid (on_new HO.out ho); clear ho))
        go_ret
        exact ⟨rfl, HO.out⟩
end Go.Proofs.Ytjnaejogclmooaa
