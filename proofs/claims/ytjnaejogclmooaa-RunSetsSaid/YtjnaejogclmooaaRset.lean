/-
  RunSets: the walk.
-/
import Derived.Test.YtjnaejogclmooaaRadd
import Derived.Test.YtjnaejogclmooaaOrdh
set_option linter.unusedVariables false
namespace Go.Proofs.Ytjnaejogclmooaa
open Go.RowKit

def cntB (l : List R) (k : Nat) : Nat := (List.range k).countP (setOf l)
def endB (l : List R) : Nat → Nat
  | 0 => 0
  | k + 1 => if setOf l k = true then k + 1 else endB l k
theorem cntB_succ (l : List R) (k : Nat) : cntB l (k + 1) = cntB l k + if setOf l k = true then 1 else 0 := by
  unfold cntB
  rw [List.range_succ, List.countP_append, List.countP_singleton]
theorem cntB_le (l : List R) (k : Nat) : cntB l k ≤ k := by
  have := List.countP_le_length (p := setOf l) (l := List.range k)
  rwa [List.length_range] at this
theorem endB_le (l : List R) : ∀ k, endB l k ≤ k
  | 0 => Nat.le_refl _
  | k + 1 => by
    have := endB_le l k
    unfold endB
    split <;> omega
theorem endB_lt (l : List R) : ∀ k q, q < k → setOf l q = true → q < endB l k
  | k + 1, q, hq, h => by
    unfold endB
    by_cases hk : setOf l k = true
    · rw [if_pos hk]; exact hq
    · rw [if_neg hk]
      refine endB_lt l k q ?_ h
      rcases (by omega : q < k ∨ q = k) with h' | rfl
      · exact h'
      · exact absurd h hk
theorem endB_in (l : List R) : ∀ k, 0 < endB l k → setOf l (endB l k - 1) = true
  | 0, h => by unfold endB at h; omega
  | k + 1, h => by
    unfold endB at h ⊢
    by_cases hk : setOf l k = true
    · rw [if_pos hk]; exact hk
    · rw [if_neg hk] at h ⊢
      exact endB_in l k h
theorem pages_filter {l : List R} (hs : short l = true) : pagesOf (known l) = ((List.range 600).filter (setOf l)).map fun q : Nat => (q : Int) := by
  refine rise_unique (pages_rise (known_right l)) ?_ fun p => ?_
  · rw [List.pairwise_map]
    exact (List.pairwise_lt_range.filter _).imp fun h => by omega
  · rw [mem_pagesOf (known_right l), List.mem_map]
    constructor
    · intro h
      have := mem_range hs h
      refine ⟨p.toNat, ?_, by omega⟩
      rw [List.mem_filter, List.mem_range]
      refine ⟨by omega, ?_⟩
      rw [setOf_iff, show ((p.toNat : Nat) : Int) = p by omega]
      exact h
    · rintro ⟨q, hq, rfl⟩
      rw [List.mem_filter] at hq
      exact hq.2
theorem filter_at (f : Nat → Bool) {k n : Nat} (hk : k < n) (h : f k = true) : ((List.range n).filter f)[(List.range k).countP f]? = some k := by
  obtain ⟨b, rfl⟩ : ∃ b, n = k + (b + 1) := ⟨n - k - 1, by omega⟩
  rw [List.range_add, List.filter_append, List.countP_eq_length_filter, List.getElem?_append_right (Nat.le_refl _), Nat.sub_self, List.range_succ_eq_map, List.map_cons, List.filter_cons_of_pos (by simpa using h)]
  simp
theorem pages_at {l : List R} (hs : short l = true) {k : Nat} (hk : k < 600) (hf : setOf l k = true) : (pagesOf (known l))[cntB l k]? = some (k : Int) := by
  rw [pages_filter hs, List.getElem?_map]
  unfold cntB
  rw [filter_at (setOf l) hk hf]
  rfl
theorem pages_all {l : List R} (hs : short l = true) : (pagesOf (known l)).length = cntB l 600 := by
  rw [pages_filter hs, List.length_map, ← List.countP_eq_length_filter]
  rfl
theorem end_all {l : List R} (hs : short l = true) : (endB l 600 : Int) = endOf (known l) := by
  refine (endOf_eq (known_right l) (by omega) (fun p hp => ?_) (fun h => ?_)).symm
  · have := mem_range hs hp
    have := endB_lt l 600 p.toNat (by omega) (by rw [setOf_iff, show ((p.toNat : Nat) : Int) = p by omega]; exact hp)
    omega
  · have := endB_in l 600 (by omega)
    rw [setOf_iff] at this
    rwa [show ((endB l 600 - 1 : Nat) : Int) = (endB l 600 : Int) - 1 by omega] at this
theorem take_in {zs : List Int} {k : Nat} {z : Int} (h : zs[k]? = some z) (q : Nat) : decide ((q : Int) ∈ zs.take (k + 1)) = (decide ((q : Int) ∈ zs.take k) || decide ((q : Int) = z)) := by
  rw [List.take_add_one, h]
  simp [Bool.decide_or]
theorem page_in {l : List R} (hs : short l = true) {p : Int} (h : p < 0 ∨ 600 ≤ p) : inn (known l) p = false := by
  rw [Bool.eq_false_iff]
  intro hh
  have := mem_range hs hh
  omega

theorem rRight_v (W : World) (v : Value) (l : List R) (h : Row W v l) (hr : ∀ x ∈ l, I64 x) : Calls Try.prog 16 #[v] W (Told W (.bool (right l))) := by
  obtain ⟨A, c, rfl, h1, _, h3, h4⟩ := h
  exact rRight_c W A _ c l h1 rfl hr h3 h4

set_option maxRecDepth 100000 in
set_option maxHeartbeats 12800000 in
theorem sets_bad (w : World) (v : Value) (l : List R) (A : Option Addr) (n c : Nat) (page : Int) (h : Row w v l) (hn : n ≤ 9223372036854775807) (hb : short l = false ∨ 200 < n) :
    Calls Try.prog 3 #[v, .slice A n c, .int .i64 page] w (Told w (.bool true)) := by
  have HO : Hid (Only (w.heap.size ≤ ·) w w) := Only.refl _ w
  have HA := Lib.hid h
  obtain ⟨sa, hsa⟩ : ∃ s, s = short l := ⟨_, rfl⟩
  rw [← hsa] at hb
  have HSA := Lib.hid hsa
  clear h hsa
  cases sa
  · clear hb
    go_enter Try.func3, Try.ntmps3
    go_wp2_with (first
      | (go_at_call 10; (with_reducible refine (few_b _ _ _ _ HA.out HSA.out).mono ?_); rintro e w1 ⟨rfl, ho⟩; (try replace HA := Lib.hid (HA.out.later ho)); replace HO := Lib.hid (on_new HO.out ho); clear ho)
      | (go_at_call 11; (with_reducible refine (alive_c _).mono ?_); rintro e w2 ⟨rfl, ho⟩; (try replace HA := Lib.hid (HA.out.later ho)); replace HO := Lib.hid (on_new HO.out ho); clear ho))
    go_ret
    exact ⟨rfl, HO.out⟩
  · have h1' : (200 : Int) < (n : Int) := by
      rcases hb with hb | hb
      · cases hb
      · omega
    clear hb
    go_enter Try.func3, Try.ntmps3
    go_wp2_with (first
      | (go_at_call 10; (with_reducible refine (few_b _ _ _ _ HA.out HSA.out).mono ?_); rintro e w1 ⟨rfl, ho⟩; (try replace HA := Lib.hid (HA.out.later ho)); replace HO := Lib.hid (on_new HO.out ho); clear ho)
      | (go_at_call 11; (with_reducible refine (alive_c _).mono ?_); rintro e w2 ⟨rfl, ho⟩; (try replace HA := Lib.hid (HA.out.later ho)); replace HO := Lib.hid (on_new HO.out ho); clear ho))
    go_ret
    exact ⟨rfl, HO.out⟩

set_option maxRecDepth 100000 in
set_option maxHeartbeats 12800000 in
theorem sets_good (w : World) (v : Value) (l : List R) (A : Option Addr) (n c : Nat) (zs : List Int) (page : Int) (h : Row w v l) (hr : ∀ y ∈ l, I64 y) (hs : true = short l)
    (hz : Nums w A n c zs) (hzr : ∀ p ∈ zs, -9223372036854775808 ≤ p ∧ p ≤ 9223372036854775807) (hn : n ≤ 200) (hp1 : -9223372036854775808 ≤ page) (hp2 : page ≤ 9223372036854775807) :
    Calls Try.prog 3 #[v, .slice A n c, .int .i64 page] w (Told w (.bool true)) := by
  have HO : Hid (Only (w.heap.size ≤ ·) w w) := Only.refl _ w
  have HA := Lib.hid h
  have HT := Lib.hid hz
  have HAi := Lib.hid hr
  have HZi := Lib.hid hzr
  have HSA := Lib.hid hs
  have HAlen : Hid (l.length ≤ 1000000) := Nat.le_trans (short_iff hs.symm).1 (by decide)
  have h1' : ¬ (200 : Int) < (n : Int) := by omega
  obtain ⟨ps, hps⟩ : ∃ ps, ps = pagesOf (known l) := ⟨_, rfl⟩
  obtain ⟨N, hN⟩ : ∃ N, N = ps.length := ⟨_, rfl⟩
  have hN1 : N ≤ 600 := by rw [hN, hps, pages_all hs.symm]; exact cntB_le _ _
  have HN := Lib.hid hN
  have HNC : Hid (N = cntB l 600) := by show _ = _; rw [hN, hps, pages_all hs.symm]
  have HCARD : Hid (N = card (known l)) := by show _ = _; rw [hN, hps, pages_len (known_right l)]
  have HPE := Lib.hid hps
  have HPN2 : Hid (N = (pagesOf (known l)).length) := by rw [← hps]; exact hN
  have HPAT : Hid (∀ k, k < 600 → setOf l k = true → ps[cntB l k]? = some (k : Int)) := fun k hk hf => by rw [hps]; exact pages_at hs.symm hk hf
  have HSL : Hid (n = zs.length) := hz.1.symm
  have HROW := Lib.hid (rowOf_row zs)
  have HLlen := Lib.hid (row_len (rowOf_row zs))
  have HLi := Lib.hid (i64_of (rowOf_row zs).1)
  have HEND := Lib.hid (end_all hs.symm)
  obtain ⟨rl, hrl⟩ : ∃ b, b = right l := ⟨_, rfl⟩
  have HRL := Lib.hid hrl
  obtain ⟨bp, hbp⟩ : ∃ b, b = inn (known l) page := ⟨_, rfl⟩
  have HBP := Lib.hid hbp
  have HPO := Lib.hid (fun h => page_in hs.symm (p := page) h)
  clear h hr hs hz hzr hps hN hrl hbp
  go_enter Try.func3, Try.ntmps3
  go_wp2_with (first
    | (go_at_call 10; (with_reducible refine (few_b _ _ _ _ HA.out HSA.out).mono ?_); rintro e w1 ⟨rfl, ho⟩; (try replace HA := Lib.hid (HA.out.later ho)); (try replace HT := Lib.hid (HT.out.later ho)); (try replace HS := Lib.hid (HS.out.later ho)); (try replace HX := Lib.hid (HX.out.later ho)); (try replace HP := Lib.hid (HP.out.later ho)); replace HO := Lib.hid (on_new HO.out ho); clear ho)
    | (go_at_call 12; (with_reducible refine (Set_v _ _ _ HA.out HAi.out).mono ?_); rintro e ws ⟨gs, rfl, hg, h, ho⟩; (try replace HA := Lib.hid (HA.out.later ho)); (try replace HT := Lib.hid (HT.out.later ho)); (try replace HS := Lib.hid (HS.out.later ho)); (try replace HX := Lib.hid (HX.out.later ho)); (try replace HP := Lib.hid (HP.out.later ho)); have HS := Lib.hid h; have HSg := Lib.hid (Nat.le_trans HO.out.size hg); have HSlt := Lib.hid (And.intro hg h.lt); clear hg; clear h; replace HO := Lib.hid (on_new HO.out ho); clear ho)
    | (go_at_call 14; (with_reducible refine (of_v _ _ _ HA.out (by first | exact HAlen.out | decide)).mono ?_); rintro e wx ⟨⟨vx, rfl, h⟩, ho⟩; (try replace HA := Lib.hid (HA.out.later ho)); (try replace HT := Lib.hid (HT.out.later ho)); (try replace HS := Lib.hid (HS.out.later ho)); (try replace HX := Lib.hid (HX.out.later ho)); (try replace HP := Lib.hid (HP.out.later ho)); have HX := Lib.hid h; (try have HXlen := Lib.hid HAlen.out); (try have HXi := Lib.hid HAi.out); clear h; replace HO := Lib.hid (on_new HO.out ho); clear ho)
    | (go_at_call 13; (with_reducible refine (Pages_s _ _ _ N HX.out HXi.out HPN2.out).mono ?_); rintro e wp ⟨⟨ap, cp, rfl, h⟩, ho⟩; (try replace HA := Lib.hid (HA.out.later ho)); (try replace HT := Lib.hid (HT.out.later ho)); (try replace HS := Lib.hid (HS.out.later ho)); (try replace HX := Lib.hid (HX.out.later ho)); (try replace HP := Lib.hid (HP.out.later ho)); have HP := Lib.hid h; clear h; replace HO := Lib.hid (on_new HO.out ho); clear ho))
  rw [← HPE.out] at HP
  have HBW : Hid (Blk (wp.alloc (.cells (bf (fun _ => false) 32768).toArray 4)) wp.heap.size 4 (bf (fun _ => false) 32768)) := Blk.new wp _ _
  have hmk : (Instr.makeSlice 26 (.int .i64 32768) (.int .i64 32768)).run Try.prog wp = .ok (.slice (some ⟨wp.heap.size, 0, none⟩) 32768 32768) (wp.alloc (.cells (bf (fun _ => false) 32768).toArray 4)) := run_makeB 32768 (by decide) wp
  have HMK := Lib.hid hmk
  clear hmk
  go_loop [33, 8, 9] (fun i s t => ∃ k q e : Nat, k ≤ 600 ∧ q ≤ k ∧ e ≤ k ∧ i = .int .i64 k ∧ s = .int .i64 q ∧ t = .int .i64 e ∧ Hid (q = cntB l k) ∧ Hid (e = endB l k)) (fun i _ _ => 600 - (intOf i).toNat)
  case atStart => exact ⟨0, 0, 0, Nat.zero_le _, Nat.le_refl _, Nat.le_refl _, rfl, rfl, rfl, rfl, rfl⟩
  case round =>
    obtain ⟨k, q, e, hk, hq, he, rfl, rfl, rfl, HQ, HE⟩ := hrel
    by_cases hlt : k < 600
    · obtain ⟨b, hb⟩ : ∃ b, b = setOf l k := ⟨_, rfl⟩
      have hcell : wp.cell? ⟨gs, k, none⟩ = some (.bool b) := by rw [HS.out.cell, bf_get _ hlt, hb]
      have HC1 := Lib.hid (cntB_succ l k)
      have HE1 : Hid (endB l (k + 1) = if setOf l k = true then k + 1 else endB l k) := rfl
      rw [← hb] at HC1 HE1
      have hk6 : (k : Int) < 600 := by omega
      have aw1 : IntKind.i64.wrap ((k : Int) + 1) = ((k + 1 : Nat) : Int) := by rw [IntWalk.i64_in _ (by omega)]; omega
      cases b
      · clear hb
        go_wp2
        go_round
        case rel => exact ⟨k + 1, q, e, by omega, by omega, by omega, by go_num, rfl, rfl, Lib.hid (by rw [HC1.out, HQ.out]; rfl), Lib.hid (by rw [HE1.out, HE.out]; rfl)⟩
        case measure => simp [intOf]; omega
      · have hat := HPAT.out k hlt hb.symm
        rw [← HQ.out] at hat
        have hqN : q < N := by rw [HN.out]; exact (List.getElem?_eq_some_iff.1 hat).1
        obtain ⟨g, z, rfl, hz, hcz⟩ := HP.out.at_ (k := q) (by rw [← HN.out]; exact hqN)
        obtain rfl : z = (k : Int) := by rw [hat] at hz; injection hz with hz; exact hz.symm
        have hqN' : (q : Int) < (N : Int) := by omega
        have aw2 : IntKind.i64.wrap ((q : Int) + 1) = ((q + 1 : Nat) : Int) := by rw [IntWalk.i64_in _ (by omega)]; omega
        clear hb hat hz
        go_wp2
        go_round
        case rel => exact ⟨k + 1, q + 1, k + 1, by omega, by omega, by omega, by go_num, by go_num, by go_num, Lib.hid (by rw [HC1.out, HQ.out]; rfl), Lib.hid (by rw [HE1.out]; rfl)⟩
        case measure => simp [intOf]; omega
    · obtain rfl : k = 600 := by omega
      obtain rfl : q = N := by rw [HQ.out, HNC.out]
      have hmk := HMK.out
      obtain ⟨gt, hgt⟩ : ∃ g, g = wp.heap.size := ⟨_, rfl⟩
      obtain ⟨wq, hwq⟩ : ∃ w, w = wp.alloc (.cells (bf (fun _ => false) 32768).toArray 4) := ⟨_, rfl⟩
      rw [← hgt, ← hwq] at hmk HBW
      have HOQ : Hid (Only (wp.heap.size ≤ ·) wp wq) := by rw [hwq]; exact (Only.refl _ wp).alloc (fun _ h => h) _
      have HGT : Hid (wp.heap.size ≤ gt) := by rw [hgt]; exact Lib.hid (Nat.le_refl _)
      clear hgt hwq
      go_wp2
      go_loopw [60] (fun i wr => ∃ k : Nat, k ≤ n ∧ i = .int .i64 k ∧ Hid (Blk wr gt 4 (bf (fun p : Nat => decide ((p : Int) ∈ zs.take k)) 32768)) ∧ Only (wp.heap.size ≤ ·) wp wr) (fun i _ => n - (intOf i).toNat)
      case atStart => exact ⟨0, Nat.zero_le _, rfl, by simpa using HBW, HOQ.out⟩
      case round =>
        obtain ⟨k, hkn, rfl, HB, ho⟩ := hrel
        have HQ2 := Lib.hid ho
        clear ho
        by_cases hlt2 : k < n
        · obtain ⟨b, off, rfl, _, hcells⟩ := (HT.out.later HQ2.out).2.2.2.2 (by omega)
          obtain ⟨z, hz⟩ : ∃ z, zs[k]? = some z := ⟨_, List.getElem?_eq_getElem (by rw [← HSL.out]; exact hlt2)⟩
          have hcz := hcells k hlt2
          rw [hz] at hcz
          simp only [Option.getD_some] at hcz
          have hzi := HZi.out z (List.mem_of_getElem? hz)
          have HTK := Lib.hid (take_in hz)
          have hkn' : (k : Int) < (n : Int) := by omega
          have aw1 : IntKind.i64.wrap ((k : Int) + 1) = ((k + 1 : Nat) : Int) := by rw [IntWalk.i64_in _ (by omega)]; omega
          clear hcells hz
          by_cases hr2 : z < 0 ∨ 32768 ≤ z
          · have HN2 : Hid (bf (fun p : Nat => decide ((p : Int) ∈ zs.take k)) 32768 = bf (fun p : Nat => decide ((p : Int) ∈ zs.take (k + 1))) 32768) := bf_congr fun p hp => by
              rw [HTK.out, decide_eq_false (p := (p : Int) = z) (by omega), Bool.or_false]
            rcases hr2 with hr2 | hr2
            · have hz0 : ¬ (0 : Int) ≤ z := by omega
              go_wp2
              go_roundw
              case rel => exact ⟨k + 1, by omega, by go_num, by rw [← HN2.out]; exact HB, HQ2.out⟩
              case measure => simp [intOf]; omega
            · have hz0 : (0 : Int) ≤ z := by omega
              have hz1 : ¬ z < 32768 := by omega
              go_wp2
              go_roundw
              case rel => exact ⟨k + 1, by omega, by go_num, by rw [← HN2.out]; exact HB, HQ2.out⟩
              case measure => simp [intOf]; omega
          · obtain ⟨zn, rfl⟩ : ∃ m : Nat, z = m := ⟨z.toNat, by omega⟩
            have hz1 : zn < 32768 := by omega
            have hz1' : (zn : Int) < 32768 := by omega
            obtain ⟨ob, hob⟩ : ∃ ob, wr.cell? ⟨gt, zn, none⟩ = some (.bool ob) := ⟨_, (HB.out.cell zn).trans (bf_get _ hz1)⟩
            have hfz := HB.out.frozen zn
            have HN2 : Hid (Blk (wr.setCell ⟨gt, zn, none⟩ (.bool true)) gt 4 (bf (fun p : Nat => decide ((p : Int) ∈ zs.take (k + 1))) 32768)) := by
              have := HB.out.set_ zn (.bool true)
              rwa [bf_set (f' := fun p : Nat => decide ((p : Int) ∈ zs.take (k + 1))) fun p hp => ?_] at this
              rw [HTK.out]
              by_cases e : p = zn
              · rw [if_pos e, decide_eq_true (p := (p : Int) = zn) (by omega), Bool.or_true]
              · rw [if_neg e, decide_eq_false (p := (p : Int) = zn) (by omega), Bool.or_false]
            clear hr2
            go_wp2
            go_roundw
            case rel => exact ⟨k + 1, by omega, by go_num, HN2, HQ2.out.setCell (p := ⟨gt, zn, none⟩) HGT.out _⟩
            case measure => simp [intOf]; omega
        · obtain rfl : k = n := by omega
          have hkm : ¬ (k : Int) < (k : Int) := by omega
          replace HA := Lib.hid (HA.out.later HQ2.out)
          replace HT := Lib.hid (HT.out.later HQ2.out)
          replace HS := Lib.hid (HS.out.later HQ2.out)
          replace HO := Lib.hid (on_new HO.out HQ2.out)
          rw [show zs.take k = zs by rw [HSL.out]; exact List.take_length] at HB
          clear HX HP hmk HBW
          by_cases hpa : page < 0
          · obtain rfl : bp = false := HBP.out.trans (HPO.out (.inl hpa))
            have hpa' : ¬ (0 : Int) ≤ page := by omega
            go_wp2_with (first
              | (go_at_call 11; (with_reducible refine (alive_c _).mono ?_); rintro e w20 ⟨rfl, ho⟩; (try replace HA := Lib.hid (HA.out.later ho)); (try replace HT := Lib.hid (HT.out.later ho)); (try replace HS := Lib.hid (HS.out.later ho)); (try replace HB := Lib.hid (HB.out.later ho)); (try replace HX := Lib.hid (HX.out.later ho)); (try replace HZ := Lib.hid (HZ.out.later ho)); (try replace HU := Lib.hid (HU.out.later ho)); (try replace HE := Lib.hid (HE.out.later ho)); replace HO := Lib.hid (on_new HO.out ho); clear ho)
              | (go_at_call 14; (with_reducible refine (of_v _ _ _ HA.out (by first | exact HAlen.out | decide)).mono ?_); rintro e wx ⟨⟨vx, rfl, h⟩, ho⟩; (try replace HA := Lib.hid (HA.out.later ho)); (try replace HT := Lib.hid (HT.out.later ho)); (try replace HS := Lib.hid (HS.out.later ho)); (try replace HB := Lib.hid (HB.out.later ho)); (try replace HX := Lib.hid (HX.out.later ho)); (try replace HZ := Lib.hid (HZ.out.later ho)); (try replace HU := Lib.hid (HU.out.later ho)); (try replace HE := Lib.hid (HE.out.later ho)); have HX := Lib.hid h; (try have HXlen := Lib.hid HAlen.out); (try have HXi := Lib.hid HAi.out); clear h; replace HO := Lib.hid (on_new HO.out ho); clear ho)
              | (go_at_call 15; (with_reducible refine (HRL.out ▸ Right_v _ _ _ HX.out HXi.out).mono ?_); rintro e w22 ⟨rfl, ho⟩; (try replace HA := Lib.hid (HA.out.later ho)); (try replace HT := Lib.hid (HT.out.later ho)); (try replace HS := Lib.hid (HS.out.later ho)); (try replace HB := Lib.hid (HB.out.later ho)); (try replace HX := Lib.hid (HX.out.later ho)); (try replace HZ := Lib.hid (HZ.out.later ho)); (try replace HU := Lib.hid (HU.out.later ho)); (try replace HE := Lib.hid (HE.out.later ho)); replace HO := Lib.hid (on_new HO.out ho); clear ho)
              | (go_at_call 16; (with_reducible refine (HRL.out ▸ rRight_v _ _ _ HA.out HAi.out).mono ?_); rintro e w23 ⟨rfl, ho⟩; (try replace HA := Lib.hid (HA.out.later ho)); (try replace HT := Lib.hid (HT.out.later ho)); (try replace HS := Lib.hid (HS.out.later ho)); (try replace HB := Lib.hid (HB.out.later ho)); (try replace HX := Lib.hid (HX.out.later ho)); (try replace HZ := Lib.hid (HZ.out.later ho)); (try replace HU := Lib.hid (HU.out.later ho)); (try replace HE := Lib.hid (HE.out.later ho)); replace HO := Lib.hid (on_new HO.out ho); clear ho)
              | (go_at_call 17; (with_reducible refine (Count_n _ _ _ _ HX.out HXi.out HCARD.out).mono ?_); rintro e w24 ⟨rfl, ho⟩; (try replace HA := Lib.hid (HA.out.later ho)); (try replace HT := Lib.hid (HT.out.later ho)); (try replace HS := Lib.hid (HS.out.later ho)); (try replace HB := Lib.hid (HB.out.later ho)); (try replace HX := Lib.hid (HX.out.later ho)); (try replace HZ := Lib.hid (HZ.out.later ho)); (try replace HU := Lib.hid (HU.out.later ho)); (try replace HE := Lib.hid (HE.out.later ho)); replace HO := Lib.hid (on_new HO.out ho); clear ho)
              | (go_at_call 18; (with_reducible refine (End_n _ _ _ _ HX.out HXi.out (HE.out ▸ HEND.out)).mono ?_); rintro e w25 ⟨rfl, ho⟩; (try replace HA := Lib.hid (HA.out.later ho)); (try replace HT := Lib.hid (HT.out.later ho)); (try replace HS := Lib.hid (HS.out.later ho)); (try replace HB := Lib.hid (HB.out.later ho)); (try replace HX := Lib.hid (HX.out.later ho)); (try replace HZ := Lib.hid (HZ.out.later ho)); (try replace HU := Lib.hid (HU.out.later ho)); (try replace HE := Lib.hid (HE.out.later ho)); replace HO := Lib.hid (on_new HO.out ho); clear ho)
              | (go_at_call 19; (with_reducible refine (HBP.out ▸ Has_c _ _ _ _ HX.out HXi.out hp1 hp2).mono ?_); rintro e w26 ⟨rfl, ho⟩; (try replace HA := Lib.hid (HA.out.later ho)); (try replace HT := Lib.hid (HT.out.later ho)); (try replace HS := Lib.hid (HS.out.later ho)); (try replace HB := Lib.hid (HB.out.later ho)); (try replace HX := Lib.hid (HX.out.later ho)); (try replace HZ := Lib.hid (HZ.out.later ho)); (try replace HU := Lib.hid (HU.out.later ho)); (try replace HE := Lib.hid (HE.out.later ho)); replace HO := Lib.hid (on_new HO.out ho); clear ho)
              | (go_at_call 22; (with_reducible refine (Of_e _ _ _ _ _ _ HT.out (by omega) HZi.out HROW.out).mono ?_); rintro e wz ⟨⟨vz, rfl, h⟩, ho⟩; (try replace HA := Lib.hid (HA.out.later ho)); (try replace HT := Lib.hid (HT.out.later ho)); (try replace HS := Lib.hid (HS.out.later ho)); (try replace HB := Lib.hid (HB.out.later ho)); (try replace HX := Lib.hid (HX.out.later ho)); (try replace HZ := Lib.hid (HZ.out.later ho)); (try replace HU := Lib.hid (HU.out.later ho)); (try replace HE := Lib.hid (HE.out.later ho)); have HZ := Lib.hid h; have HZlen := Lib.hid HLlen.out; have HZi := Lib.hid HLi.out; clear h; replace HO := Lib.hid (on_new HO.out ho); clear ho)
              | (go_at_call 21; (with_reducible refine (old_v _ _ _ HZ.out (by first | exact HZlen.out | decide)).mono ?_); rintro e wu ⟨⟨vu, rfl, h⟩, ho⟩; (try replace HA := Lib.hid (HA.out.later ho)); (try replace HT := Lib.hid (HT.out.later ho)); (try replace HS := Lib.hid (HS.out.later ho)); (try replace HB := Lib.hid (HB.out.later ho)); (try replace HX := Lib.hid (HX.out.later ho)); (try replace HZ := Lib.hid (HZ.out.later ho)); (try replace HU := Lib.hid (HU.out.later ho)); (try replace HE := Lib.hid (HE.out.later ho)); have HU := Lib.hid h; (try have HUlen := Lib.hid HZlen.out); (try have HUi := Lib.hid HZi.out); clear h; replace HO := Lib.hid (on_new HO.out ho); clear ho)
              | (go_at_call 23; (with_reducible refine (Runs_m _ gt 32768 _ 32768 [] (by simpa [BRow] using HB.out) (by decide)).mono ?_); rintro e we ⟨⟨ve, rfl, h⟩, ho⟩; (try replace HA := Lib.hid (HA.out.later ho)); (try replace HT := Lib.hid (HT.out.later ho)); (try replace HS := Lib.hid (HS.out.later ho)); (try replace HB := Lib.hid (HB.out.later ho)); (try replace HX := Lib.hid (HX.out.later ho)); (try replace HZ := Lib.hid (HZ.out.later ho)); (try replace HU := Lib.hid (HU.out.later ho)); (try replace HE := Lib.hid (HE.out.later ho)); have HE := Lib.hid h; clear h; replace HO := Lib.hid (on_new HO.out ho); clear ho)
              | (go_at_call 20; (with_reducible refine (Same_t _ _ _ _ _ HU.out HE.out rfl).mono ?_); rintro e w30 ⟨rfl, ho⟩; (try replace HA := Lib.hid (HA.out.later ho)); (try replace HT := Lib.hid (HT.out.later ho)); (try replace HS := Lib.hid (HS.out.later ho)); (try replace HB := Lib.hid (HB.out.later ho)); (try replace HX := Lib.hid (HX.out.later ho)); (try replace HZ := Lib.hid (HZ.out.later ho)); (try replace HU := Lib.hid (HU.out.later ho)); (try replace HE := Lib.hid (HE.out.later ho)); replace HO := Lib.hid (on_new HO.out ho); clear ho))
            go_ret
            exact ⟨rfl, HO.out⟩
          · by_cases hpb : 600 ≤ page
            · obtain rfl : bp = false := HBP.out.trans (HPO.out (.inr hpb))
              have hpa' : (0 : Int) ≤ page := by omega
              have hpb' : ¬ page < 600 := by omega
              go_wp2_with (first
                | (go_at_call 11; (with_reducible refine (alive_c _).mono ?_); rintro e w20 ⟨rfl, ho⟩; (try replace HA := Lib.hid (HA.out.later ho)); (try replace HT := Lib.hid (HT.out.later ho)); (try replace HS := Lib.hid (HS.out.later ho)); (try replace HB := Lib.hid (HB.out.later ho)); (try replace HX := Lib.hid (HX.out.later ho)); (try replace HZ := Lib.hid (HZ.out.later ho)); (try replace HU := Lib.hid (HU.out.later ho)); (try replace HE := Lib.hid (HE.out.later ho)); replace HO := Lib.hid (on_new HO.out ho); clear ho)
                | (go_at_call 14; (with_reducible refine (of_v _ _ _ HA.out (by first | exact HAlen.out | decide)).mono ?_); rintro e wx ⟨⟨vx, rfl, h⟩, ho⟩; (try replace HA := Lib.hid (HA.out.later ho)); (try replace HT := Lib.hid (HT.out.later ho)); (try replace HS := Lib.hid (HS.out.later ho)); (try replace HB := Lib.hid (HB.out.later ho)); (try replace HX := Lib.hid (HX.out.later ho)); (try replace HZ := Lib.hid (HZ.out.later ho)); (try replace HU := Lib.hid (HU.out.later ho)); (try replace HE := Lib.hid (HE.out.later ho)); have HX := Lib.hid h; (try have HXlen := Lib.hid HAlen.out); (try have HXi := Lib.hid HAi.out); clear h; replace HO := Lib.hid (on_new HO.out ho); clear ho)
                | (go_at_call 15; (with_reducible refine (HRL.out ▸ Right_v _ _ _ HX.out HXi.out).mono ?_); rintro e w22 ⟨rfl, ho⟩; (try replace HA := Lib.hid (HA.out.later ho)); (try replace HT := Lib.hid (HT.out.later ho)); (try replace HS := Lib.hid (HS.out.later ho)); (try replace HB := Lib.hid (HB.out.later ho)); (try replace HX := Lib.hid (HX.out.later ho)); (try replace HZ := Lib.hid (HZ.out.later ho)); (try replace HU := Lib.hid (HU.out.later ho)); (try replace HE := Lib.hid (HE.out.later ho)); replace HO := Lib.hid (on_new HO.out ho); clear ho)
                | (go_at_call 16; (with_reducible refine (HRL.out ▸ rRight_v _ _ _ HA.out HAi.out).mono ?_); rintro e w23 ⟨rfl, ho⟩; (try replace HA := Lib.hid (HA.out.later ho)); (try replace HT := Lib.hid (HT.out.later ho)); (try replace HS := Lib.hid (HS.out.later ho)); (try replace HB := Lib.hid (HB.out.later ho)); (try replace HX := Lib.hid (HX.out.later ho)); (try replace HZ := Lib.hid (HZ.out.later ho)); (try replace HU := Lib.hid (HU.out.later ho)); (try replace HE := Lib.hid (HE.out.later ho)); replace HO := Lib.hid (on_new HO.out ho); clear ho)
                | (go_at_call 17; (with_reducible refine (Count_n _ _ _ _ HX.out HXi.out HCARD.out).mono ?_); rintro e w24 ⟨rfl, ho⟩; (try replace HA := Lib.hid (HA.out.later ho)); (try replace HT := Lib.hid (HT.out.later ho)); (try replace HS := Lib.hid (HS.out.later ho)); (try replace HB := Lib.hid (HB.out.later ho)); (try replace HX := Lib.hid (HX.out.later ho)); (try replace HZ := Lib.hid (HZ.out.later ho)); (try replace HU := Lib.hid (HU.out.later ho)); (try replace HE := Lib.hid (HE.out.later ho)); replace HO := Lib.hid (on_new HO.out ho); clear ho)
                | (go_at_call 18; (with_reducible refine (End_n _ _ _ _ HX.out HXi.out (HE.out ▸ HEND.out)).mono ?_); rintro e w25 ⟨rfl, ho⟩; (try replace HA := Lib.hid (HA.out.later ho)); (try replace HT := Lib.hid (HT.out.later ho)); (try replace HS := Lib.hid (HS.out.later ho)); (try replace HB := Lib.hid (HB.out.later ho)); (try replace HX := Lib.hid (HX.out.later ho)); (try replace HZ := Lib.hid (HZ.out.later ho)); (try replace HU := Lib.hid (HU.out.later ho)); (try replace HE := Lib.hid (HE.out.later ho)); replace HO := Lib.hid (on_new HO.out ho); clear ho)
                | (go_at_call 19; (with_reducible refine (HBP.out ▸ Has_c _ _ _ _ HX.out HXi.out hp1 hp2).mono ?_); rintro e w26 ⟨rfl, ho⟩; (try replace HA := Lib.hid (HA.out.later ho)); (try replace HT := Lib.hid (HT.out.later ho)); (try replace HS := Lib.hid (HS.out.later ho)); (try replace HB := Lib.hid (HB.out.later ho)); (try replace HX := Lib.hid (HX.out.later ho)); (try replace HZ := Lib.hid (HZ.out.later ho)); (try replace HU := Lib.hid (HU.out.later ho)); (try replace HE := Lib.hid (HE.out.later ho)); replace HO := Lib.hid (on_new HO.out ho); clear ho)
                | (go_at_call 22; (with_reducible refine (Of_e _ _ _ _ _ _ HT.out (by omega) HZi.out HROW.out).mono ?_); rintro e wz ⟨⟨vz, rfl, h⟩, ho⟩; (try replace HA := Lib.hid (HA.out.later ho)); (try replace HT := Lib.hid (HT.out.later ho)); (try replace HS := Lib.hid (HS.out.later ho)); (try replace HB := Lib.hid (HB.out.later ho)); (try replace HX := Lib.hid (HX.out.later ho)); (try replace HZ := Lib.hid (HZ.out.later ho)); (try replace HU := Lib.hid (HU.out.later ho)); (try replace HE := Lib.hid (HE.out.later ho)); have HZ := Lib.hid h; have HZlen := Lib.hid HLlen.out; have HZi := Lib.hid HLi.out; clear h; replace HO := Lib.hid (on_new HO.out ho); clear ho)
                | (go_at_call 21; (with_reducible refine (old_v _ _ _ HZ.out (by first | exact HZlen.out | decide)).mono ?_); rintro e wu ⟨⟨vu, rfl, h⟩, ho⟩; (try replace HA := Lib.hid (HA.out.later ho)); (try replace HT := Lib.hid (HT.out.later ho)); (try replace HS := Lib.hid (HS.out.later ho)); (try replace HB := Lib.hid (HB.out.later ho)); (try replace HX := Lib.hid (HX.out.later ho)); (try replace HZ := Lib.hid (HZ.out.later ho)); (try replace HU := Lib.hid (HU.out.later ho)); (try replace HE := Lib.hid (HE.out.later ho)); have HU := Lib.hid h; (try have HUlen := Lib.hid HZlen.out); (try have HUi := Lib.hid HZi.out); clear h; replace HO := Lib.hid (on_new HO.out ho); clear ho)
                | (go_at_call 23; (with_reducible refine (Runs_m _ gt 32768 _ 32768 [] (by simpa [BRow] using HB.out) (by decide)).mono ?_); rintro e we ⟨⟨ve, rfl, h⟩, ho⟩; (try replace HA := Lib.hid (HA.out.later ho)); (try replace HT := Lib.hid (HT.out.later ho)); (try replace HS := Lib.hid (HS.out.later ho)); (try replace HB := Lib.hid (HB.out.later ho)); (try replace HX := Lib.hid (HX.out.later ho)); (try replace HZ := Lib.hid (HZ.out.later ho)); (try replace HU := Lib.hid (HU.out.later ho)); (try replace HE := Lib.hid (HE.out.later ho)); have HE := Lib.hid h; clear h; replace HO := Lib.hid (on_new HO.out ho); clear ho)
                | (go_at_call 20; (with_reducible refine (Same_t _ _ _ _ _ HU.out HE.out rfl).mono ?_); rintro e w30 ⟨rfl, ho⟩; (try replace HA := Lib.hid (HA.out.later ho)); (try replace HT := Lib.hid (HT.out.later ho)); (try replace HS := Lib.hid (HS.out.later ho)); (try replace HB := Lib.hid (HB.out.later ho)); (try replace HX := Lib.hid (HX.out.later ho)); (try replace HZ := Lib.hid (HZ.out.later ho)); (try replace HU := Lib.hid (HU.out.later ho)); (try replace HE := Lib.hid (HE.out.later ho)); replace HO := Lib.hid (on_new HO.out ho); clear ho))
              go_ret
              exact ⟨rfl, HO.out⟩
            · obtain ⟨pn, rfl⟩ : ∃ m : Nat, page = m := ⟨page.toNat, by omega⟩
              have hpb' : (pn : Int) < 600 := by omega
              have hpc : wr.cell? ⟨gs, pn, none⟩ = some (.bool bp) := by rw [HS.out.cell, bf_get _ (by omega), HBP.out]; rfl
              clear hpa hpb
              go_wp2_with (first
                | (go_at_call 11; (with_reducible refine (alive_c _).mono ?_); rintro e w20 ⟨rfl, ho⟩; (try replace HA := Lib.hid (HA.out.later ho)); (try replace HT := Lib.hid (HT.out.later ho)); (try replace HS := Lib.hid (HS.out.later ho)); (try replace HB := Lib.hid (HB.out.later ho)); (try replace HX := Lib.hid (HX.out.later ho)); (try replace HZ := Lib.hid (HZ.out.later ho)); (try replace HU := Lib.hid (HU.out.later ho)); (try replace HE := Lib.hid (HE.out.later ho)); replace HO := Lib.hid (on_new HO.out ho); clear ho)
                | (go_at_call 14; (with_reducible refine (of_v _ _ _ HA.out (by first | exact HAlen.out | decide)).mono ?_); rintro e wx ⟨⟨vx, rfl, h⟩, ho⟩; (try replace HA := Lib.hid (HA.out.later ho)); (try replace HT := Lib.hid (HT.out.later ho)); (try replace HS := Lib.hid (HS.out.later ho)); (try replace HB := Lib.hid (HB.out.later ho)); (try replace HX := Lib.hid (HX.out.later ho)); (try replace HZ := Lib.hid (HZ.out.later ho)); (try replace HU := Lib.hid (HU.out.later ho)); (try replace HE := Lib.hid (HE.out.later ho)); have HX := Lib.hid h; (try have HXlen := Lib.hid HAlen.out); (try have HXi := Lib.hid HAi.out); clear h; replace HO := Lib.hid (on_new HO.out ho); clear ho)
                | (go_at_call 15; (with_reducible refine (HRL.out ▸ Right_v _ _ _ HX.out HXi.out).mono ?_); rintro e w22 ⟨rfl, ho⟩; (try replace HA := Lib.hid (HA.out.later ho)); (try replace HT := Lib.hid (HT.out.later ho)); (try replace HS := Lib.hid (HS.out.later ho)); (try replace HB := Lib.hid (HB.out.later ho)); (try replace HX := Lib.hid (HX.out.later ho)); (try replace HZ := Lib.hid (HZ.out.later ho)); (try replace HU := Lib.hid (HU.out.later ho)); (try replace HE := Lib.hid (HE.out.later ho)); replace HO := Lib.hid (on_new HO.out ho); clear ho)
                | (go_at_call 16; (with_reducible refine (HRL.out ▸ rRight_v _ _ _ HA.out HAi.out).mono ?_); rintro e w23 ⟨rfl, ho⟩; (try replace HA := Lib.hid (HA.out.later ho)); (try replace HT := Lib.hid (HT.out.later ho)); (try replace HS := Lib.hid (HS.out.later ho)); (try replace HB := Lib.hid (HB.out.later ho)); (try replace HX := Lib.hid (HX.out.later ho)); (try replace HZ := Lib.hid (HZ.out.later ho)); (try replace HU := Lib.hid (HU.out.later ho)); (try replace HE := Lib.hid (HE.out.later ho)); replace HO := Lib.hid (on_new HO.out ho); clear ho)
                | (go_at_call 17; (with_reducible refine (Count_n _ _ _ _ HX.out HXi.out HCARD.out).mono ?_); rintro e w24 ⟨rfl, ho⟩; (try replace HA := Lib.hid (HA.out.later ho)); (try replace HT := Lib.hid (HT.out.later ho)); (try replace HS := Lib.hid (HS.out.later ho)); (try replace HB := Lib.hid (HB.out.later ho)); (try replace HX := Lib.hid (HX.out.later ho)); (try replace HZ := Lib.hid (HZ.out.later ho)); (try replace HU := Lib.hid (HU.out.later ho)); (try replace HE := Lib.hid (HE.out.later ho)); replace HO := Lib.hid (on_new HO.out ho); clear ho)
                | (go_at_call 18; (with_reducible refine (End_n _ _ _ _ HX.out HXi.out (HE.out ▸ HEND.out)).mono ?_); rintro e w25 ⟨rfl, ho⟩; (try replace HA := Lib.hid (HA.out.later ho)); (try replace HT := Lib.hid (HT.out.later ho)); (try replace HS := Lib.hid (HS.out.later ho)); (try replace HB := Lib.hid (HB.out.later ho)); (try replace HX := Lib.hid (HX.out.later ho)); (try replace HZ := Lib.hid (HZ.out.later ho)); (try replace HU := Lib.hid (HU.out.later ho)); (try replace HE := Lib.hid (HE.out.later ho)); replace HO := Lib.hid (on_new HO.out ho); clear ho)
                | (go_at_call 19; (with_reducible refine (HBP.out ▸ Has_c _ _ _ _ HX.out HXi.out hp1 hp2).mono ?_); rintro e w26 ⟨rfl, ho⟩; (try replace HA := Lib.hid (HA.out.later ho)); (try replace HT := Lib.hid (HT.out.later ho)); (try replace HS := Lib.hid (HS.out.later ho)); (try replace HB := Lib.hid (HB.out.later ho)); (try replace HX := Lib.hid (HX.out.later ho)); (try replace HZ := Lib.hid (HZ.out.later ho)); (try replace HU := Lib.hid (HU.out.later ho)); (try replace HE := Lib.hid (HE.out.later ho)); replace HO := Lib.hid (on_new HO.out ho); clear ho)
                | (go_at_call 22; (with_reducible refine (Of_e _ _ _ _ _ _ HT.out (by omega) HZi.out HROW.out).mono ?_); rintro e wz ⟨⟨vz, rfl, h⟩, ho⟩; (try replace HA := Lib.hid (HA.out.later ho)); (try replace HT := Lib.hid (HT.out.later ho)); (try replace HS := Lib.hid (HS.out.later ho)); (try replace HB := Lib.hid (HB.out.later ho)); (try replace HX := Lib.hid (HX.out.later ho)); (try replace HZ := Lib.hid (HZ.out.later ho)); (try replace HU := Lib.hid (HU.out.later ho)); (try replace HE := Lib.hid (HE.out.later ho)); have HZ := Lib.hid h; have HZlen := Lib.hid HLlen.out; have HZi := Lib.hid HLi.out; clear h; replace HO := Lib.hid (on_new HO.out ho); clear ho)
                | (go_at_call 21; (with_reducible refine (old_v _ _ _ HZ.out (by first | exact HZlen.out | decide)).mono ?_); rintro e wu ⟨⟨vu, rfl, h⟩, ho⟩; (try replace HA := Lib.hid (HA.out.later ho)); (try replace HT := Lib.hid (HT.out.later ho)); (try replace HS := Lib.hid (HS.out.later ho)); (try replace HB := Lib.hid (HB.out.later ho)); (try replace HX := Lib.hid (HX.out.later ho)); (try replace HZ := Lib.hid (HZ.out.later ho)); (try replace HU := Lib.hid (HU.out.later ho)); (try replace HE := Lib.hid (HE.out.later ho)); have HU := Lib.hid h; (try have HUlen := Lib.hid HZlen.out); (try have HUi := Lib.hid HZi.out); clear h; replace HO := Lib.hid (on_new HO.out ho); clear ho)
                | (go_at_call 23; (with_reducible refine (Runs_m _ gt 32768 _ 32768 [] (by simpa [BRow] using HB.out) (by decide)).mono ?_); rintro e we ⟨⟨ve, rfl, h⟩, ho⟩; (try replace HA := Lib.hid (HA.out.later ho)); (try replace HT := Lib.hid (HT.out.later ho)); (try replace HS := Lib.hid (HS.out.later ho)); (try replace HB := Lib.hid (HB.out.later ho)); (try replace HX := Lib.hid (HX.out.later ho)); (try replace HZ := Lib.hid (HZ.out.later ho)); (try replace HU := Lib.hid (HU.out.later ho)); (try replace HE := Lib.hid (HE.out.later ho)); have HE := Lib.hid h; clear h; replace HO := Lib.hid (on_new HO.out ho); clear ho)
                | (go_at_call 20; (with_reducible refine (Same_t _ _ _ _ _ HU.out HE.out rfl).mono ?_); rintro e w30 ⟨rfl, ho⟩; (try replace HA := Lib.hid (HA.out.later ho)); (try replace HT := Lib.hid (HT.out.later ho)); (try replace HS := Lib.hid (HS.out.later ho)); (try replace HB := Lib.hid (HB.out.later ho)); (try replace HX := Lib.hid (HX.out.later ho)); (try replace HZ := Lib.hid (HZ.out.later ho)); (try replace HU := Lib.hid (HU.out.later ho)); (try replace HE := Lib.hid (HE.out.later ho)); replace HO := Lib.hid (on_new HO.out ho); clear ho))
              go_ret
              exact ⟨rfl, HO.out⟩
end Go.Proofs.Ytjnaejogclmooaa
