/-
  slices.Collect, slices.Sorted, slices.Values; Of of the program.
-/
import Derived.Test.YtmadlckladohbaaGreatIter
import Derived.Test.YtmadlckladohbaaGreatUnio
import Derived.Lib.SlKeysI
set_option linter.unusedVariables false
namespace Go.Proofs.YtmadlckladohbaaGreat
open Go.RowKit Go.Shelf Go.Lib Go.Sort

theorem AppendSeq_c (Bs : Nat) (sv : Value) (zs : List Int) (hlen : zs.length ≤ 1000000) (w : World) (hBs : Bs < w.heap.size) (hcs : w.cell? ⟨Bs, 0, none⟩ = some sv) (hI : Ints w.heap.size w sv zs) :
    Calls Tryz.prog 102 #[.slice none 0 0, .func (.func 95) #[] #[.pointer (some ⟨Bs, 0, none⟩)]] w fun e W' => ∃ v, e = .returned v ∧ W'.ownsRow w.heap.size 3 1 v zs.length (zs.map (Value.int .i64)) ∧ Below w.heap.size w W' :=
  calls_of_every_depth (L := [102, 95]) (n := 3) fun D => AppendSeq_in (Fence.list [102, 95] (some D)) 3 (by simp [Fence.list]) (by simp [Fence.list]) rfl (Nat.le_refl _) Bs sv zs hlen w hBs hcs hI

theorem Collect_c (Bs : Nat) (sv : Value) (zs : List Int) (hlen : zs.length ≤ 1000000) (w : World) (hBs : Bs < w.heap.size) (hcs : w.cell? ⟨Bs, 0, none⟩ = some sv) (hI : Ints w.heap.size w sv zs) :
    Calls Tryz.prog 93 #[.func (.func 95) #[] #[.pointer (some ⟨Bs, 0, none⟩)]] w fun e W' => ∃ v, e = .returned v ∧ W'.ownsRow w.heap.size 3 1 v zs.length (zs.map (Value.int .i64)) ∧ Only (w.heap.size ≤ ·) w W' := by
  have H := Lib.hid (AppendSeq_c Bs sv zs hlen w hBs hcs hI)
  clear hcs hI
  go_enter Tryz.func93, Tryz.ntmps93
  go_wp2_with (go_at_call 102; refine H.out.mono ?_; rintro e w1 ⟨v, rfl, hv, hb⟩; have HV := Lib.hid hv; have HB := Lib.hid hb; clear hv hb)
  go_ret
  exact ⟨v, rfl, HV.out, Only.below HB.out⟩

def leB (x y : Int) : Bool := decide (x ≤ y)
theorem Sort_c (w : World) (B : Nat) (v : Value) (zs : List Int) (h : w.ownsRow B 3 1 v zs.length (zs.map (Value.int .i64))) (hB : B ≤ w.heap.size) (hn : zs.length ≤ 1000000) :
    Calls Tryz.prog 94 #[v] w fun e w' => e = .returned (.tuple #[]) ∧ w'.ownsRow B 3 1 v zs.length ((zs.mergeSort leB).map (Value.int .i64)) ∧ Only (B ≤ ·) w w' := by
  obtain ⟨h1, h2⟩ := h
  rcases h2 with ⟨rfl, h0⟩ | ⟨g, cap, cur, rfl, hb, hg, hn', hm, hs, ht⟩
  · obtain rfl : zs = [] := List.eq_nil_of_length_eq_zero h0
    exact (Tryz.slices_Sort_int_none none 0 w).mono fun e w' ⟨h1, h2⟩ => ⟨h1, by rw [h2]; exact ⟨by simp, .inl ⟨rfl, rfl⟩⟩, by rw [h2]; exact Only.refl _ _⟩
  · have hH : Holds (Value.int .i64) w g 0 zs.toArray := holds_of_block_i hg (by rw [← ht, Nat.mul_one])
    refine (Tryz.slices_Sort_int g 0 cap zs w hH (Array.getElem?_eq_some_iff.1 hg).1 (by omega)).mono fun e w' ⟨h1, n, os, h3⟩ => ⟨h1, ?_, ?_⟩
    · rw [h3]
      exact ownsRow_sorted_i (by simp) hb hg hn' hm hs
    · rw [h3]
      exact (Only.refl _ w).grown (grownBy_sorted_i _) (fun k hk => Nat.le_trans hB hk) (fun k hk => by cases hk; exact hb)

theorem Sorted_c (Bs : Nat) (sv : Value) (zs : List Int) (hlen : zs.length ≤ 1000000) (w : World) (hBs : Bs < w.heap.size) (hcs : w.cell? ⟨Bs, 0, none⟩ = some sv) (hI : Ints w.heap.size w sv zs) :
    Calls Tryz.prog 77 #[.func (.func 95) #[] #[.pointer (some ⟨Bs, 0, none⟩)]] w fun e W' => ∃ A c, e = .returned (.slice A zs.length c) ∧ W'.ownsRow w.heap.size 3 1 (.slice A zs.length c) zs.length ((zs.mergeSort leB).map (Value.int .i64)) ∧ Only (w.heap.size ≤ ·) w W' := by
  have H := Lib.hid (Collect_c Bs sv zs hlen w hBs hcs hI)
  clear hcs hI
  go_enter Tryz.func77, Tryz.ntmps77
  go_wp2_with (first | (go_at_call 93; refine H.out.mono ?_; rintro e w1 ⟨v, rfl, hv, hb⟩; have HV := Lib.hid hv; have HB := Lib.hid hb; clear hv hb) | (go_at_call 94; refine (Sort_c w1 _ v zs HV.out HB.out.size hlen).mono ?_; rintro e w2 ⟨rfl, hv2, ho2⟩; have HV2 := Lib.hid hv2; have HO2 := Lib.hid ho2; clear hv2 ho2))
  go_ret
  rcases Joins.ownsRow_forms HV2.out with ⟨rfl, h0⟩ | ⟨g, cap, rfl⟩
  · refine ⟨none, 0, by rw [h0]; rfl, ?_, HB.out.trans HO2.out⟩
    have := HV2.out
    rw [h0] at this ⊢
    exact this
  · exact ⟨_, _, rfl, HV2.out, HB.out.trans HO2.out⟩

/-- What has been laid of sorted pages. -/
def OfInv (zs : List Int) (k : Nat) (u : List R) : Prop := right u = true ∧ (∀ p, inn u p = true ↔ p ∈ zs.take k ∧ may (p, 1) = true) ∧ ∀ r, u.getLast? = some r → ∀ q ∈ zs.drop k, r.1 ≤ q
theorem OfInv.start (zs : List Int) : OfInv zs 0 [] := ⟨rfl, fun p => by simp [inn], fun r h => by simp at h⟩
theorem OfInv.skip {zs : List Int} {k : Nat} {q : Int} {u : List R} (h : OfInv zs k u) (hq : zs[k]? = some q) (hm : may (q, 1) = false) : OfInv zs (k + 1) u := by
  obtain ⟨h1, h2, h3⟩ := h
  refine ⟨h1, fun p => ?_, fun r hr y hy => h3 r hr y (by rw [drop_at hq]; exact List.mem_cons_of_mem _ hy)⟩
  rw [h2, List.take_add_one, hq]
  simp only [Option.toList_some, List.mem_append, List.mem_singleton]
  constructor
  · rintro ⟨a, b⟩; exact ⟨.inl a, b⟩
  · rintro ⟨a | rfl, b⟩
    · exact ⟨a, b⟩
    · rw [hm] at b; cases b
theorem OfInv.step {zs : List Int} {k : Nat} {q : Int} {u : List R} (h : OfInv zs k u) (hs : zs.Pairwise (· ≤ ·)) (hq : zs[k]? = some q) (hm : may (q, 1) = true) : OfInv zs (k + 1) (lay u (q, 1)) := by
  obtain ⟨h1, h2, h3⟩ := h
  have hd := drop_at hq
  obtain ⟨k1, k2, k3⟩ := lay_right h1 hm fun r hr => h3 r hr q (by rw [hd]; simp)
  refine ⟨k1, fun p => ?_, fun r hr y hy => ?_⟩
  · rw [k2, h2, List.take_add_one, hq]
    simp only [Option.toList_some, List.mem_append, List.mem_singleton]
    unfold within
    simp only
    constructor
    · rintro (⟨a, b⟩ | ⟨a, b⟩)
      · exact ⟨.inl a, b⟩
      · obtain rfl : p = q := by omega
        exact ⟨.inr rfl, hm⟩
    · rintro ⟨a | rfl, b⟩
      · exact .inl ⟨a, b⟩
      · exact .inr ⟨by omega, by omega⟩
  · have hp : (zs.drop k).Pairwise (· ≤ ·) := hs.sublist (List.drop_sublist _ _)
    rw [hd, List.pairwise_cons] at hp
    have := hp.1 y hy
    have := k3 r hr
    simp only at this
    omega

def OfSays (w : World) (pages : List Int) (e : Ending) (w' : World) : Prop := ∃ v n u, e = .returned v ∧ OwnN w' w.heap.size v n u ∧ IsRow u (fun p => p ∈ pages ∧ 0 ≤ p ∧ p < 32768) ∧ Only (w.heap.size ≤ ·) w w'

set_option maxRecDepth 100000 in
set_option maxHeartbeats 6400000 in
theorem Of_c (w : World) (A : Option Addr) (n c : Nat) (pages : List Int) (hI : Ints w.heap.size w (.slice A n c) pages) (hn : n = pages.length) (hlen : pages.length ≤ 1000000) (hr : ∀ p ∈ pages, -9223372036854775808 ≤ p ∧ p ≤ 9223372036854775807) :
    Calls Tryz.prog 64 #[.slice A n c] w (OfSays w pages) := by
  obtain ⟨wb, hwb⟩ : ∃ wb, wb = w.alloc (.cells #[.slice A n c] 37) := ⟨_, rfl⟩
  obtain ⟨bb, hbb⟩ : ∃ bb, bb = w.heap.size := ⟨_, rfl⟩
  have HOB : Hid (Only (w.heap.size ≤ ·) w wb) := by rw [hwb]; exact (Only.refl _ w).alloc (fun _ h => h) _
  have HSC : Hid (Calls Tryz.prog 77 #[.func (.func 95) #[] #[.pointer (some ⟨bb, 0, none⟩)]] wb fun e W' => ∃ A c, e = .returned (.slice A pages.length c) ∧ W'.ownsRow wb.heap.size 3 1 (.slice A pages.length c) pages.length ((pages.mergeSort leB).map (Value.int .i64)) ∧ Only (wb.heap.size ≤ ·) wb W') := by
    have hb : Blk wb bb 37 [.slice A n c] := by rw [hwb, hbb]; exact Blk.new w _ _
    refine Sorted_c bb (.slice A n c) pages hlen wb hb.lt (hb.cell 0) ?_
    have hbel : Below w.heap.size w wb := by rw [hwb]; exact (Below.refl _ w).alloc (Nat.le_refl _) _
    rcases hI.below hbel with h | ⟨b, off, cap, h1, h2, h3⟩
    · exact .inl h
    · exact .inr ⟨b, off, cap, h1, Nat.lt_of_lt_of_le h2 HOB.out.size, h3⟩
  have HWB : Hid (wb = w.alloc (.cells #[.slice A n c] 37) ∧ bb = w.heap.size) := ⟨hwb, hbb⟩
  have HVA : Hid (Calls Tryz.prog 78 #[.slice A n c] w fun e w' => e = .returned (.func (.func 95) #[] #[.pointer (some ⟨bb, 0, none⟩)]) ∧ w' = wb) := by
    show Calls _ _ _ _ _
    rw [hwb, hbb]
    clear hn
    go_enter Tryz.func78, Tryz.ntmps78
    go_wp2
    go_ret
    exact ⟨rfl, rfl⟩
  obtain ⟨zs, hzs⟩ : ∃ zs, zs = pages.mergeSort leB := ⟨_, rfl⟩
  rw [← hzs] at HSC
  have hperm : zs.Perm pages := by rw [hzs]; exact List.mergeSort_perm _ _
  have HP := Lib.hid hperm
  have HZL : Hid (zs.length = pages.length) := hperm.length_eq
  have HSD : Hid (zs.Pairwise (· ≤ ·)) := by
    rw [hzs]
    have := List.pairwise_mergeSort (le := leB) (fun a b c h1 h2 => by simp [leB] at *; omega) (fun a b => by simp [leB]; omega) pages
    exact Lib.hid (this.imp (fun h => by simpa [leB] using h))
  have HRG : Hid (∀ p ∈ zs, -9223372036854775808 ≤ p ∧ p ≤ 9223372036854775807) := fun p hp => hr p (hperm.mem_iff.1 hp)
  obtain ⟨m, hm⟩ : ∃ m, m = pages.length := ⟨_, rfl⟩
  rw [← hm] at HSC HZL hlen
  clear hI hn hr hwb hbb hzs hperm hm
  go_enter Tryz.func64, Tryz.ntmps64
  go_wp2_with (first | (go_at_call 78; refine HVA.out.mono ?_; rintro e w1 ⟨rfl, rfl⟩) | (go_at_call 77; refine HSC.out.mono ?_; rintro e w2 ⟨As, cs, rfl, hv, ho2⟩; have HV := Lib.hid hv; have HO2 := Lib.hid (on_new HOB.out ho2); clear hv ho2))
  have HAT : Hid (∀ W : World, Only (w2.heap.size ≤ ·) w2 W → ∀ k q, zs[k]? = some q → ∃ g, As = some ⟨g, 0, none⟩ ∧ W.cell? ⟨g, k, none⟩ = some (.int .i64 q)) := fun W hW k q hq => by
    have hk := (List.getElem?_eq_some_iff.1 hq).1
    obtain ⟨g, cap, e⟩ := Joins.ownsRow_form HV.out (by rw [← HZL.out]; omega)
    cases e
    refine ⟨g, rfl, ?_⟩
    have := (own_later HV.out hW).cells (g := g) rfl k (.int .i64 q) (by rw [List.getElem?_map, hq]; rfl)
    rwa [Addr.add_lit, Nat.zero_add] at this
  clear HV HSC HVA
  go_loopw [3, 11] (fun q i wr => ∃ (k N : Nat) (val : Value) (uu : List R), k ≤ m ∧ q = val ∧ i = .int .i64 k ∧ Hid (OwnN wr w2.heap.size val N uu) ∧ Hid (OfInv zs k uu) ∧ Only (w2.heap.size ≤ ·) w2 wr) (fun _ i _ => m - (intOf i).toNat)
  case atStart => exact ⟨0, 0, _, [], Nat.zero_le _, rfl, rfl, ⟨rfl, World.ownsRow_nil _ _ _ _⟩, OfInv.start zs, Only.refl _ _⟩
  case round =>
    obtain ⟨k, N, val, uu, hk, rfl, rfl, HW, HLA, ho⟩ := hrel
    have HO := Lib.hid ho
    clear ho
    by_cases hlt : k < m
    · obtain ⟨q, hq⟩ : ∃ q, zs[k]? = some q := ⟨_, List.getElem?_eq_getElem (by rw [HZL.out]; exact hlt)⟩
      obtain ⟨g, rfl, hc⟩ := HAT.out _ HO.out k q hq
      have hqr := HRG.out q (List.mem_of_getElem? hq)
      have HQ := Lib.hid hq
      clear hq
      have HOX : Hid (Only (wr.heap.size ≤ ·) wr (wr.alloc (.cells #[.int .i64 q, .int .i64 1] 54))) := (Only.refl _ wr).alloc (fun _ h => h) _
      have HBX : Hid (Blk (wr.alloc (.cells #[.int .i64 q, .int .i64 1] 54)) wr.heap.size 54 [.int .i64 q, .int .i64 1]) := Blk.new wr _ _
      have HWX := Lib.hid (HW.out.later HOX.out)
      have HMC : Hid (∀ W : World, Calls Tryz.prog 68 #[.agg #[.int .i64 q, .int .i64 1]] W fun e w' => e = .returned (.bool (may (q, 1))) ∧ Only (W.heap.size ≤ ·) W w') := fun W => mayBe_c W q 1 hqr.2
      obtain ⟨b, hb⟩ : ∃ b, b = may (q, 1) := ⟨_, rfl⟩
      rw [← hb] at HMC
      have HB := Lib.hid hb
      have hkm : (k : Int) < (m : Int) := by omega
      have hk0 : (0 : Int) ≤ (k : Int) := by omega
      clear hb
      cases b
      · go_wp2_with (go_at_call 68; refine (HMC.out _).mono ?_; rintro e w3 ⟨rfl, ho3⟩; have HO3 := Lib.hid ho3; clear ho3)
        go_roundw
        case rel => exact ⟨k + 1, N, _, uu, by omega, rfl, by go_num, Lib.hid (HWX.out.later HO3.out), Lib.hid (HLA.out.skip HQ.out HB.out.symm), on_new HO.out (on_new HOX.out HO3.out)⟩
        case measure => simp [intOf]; omega
      · go_wp2_with (first | (go_at_call 68; refine (HMC.out _).mono ?_; rintro e w3 ⟨rfl, ho3⟩; have HO3 := Lib.hid (on_new HOX.out ho3); have HW3 := Lib.hid (HWX.out.later ho3); have hbx := HBX.out.later ho3; have hq1 := hbx.cell 0; have hq2 := hbx.cell 1; simp at hq1 hq2; clear ho3 hbx) | (go_at_call 62; refine (lay_c w3 _ _ N uu (q, 1) HW3.out (Nat.le_trans HO.out.size HO3.out.size) HLA.out.1 HB.out.symm).mono ?_; rintro e w6 ⟨v6, n6, rfl, hv6, ho6⟩; have HV6 := Lib.hid hv6; have HO6 := Lib.hid ((on_new HO.out HO3.out).trans ho6); clear hv6 ho6))
        go_roundw
        case rel => exact ⟨k + 1, n6, _, _, by omega, rfl, by go_num, HV6, Lib.hid (HLA.out.step HSD.out HQ.out HB.out.symm), HO6.out⟩
        case measure => simp [intOf]; omega
    · obtain rfl : k = m := by omega
      have hkm : ¬ (k : Int) < (k : Int) := by omega
      go_wp2
      go_ret
      refine ⟨_, N, uu, rfl, HW.out.weaken HO2.out.size, ?_, on_new HO2.out HO.out⟩
      have hL := HLA.out
      refine ⟨hL.1, fun p => ?_⟩
      rw [hL.2.1, List.take_of_length_le (by rw [HZL.out]; exact Nat.le_refl _), HP.out.mem_iff, may_iff]
      simp only
      constructor
      · rintro ⟨a, b⟩; exact ⟨a, by omega, by omega⟩
      · rintro ⟨a, b, c⟩; exact ⟨a, by omega, by omega, by omega⟩
end Go.Proofs.YtmadlckladohbaaGreat
