/-
  The document's own Seal.
-/
import Derived.Test.YtdgcplmekkancaaPart
set_option linter.unusedVariables false
namespace Go.Proofs.Ytdgcplmekkancaa
open Go.RowKit

theorem put4_cells (cur : List Value) (xs : Bytes) (a n : Nat) (ha : a + 4 ≤ n) (hn : n ≤ cur.length) (hc : cur.take n = cb xs) :
    cb (put4 xs a) = (splice cur a (cb (le4 (sum (oth xs a))))).take n := by
  have hll : (cb (le4 (sum (oth xs a)))).length = 4 := by rw [cb_length, le4_length]
  rw [splice_take cur _ a n 4 hll ha hn, hc]
  unfold put4
  rw [cb_append, cb_append]
  simp [cb, List.map_take, List.map_drop]
theorem splice_set (cur vs : List Value) (a k : Nat) (v : Value) (hv : vs[k]? = some v) (ha : a + vs.length ≤ cur.length) : (splice cur a (vs.take k)).set (a + k) v = splice cur a (vs.take (k + 1)) := by
  have hk : k < vs.length := (List.getElem?_eq_some_iff.1 hv).1
  apply List.ext_getElem?
  intro i
  rw [List.getElem?_set]
  simp only [splice, List.getElem?_append, List.getElem?_take, List.getElem?_drop, List.length_take, List.length_append, List.length_drop]
  by_cases e : a + k = i
  · subst e
    have e1 : min a cur.length = a := by omega
    have e2 : min (k + 1) vs.length = k + 1 := by omega
    have e3 : min k vs.length = k := by omega
    rw [if_pos rfl, e1, e2, e3, if_pos (by omega), if_neg (by omega), if_pos (by omega), Nat.add_sub_cancel_left, if_pos (by omega), hv]
  · rw [if_neg e]
    repeat' split
    all_goals first | rfl | omega | (congr 1; omega)
theorem splice_nil (cur : List Value) (a : Nat) : splice cur a [] = cur := by simp [splice]
theorem emp (w : World) (B : Nat) (h : B ≤ w.heap.size) : (w.alloc (.cells #[] 5)).ownsRow B 5 1 (.slice (some ⟨w.heap.size, 0, none⟩) 0 0) 0 [] :=
  World.ownsRow_made (size := 1) (base := B) (e := 5) w #[] 0 h (by simp [maxLen]) (by simp)
theorem le4_cell (s k : Nat) (hk : k < 4) : (cb (le4 s))[k]? = some (.int .u8 (((s / 256 ^ k : Nat) : Int) % 256)) := by
  have h : k = 0 ∨ k = 1 ∨ k = 2 ∨ k = 3 := by omega
  rcases h with rfl | rfl | rfl | rfl <;> simp [cb, le4, ofNat_int]

/-- In the midst of the loop. -/
def Mid (w wr : World) (g a : Nat) (cur : List Value) (s k : Nat) : Prop := Blk wr g 5 (splice cur a ((cb (le4 s)).take k)) ∧ Only (w.heap.size ≤ ·) w wr
theorem Mid.set {w wr : World} {g a s k : Nat} {cur : List Value} (h : Mid w wr g a cur s k) (hk : k < 4) (hg : w.heap.size ≤ g) (hl : a + 4 ≤ cur.length) (v : Int) (hv : v = ((s / 256 ^ k : Nat) : Int) % 256) : Mid w (wr.setCell ⟨g, a + k, none⟩ (.int .u8 v)) g a cur s (k + 1) := by
  refine ⟨?_, h.2.setCell hg _⟩
  have := h.1.set_ (a + k) (.int .u8 v)
  rwa [splice_set cur (cb (le4 s)) a k _ (by rw [hv]; exact le4_cell s k hk) (by rw [cb_length, le4_length]; exact hl)] at this
theorem Mid.cell {w wr : World} {g a s k : Nat} {cur : List Value} (h : Mid w wr g a cur s k) (hl : a + 4 ≤ cur.length) (hk : k < 4) : ∃ v, wr.cell? ⟨g, a + k, none⟩ = some v := by
  rw [h.1.cell]
  have hlen : (splice cur a ((cb (le4 s)).take k)).length = cur.length := by
    simp [splice, cb_length, le4_length]
    omega
  exact ⟨_, List.getElem?_eq_getElem (by omega)⟩

set_option maxRecDepth 100000 in
set_option maxHeartbeats 1600000 in
theorem refSeal_c (w : World) (A : Option Addr) (n c : Nat) (xs : Bytes) (ht : Txt w A n xs) (hA : A = none → n = 0 ∧ c = 0) (hn : n ≤ 65536) (hc : n ≤ c) (hcm : c ≤ 9223372036854775807) (at_ : Int) (h1 : -9223372036854775808 ≤ at_) (h2 : at_ ≤ 9223372036854775807) :
    Calls Try.prog 14 #[.slice A n c, .int .i64 at_] w fun e w' => ∃ v, e = .returned v ∧ Byt w w' v n (sealB xs at_) := by
  obtain ⟨i0, hi0, hz0, hz1, hz2⟩ := info_parts info5
  have HI := Lib.hid (And.intro hi0 (And.intro hz0 (And.intro hz1 hz2)))
  clear hi0 hz0 hz1 hz2
  have Hlen : Hid ((cb xs).length = n * 1) := by show _ = _; rw [cb_length, ht.1, Nat.mul_one]
  have Hxl : Hid (xs.length = n) := ht.1
  have HE : Hid ((w.alloc (.cells #[] 5)).ownsRow w.heap.size 5 1 (.slice (some ⟨w.heap.size, 0, none⟩) 0 0) 0 []) := emp w _ (Nat.le_refl _)
  have HC : Hid (∀ ad, A = some ad → ∀ j u, (cb xs)[j]? = some u → (w.alloc (.cells #[] 5)).cell? (ad.add j) = some u) := by
    intro ad e j u hu
    have hj : j < (cb xs).length := (List.getElem?_eq_some_iff.1 hu).1
    rw [cb_length, ht.1] at hj
    obtain ⟨ad', e', hc⟩ := (ht.later ((Only.refl _ w).alloc (fun _ h => h) (.cells #[] 5))).2 (by omega)
    rw [e] at e'
    cases e'
    exact hc j u hu
  have HSz : Hid (w.heap.size ≤ (w.alloc (.cells #[] 5)).heap.size) := by show _ ≤ _; simp
  have HA := Lib.hid hA
  have HT := Lib.hid ht
  have hn4 : IntKind.i64.wrap ((n : Int) - 4) = (n : Int) - 4 := IntWalk.i64_in _ (by omega)
  clear hA ht
  by_cases hr : room n at_ = true
  · have E : Hid (sealB xs at_ = put4 xs at_.toNat) := by show _ = _; unfold sealB; rw [Hxl.out, if_pos hr]
    obtain ⟨a, rfl⟩ : ∃ a : Nat, at_ = (a : Int) := ⟨at_.toNat, by simp only [room, decide_eq_true_eq] at hr; omega⟩
    have ha : a + 4 ≤ n := by simp only [room, decide_eq_true_eq] at hr; omega
    obtain ⟨ad, rfl⟩ : ∃ ad, A = some ad := by
      cases A with
      | some ad => exact ⟨ad, rfl⟩
      | none => have := (HA.out rfl).1; omega
    have HD3 : Hid (n = a + 4 → xs.drop (a + 4) = []) := fun e => List.drop_of_length_le (by rw [Hxl.out]; omega)
    have Hoth : Hid (cb (oth xs a) = cb (xs.take a) ++ cb (xs.drop (a + 4))) := cb_append _ _
    have Hothl : Hid ((oth xs a).length = a + (n - (a + 4))) := by
      show _ = _
      unfold oth
      rw [List.length_append, List.length_take, List.length_drop, Hxl.out]
      omega
    have HTl : Hid ((cb (xs.take a)).length = a * 1) := by show _ = _; rw [cb_length, List.length_take, Hxl.out]; omega
    have HDl0 : Hid ((cb (xs.drop (a + 4))).length = (n - (a + 4)) * 1) := by show _ = _; rw [cb_length, List.length_drop, Hxl.out]; omega
    have HTa : Hid (∀ W, Only (w.heap.size ≤ ·) w W → ∀ j u, (cb (xs.take a))[j]? = some u → W.cell? (ad.add j) = some u) := by
      intro W hW j u hu
      have hj : j < (cb (xs.take a)).length := (List.getElem?_eq_some_iff.1 hu).1
      rw [HTl.out] at hj
      obtain ⟨ad', e', hc⟩ := ((HT.out.later hW).take a (by omega)).2 (by omega)
      cases e'
      exact hc j u hu
    have HTd0 : Hid (∀ W, Only (w.heap.size ≤ ·) w W → ∀ (ad' : Addr), (c ≠ a + 4 → ad' = ad.add (a + 4)) → ∀ j u, (cb (xs.drop (a + 4)))[j]? = some u → W.cell? (ad'.add j) = some u) := by
      intro W hW ad1 hne j u hu
      have hj : j < (cb (xs.drop (a + 4))).length := (List.getElem?_eq_some_iff.1 hu).1
      rw [HDl0.out] at hj
      obtain ⟨ad', e', hc⟩ := ((HT.out.later hW).drop (a + 4)).2 (by omega)
      cases e'
      rw [hne (by omega)]
      exact hc j u hu
    clear hr
    by_cases hcap : c = a + 4
    · have HTd : Hid (∀ W, Only (w.heap.size ≤ ·) w W → ∀ j u, (cb (xs.drop (a + 4)))[j]? = some u → W.cell? (ad.add j) = some u) := fun W hW => HTd0.out W hW ad (fun h => absurd hcap h)
      obtain rfl : n = a + 4 := by omega
      have HDl : Hid ((cb (xs.drop (a + 4))).length = 0 * 1) := by have := HDl0.out; rw [Nat.sub_self] at this; exact this
      clear HTd0 HDl0
      subst hcap
      have a0 : (0 : Int) ≤ (a : Int) := by omega
      have b1 : ¬ ((a : Int) < 0) := by omega
      have a5 : (0 : Int) ≤ (a : Int) + 4 := by omega
      have a6 : (a : Int) ≤ (a : Int) + 4 := by omega
      have aw : IntKind.i64.wrap ((a : Int) + 4) = (a : Int) + 4 := IntWalk.i64_in _ (by omega)
      have an : ((a : Int) + 4).toNat = a + 4 := by omega
      go_enter Try.func14, Try.ntmps14
      go_wp2_with (first | (at_builtin; refine wpList_append_src _ rfl (.tmp 9) (.tmp 10) 22 rfl w.heap.size 5 i0 _ 1 1 Try.underlying22 HI.out.1 HI.out.2.1 HI.out.2.2.1 HI.out.2.2.2 (by rfl) (by omega) _ 0 [] rfl HE.out (some ad) (a + 4) (a + 4) (cb xs) rfl HA.out Hlen.out HC.out (cb_one _) (by simp only [maxLen]; omega) (by omega) HSz.out ?_; intro v' w1 ho' hg'; have HW1 : Hid (Byt w w1 v' ((a + 4)) xs) := ⟨Hxl.out, by simpa using ho', ((Only.refl _ w).alloc (fun _ h => h) _).grown hg' (fun _ h => h) (fun g hg => by injection hg with hg; exact Nat.le_of_eq hg)⟩; clear ho' hg') | (at_builtin; refine wpList_append_own _ rfl (.tmp 22) (.tmp 25) 22 rfl w1.heap.size 5 i0 _ 1 1 Try.underlying22 HI.out.1 HI.out.2.1 HI.out.2.2.1 HI.out.2.2.2 (by rfl) (by omega) (.slice (some ⟨w1.heap.size, 0, none⟩) 0 0) 0 [] rfl (emp w1 _ (Nat.le_refl _)) ad a (a + 4) (cb (xs.take a)) rfl HTl.out (HTa.out _ (HW1.out.2.2.alloc (fun _ h => h) _)) (cb_one _) (by simp only [maxLen]; omega) (by omega) (by simp) ?_; intro v2 w2 ho2 hg2 _; have HR2 : Hid (w2.ownsRow w1.heap.size 5 1 v2 a (cb (xs.take a))) := Lib.hid (by simpa using ho2); have HO2 : Hid (Only (w1.heap.size ≤ ·) w1 w2) := ((Only.refl _ w1).alloc (fun _ h => h) _).grown hg2 (fun _ h => h) (fun g hg => by injection hg with hg; exact Nat.le_of_eq hg); clear ho2 hg2) | (at_builtin; refine wpList_append_own _ rfl (.tmp 27) (.tmp 31) 22 rfl w1.heap.size 5 i0 _ 1 1 Try.underlying22 HI.out.1 HI.out.2.1 HI.out.2.2.1 HI.out.2.2.2 (by rfl) (by omega) v2 a (cb (xs.take a)) rfl HR2.out ad 0 0 (cb (xs.drop (a + 4))) rfl HDl.out (HTd.out _ (HW1.out.2.2.trans (HO2.out.mono fun k h => Nat.le_trans HW1.out.2.2.size h))) (cb_one _) (by simp only [maxLen]; omega) (by omega) HO2.out.size ?_; intro v3 w3 ho3 hg3 _; have HO3 : Hid (Only (w1.heap.size ≤ ·) w1 w3) := HO2.out.grown hg3 (fun _ h => h) (fun g hg => (HR2.out.lt g hg).1); have HR3 : Hid (w3.ownsRow w1.heap.size 5 1 v3 (a + 0) (cb (oth xs a))) := Lib.hid (by rw [Hoth.out]; exact ho3); clear ho3 hg3; obtain ⟨A3, c3, rfl, ht3, _⟩ := txt_of_own HR3.out; have HT3 := Lib.hid ht3; clear ht3) | (go_at_call 10; refine (refOf_c _ A3 (a + 0) c3 (oth xs a) HT3.out (by omega)).mono ?_; rintro e w4 ⟨rfl, ho4⟩; have HO4 : Hid (Only (w1.heap.size ≤ ·) w1 w4) := HO3.out.trans (ho4.mono fun k h => Nat.le_trans HO3.out.size h); clear ho4))
      obtain ⟨hxl, hrow, hon⟩ := HW1.out
      rcases hrow.2 with ⟨_, h0⟩ | ⟨g, cap, cur, rfl, hbg, hg, hnc, hcpm, hcs, htake⟩
      · omega
      have hgl : g < w1.heap.size := (Array.getElem?_eq_some_iff.1 hg).1
      obtain ⟨S, hS⟩ : ∃ S, S = sum (oth xs a) := ⟨_, rfl⟩
      rw [← hS]
      have hSl : S < 4294967296 := by rw [hS]; exact sum_lt _
      have HM : Hid (Mid w w4 g a cur.toList S 0) := by
        have h1 : Blk w1 g 5 cur.toList := by unfold Blk; rw [Array.toArray_toList]; exact hg
        refine ⟨?_, hon.trans (HO4.out.mono fun k h => Nat.le_trans hon.size h)⟩
        rw [List.take_zero, splice_nil]
        exact h1.only HO4.out (by omega)
      have Hcl : Hid (cur.toList.length = cap) := by show _ = _; rw [Array.length_toList, hcs, Nat.mul_one]
      have Hcs : Hid (cur.size = cap * 1) := hcs
      have HE2 : Hid (cb (put4 xs a) = (splice cur.toList a (cb (le4 S))).take (a + 4)) := by
        show _ = _
        rw [hS]
        exact put4_cells cur.toList xs a (a + 4) ha (by have := Hcl.out; omega) (by rw [← htake, Nat.mul_one])
      have w0 : IntKind.i64.wrap ((a : Int) + 0) = (a : Int) := IntWalk.i64_in _ (by omega)
      have w1' : IntKind.i64.wrap ((a : Int) + 1) = (a : Int) + 1 := IntWalk.i64_in _ (by omega)
      have w2' : IntKind.i64.wrap ((a : Int) + 2) = (a : Int) + 2 := IntWalk.i64_in _ (by omega)
      have w3' : IntKind.i64.wrap ((a : Int) + 3) = (a : Int) + 3 := IntWalk.i64_in _ (by omega)
      have Hcpm := Lib.hid hcpm
      have Hxl2 := Lib.hid hxl
      have hcap1 : a + 4 ≤ cap := by omega
      clear hS hgl HW1 htake hcs hg hcpm hrow hon HO4 HO3 aw an hxl
      go_loopw [8, 7] (fun i s wr => ∃ k : Nat, k ≤ 4 ∧ i = .int .i64 k ∧ s = .int .u32 (S / 256 ^ k : Nat) ∧ Mid w wr g a cur.toList S k) (fun i _ _ => 4 - (intOf i).toNat)
      case atStart => exact ⟨0, by omega, rfl, by simp, HM.out⟩
      case round =>
        clear HM
        obtain ⟨k, hk, rfl, rfl, hm⟩ := hrel
        have HM := Lib.hid hm
        clear hm
        by_cases hlt : k < 4
        · have hk4 : k = 0 ∨ k = 1 ∨ k = 2 ∨ k = 3 := by omega
          rcases hk4 with rfl | rfl | rfl | rfl
          · obtain ⟨u, hu⟩ := HM.out.cell (by have := Hcl.out; omega) (by omega)
            have fu := HM.out.1.frozen (a + 0)
            have q1 : (a : Int) + 0 < ((a + 4) : Nat) := by omega
            have q0 : (0 : Int) ≤ (a : Int) + 0 := by omega
            have q2 : ((a : Int) + 0).toNat = a + 0 := by omega
            simp only [Nat.add_zero] at hu fu
            go_wp2
            exact ⟨⟨1, by omega, rfl, by first | (simp; done) | (simp; omega), HM.out.set (by omega) hbg (by have := Hcl.out; omega) _ (by simp)⟩, by simp [intOf]⟩
          · obtain ⟨u, hu⟩ := HM.out.cell (by have := Hcl.out; omega) (by omega)
            have fu := HM.out.1.frozen (a + 1)
            have q1 : (a : Int) + 1 < ((a + 4) : Nat) := by omega
            have q0 : (0 : Int) ≤ (a : Int) + 1 := by omega
            have q2 : ((a : Int) + 1).toNat = a + 1 := by omega
            skip
            go_wp2
            exact ⟨⟨2, by omega, rfl, by first | (simp; done) | (simp; omega), HM.out.set (by omega) hbg (by have := Hcl.out; omega) _ (by simp)⟩, by simp [intOf]⟩
          · obtain ⟨u, hu⟩ := HM.out.cell (by have := Hcl.out; omega) (by omega)
            have fu := HM.out.1.frozen (a + 2)
            have q1 : (a : Int) + 2 < ((a + 4) : Nat) := by omega
            have q0 : (0 : Int) ≤ (a : Int) + 2 := by omega
            have q2 : ((a : Int) + 2).toNat = a + 2 := by omega
            skip
            go_wp2
            exact ⟨⟨3, by omega, rfl, by first | (simp; done) | (simp; omega), HM.out.set (by omega) hbg (by have := Hcl.out; omega) _ (by simp)⟩, by simp [intOf]⟩
          · obtain ⟨u, hu⟩ := HM.out.cell (by have := Hcl.out; omega) (by omega)
            have fu := HM.out.1.frozen (a + 3)
            have q1 : (a : Int) + 3 < ((a + 4) : Nat) := by omega
            have q0 : (0 : Int) ≤ (a : Int) + 3 := by omega
            have q2 : ((a : Int) + 3).toNat = a + 3 := by omega
            skip
            go_wp2
            exact ⟨⟨4, by omega, rfl, by first | (simp; done) | (simp; omega), HM.out.set (by omega) hbg (by have := Hcl.out; omega) _ (by simp)⟩, by simp [intOf]⟩
        · obtain rfl : k = 4 := by omega
          go_wp2
          go_ret
          refine ⟨_, rfl, ?_⟩
          have hm := HM.out
          have e4 : (cb (le4 S)).take 4 = cb (le4 S) := List.take_of_length_le (by rw [cb_length, le4_length]; omega)
          unfold Mid at hm
          rw [e4] at hm
          have hcl := Hcl.out
          have hpl := put4_length xs a (by rw [Hxl2.out]; exact ha)
          rw [E.out, Int.toNat_natCast]
          refine ⟨by rw [hpl]; exact Hxl2.out, ⟨by rw [cb_length, hpl, Hxl2.out, Nat.mul_one], .inr ⟨g, cap, _, rfl, hbg, hm.1, hnc, Hcpm.out, ?_, ?_⟩⟩, hm.2⟩
          · simp [splice, cb_length, le4_length] at hcl ⊢
            omega
          · rw [HE2.out, Nat.mul_one]
    · have HTd : Hid (∀ W, Only (w.heap.size ≤ ·) w W → ∀ j u, (cb (xs.drop (a + 4)))[j]? = some u → W.cell? ((ad.add (a + 4)).add j) = some u) := fun W hW => HTd0.out W hW _ (fun h => rfl)
      have HDl : Hid ((cb (xs.drop (a + 4))).length = (n - (a + 4)) * 1) := HDl0.out
      clear HTd0 HDl0
      have a0 : (0 : Int) ≤ (a : Int) := by omega
      have b1 : ¬ ((a : Int) < 0) := by omega
      have b2 : ¬ ((n : Int) - 4 < (a : Int)) := by omega
      have a1 : (a : Int) ≤ (n : Int) := by omega
      have a2 : (a : Int) ≤ (c : Int) := by omega
      have a4 : (a : Int) + 4 ≤ (n : Int) := by omega
      have a5 : (0 : Int) ≤ (a : Int) + 4 := by omega
      have aw : IntKind.i64.wrap ((a : Int) + 4) = (a : Int) + 4 := IntWalk.i64_in _ (by omega)
      have an : ((a : Int) + 4).toNat = a + 4 := by omega
      go_enter Try.func14, Try.ntmps14
      go_wp2_with (first | (at_builtin; refine wpList_append_src _ rfl (.tmp 9) (.tmp 10) 22 rfl w.heap.size 5 i0 _ 1 1 Try.underlying22 HI.out.1 HI.out.2.1 HI.out.2.2.1 HI.out.2.2.2 (by rfl) (by omega) _ 0 [] rfl HE.out (some ad) n c (cb xs) rfl HA.out Hlen.out HC.out (cb_one _) (by simp only [maxLen]; omega) (by omega) HSz.out ?_; intro v' w1 ho' hg'; have HW1 : Hid (Byt w w1 v' n xs) := ⟨Hxl.out, by simpa using ho', ((Only.refl _ w).alloc (fun _ h => h) _).grown hg' (fun _ h => h) (fun g hg => by injection hg with hg; exact Nat.le_of_eq hg)⟩; clear ho' hg') | (at_builtin; refine wpList_append_own _ rfl (.tmp 22) (.tmp 25) 22 rfl w1.heap.size 5 i0 _ 1 1 Try.underlying22 HI.out.1 HI.out.2.1 HI.out.2.2.1 HI.out.2.2.2 (by rfl) (by omega) (.slice (some ⟨w1.heap.size, 0, none⟩) 0 0) 0 [] rfl (emp w1 _ (Nat.le_refl _)) ad a c (cb (xs.take a)) rfl HTl.out (HTa.out _ (HW1.out.2.2.alloc (fun _ h => h) _)) (cb_one _) (by simp only [maxLen]; omega) (by omega) (by simp) ?_; intro v2 w2 ho2 hg2 _; have HR2 : Hid (w2.ownsRow w1.heap.size 5 1 v2 a (cb (xs.take a))) := Lib.hid (by simpa using ho2); have HO2 : Hid (Only (w1.heap.size ≤ ·) w1 w2) := ((Only.refl _ w1).alloc (fun _ h => h) _).grown hg2 (fun _ h => h) (fun g hg => by injection hg with hg; exact Nat.le_of_eq hg); clear ho2 hg2) | (at_builtin; refine wpList_append_own _ rfl (.tmp 27) (.tmp 31) 22 rfl w1.heap.size 5 i0 _ 1 1 Try.underlying22 HI.out.1 HI.out.2.1 HI.out.2.2.1 HI.out.2.2.2 (by rfl) (by omega) v2 a (cb (xs.take a)) rfl HR2.out (ad.add (a + 4)) (n - (a + 4)) (c - (a + 4)) (cb (xs.drop (a + 4))) rfl HDl.out (HTd.out _ (HW1.out.2.2.trans (HO2.out.mono fun k h => Nat.le_trans HW1.out.2.2.size h))) (cb_one _) (by simp only [maxLen]; omega) (by omega) HO2.out.size ?_; intro v3 w3 ho3 hg3 _; have HO3 : Hid (Only (w1.heap.size ≤ ·) w1 w3) := HO2.out.grown hg3 (fun _ h => h) (fun g hg => (HR2.out.lt g hg).1); have HR3 : Hid (w3.ownsRow w1.heap.size 5 1 v3 (a + (n - (a + 4))) (cb (oth xs a))) := Lib.hid (by rw [Hoth.out]; exact ho3); clear ho3 hg3; obtain ⟨A3, c3, rfl, ht3, _⟩ := txt_of_own HR3.out; have HT3 := Lib.hid ht3; clear ht3) | (go_at_call 10; refine (refOf_c _ A3 (a + (n - (a + 4))) c3 (oth xs a) HT3.out (by omega)).mono ?_; rintro e w4 ⟨rfl, ho4⟩; have HO4 : Hid (Only (w1.heap.size ≤ ·) w1 w4) := HO3.out.trans (ho4.mono fun k h => Nat.le_trans HO3.out.size h); clear ho4))
      obtain ⟨hxl, hrow, hon⟩ := HW1.out
      rcases hrow.2 with ⟨_, h0⟩ | ⟨g, cap, cur, rfl, hbg, hg, hnc, hcpm, hcs, htake⟩
      · omega
      have hgl : g < w1.heap.size := (Array.getElem?_eq_some_iff.1 hg).1
      obtain ⟨S, hS⟩ : ∃ S, S = sum (oth xs a) := ⟨_, rfl⟩
      rw [← hS]
      have hSl : S < 4294967296 := by rw [hS]; exact sum_lt _
      have HM : Hid (Mid w w4 g a cur.toList S 0) := by
        have h1 : Blk w1 g 5 cur.toList := by unfold Blk; rw [Array.toArray_toList]; exact hg
        refine ⟨?_, hon.trans (HO4.out.mono fun k h => Nat.le_trans hon.size h)⟩
        rw [List.take_zero, splice_nil]
        exact h1.only HO4.out (by omega)
      have Hcl : Hid (cur.toList.length = cap) := by show _ = _; rw [Array.length_toList, hcs, Nat.mul_one]
      have Hcs : Hid (cur.size = cap * 1) := hcs
      have HE2 : Hid (cb (put4 xs a) = (splice cur.toList a (cb (le4 S))).take n) := by
        show _ = _
        rw [hS]
        exact put4_cells cur.toList xs a n ha (by have := Hcl.out; omega) (by rw [← htake, Nat.mul_one])
      have w0 : IntKind.i64.wrap ((a : Int) + 0) = (a : Int) := IntWalk.i64_in _ (by omega)
      have w1' : IntKind.i64.wrap ((a : Int) + 1) = (a : Int) + 1 := IntWalk.i64_in _ (by omega)
      have w2' : IntKind.i64.wrap ((a : Int) + 2) = (a : Int) + 2 := IntWalk.i64_in _ (by omega)
      have w3' : IntKind.i64.wrap ((a : Int) + 3) = (a : Int) + 3 := IntWalk.i64_in _ (by omega)
      have Hcpm := Lib.hid hcpm
      have Hxl2 := Lib.hid hxl
      have hcap1 : a + 4 ≤ cap := by omega
      clear hS hgl HW1 htake hcs hg hcpm hrow hon HO4 HO3 aw an hxl
      go_loopw [8, 7] (fun i s wr => ∃ k : Nat, k ≤ 4 ∧ i = .int .i64 k ∧ s = .int .u32 (S / 256 ^ k : Nat) ∧ Mid w wr g a cur.toList S k) (fun i _ _ => 4 - (intOf i).toNat)
      case atStart => exact ⟨0, by omega, rfl, by simp, HM.out⟩
      case round =>
        clear HM
        obtain ⟨k, hk, rfl, rfl, hm⟩ := hrel
        have HM := Lib.hid hm
        clear hm
        by_cases hlt : k < 4
        · have hk4 : k = 0 ∨ k = 1 ∨ k = 2 ∨ k = 3 := by omega
          rcases hk4 with rfl | rfl | rfl | rfl
          · obtain ⟨u, hu⟩ := HM.out.cell (by have := Hcl.out; omega) (by omega)
            have fu := HM.out.1.frozen (a + 0)
            have q1 : (a : Int) + 0 < (n : Nat) := by omega
            have q0 : (0 : Int) ≤ (a : Int) + 0 := by omega
            have q2 : ((a : Int) + 0).toNat = a + 0 := by omega
            simp only [Nat.add_zero] at hu fu
            go_wp2
            exact ⟨⟨1, by omega, rfl, by first | (simp; done) | (simp; omega), HM.out.set (by omega) hbg (by have := Hcl.out; omega) _ (by simp)⟩, by simp [intOf]⟩
          · obtain ⟨u, hu⟩ := HM.out.cell (by have := Hcl.out; omega) (by omega)
            have fu := HM.out.1.frozen (a + 1)
            have q1 : (a : Int) + 1 < (n : Nat) := by omega
            have q0 : (0 : Int) ≤ (a : Int) + 1 := by omega
            have q2 : ((a : Int) + 1).toNat = a + 1 := by omega
            skip
            go_wp2
            exact ⟨⟨2, by omega, rfl, by first | (simp; done) | (simp; omega), HM.out.set (by omega) hbg (by have := Hcl.out; omega) _ (by simp)⟩, by simp [intOf]⟩
          · obtain ⟨u, hu⟩ := HM.out.cell (by have := Hcl.out; omega) (by omega)
            have fu := HM.out.1.frozen (a + 2)
            have q1 : (a : Int) + 2 < (n : Nat) := by omega
            have q0 : (0 : Int) ≤ (a : Int) + 2 := by omega
            have q2 : ((a : Int) + 2).toNat = a + 2 := by omega
            skip
            go_wp2
            exact ⟨⟨3, by omega, rfl, by first | (simp; done) | (simp; omega), HM.out.set (by omega) hbg (by have := Hcl.out; omega) _ (by simp)⟩, by simp [intOf]⟩
          · obtain ⟨u, hu⟩ := HM.out.cell (by have := Hcl.out; omega) (by omega)
            have fu := HM.out.1.frozen (a + 3)
            have q1 : (a : Int) + 3 < (n : Nat) := by omega
            have q0 : (0 : Int) ≤ (a : Int) + 3 := by omega
            have q2 : ((a : Int) + 3).toNat = a + 3 := by omega
            skip
            go_wp2
            exact ⟨⟨4, by omega, rfl, by first | (simp; done) | (simp; omega), HM.out.set (by omega) hbg (by have := Hcl.out; omega) _ (by simp)⟩, by simp [intOf]⟩
        · obtain rfl : k = 4 := by omega
          go_wp2
          go_ret
          refine ⟨_, rfl, ?_⟩
          have hm := HM.out
          have e4 : (cb (le4 S)).take 4 = cb (le4 S) := List.take_of_length_le (by rw [cb_length, le4_length]; omega)
          unfold Mid at hm
          rw [e4] at hm
          have hcl := Hcl.out
          have hpl := put4_length xs a (by rw [Hxl2.out]; exact ha)
          rw [E.out, Int.toNat_natCast]
          refine ⟨by rw [hpl]; exact Hxl2.out, ⟨by rw [cb_length, hpl, Hxl2.out, Nat.mul_one], .inr ⟨g, cap, _, rfl, hbg, hm.1, hnc, Hcpm.out, ?_, ?_⟩⟩, hm.2⟩
          · simp [splice, cb_length, le4_length] at hcl ⊢
            omega
          · rw [HE2.out, Nat.mul_one]
  · have E : Hid (sealB xs at_ = xs) := by
      show _ = _
      unfold sealB
      rw [Hxl.out, show room n at_ = false by simpa using hr]
      rfl
    simp only [room, decide_eq_true_eq] at hr
    by_cases b0 : at_ < 0
    · clear hr
      go_enter Try.func14, Try.ntmps14
      go_wp2_with (first | (at_builtin; refine wpList_append_src _ rfl (.tmp 9) (.tmp 10) 22 rfl w.heap.size 5 i0 _ 1 1 Try.underlying22 HI.out.1 HI.out.2.1 HI.out.2.2.1 HI.out.2.2.2 (by rfl) (by omega) _ 0 [] rfl HE.out A n c (cb xs) rfl HA.out Hlen.out HC.out (cb_one _) (by simp only [maxLen]; omega) (by omega) HSz.out ?_; intro v' w1 ho' hg'; have HW1 : Hid (Byt w w1 v' n xs) := ⟨Hxl.out, by simpa using ho', ((Only.refl _ w).alloc (fun _ h => h) _).grown hg' (fun _ h => h) (fun g hg => by injection hg with hg; exact Nat.le_of_eq hg)⟩; clear ho' hg'))
      go_ret
      refine ⟨_, rfl, ?_⟩
      rw [E.out]
      exact HW1.out
    · have b1 : (n : Int) - 4 < at_ := by omega
      clear hr
      go_enter Try.func14, Try.ntmps14
      go_wp2_with (first | (at_builtin; refine wpList_append_src _ rfl (.tmp 9) (.tmp 10) 22 rfl w.heap.size 5 i0 _ 1 1 Try.underlying22 HI.out.1 HI.out.2.1 HI.out.2.2.1 HI.out.2.2.2 (by rfl) (by omega) _ 0 [] rfl HE.out A n c (cb xs) rfl HA.out Hlen.out HC.out (cb_one _) (by simp only [maxLen]; omega) (by omega) HSz.out ?_; intro v' w1 ho' hg'; have HW1 : Hid (Byt w w1 v' n xs) := ⟨Hxl.out, by simpa using ho', ((Only.refl _ w).alloc (fun _ h => h) _).grown hg' (fun _ h => h) (fun g hg => by injection hg with hg; exact Nat.le_of_eq hg)⟩; clear ho' hg'))
      go_ret
      refine ⟨_, rfl, ?_⟩
      rw [E.out]
      exact HW1.out
end Go.Proofs.Ytdgcplmekkancaa
