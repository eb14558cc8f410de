/-
  FieldWide: the walk.
-/
import Derived.Test.YtmkpcdcdhheokaaDoorTrim
set_option linter.unusedVariables false
namespace Go.Proofs.YtmkpcdcdhheokaaDoor
open Go.RowKit

theorem make_put (a k : Nat) (h : fits (a : Int) (k : Int) = true) (hk : k ≤ 8) : (Cur.make (k : Int)).put a k = ⟨le a k, k, false⟩ := by
  have hm : Cur.make (k : Int) = ⟨List.replicate k 0, 0, false⟩ := by
    rw [Cur.make, size, if_pos (by omega), Int.toNat_natCast]
    rfl
  have hh : (⟨List.replicate k 0, 0, false⟩ : Cur).has (le a k).length = true := Cur.has_of rfl (by rw [le_length]; simp)
  rw [hm, Cur.put, if_pos h, Int.toNat_natCast, Int.toNat_natCast, Cur.write, if_pos hh]
  simp [over, le_length]
theorem le_take (a : Nat) : ∀ (k d : Nat), (le a (k + d)).take k = le a k := by
  intro k d
  simp only [le, ← List.map_take]
  rw [List.take_range, Nat.min_eq_left (by omega)]
theorem le_zero (a k d : Nat) (h : a < 256 ^ k) : (le a (k + d)).drop k = List.replicate d 0 := by
  apply List.ext_getElem?
  intro i
  rw [List.getElem?_drop, List.getElem?_replicate]
  unfold le
  rw [List.getElem?_map]
  by_cases hi : i < d
  · rw [List.getElem?_range (by omega), if_pos hi]
    have h1 : a < 256 ^ (k + i) := Nat.lt_of_lt_of_le h (Nat.pow_le_pow_right (by decide) (by omega))
    simp [Nat.div_eq_of_lt h1]
  · rw [List.getElem?_eq_none (by simp; omega), if_neg hi]
    rfl
theorem fits_wider {a k d : Nat} (h : fits (a : Int) (k : Int) = true) (h8 : k + d ≤ 8) : fits (a : Int) ((k + d : Nat) : Int) = true := by
  obtain ⟨a', k', e1, e2, h1, h2, h3⟩ := fits_parts h
  obtain rfl : a = a' := by omega
  obtain rfl : k = k' := by omega
  have h4 : a < 256 ^ (k + d) := Nat.lt_of_lt_of_le h3 (Nat.pow_le_pow_right (by decide) (by omega))
  simp only [fits, wide, Bool.and_eq_true, decide_eq_true_eq]
  refine ⟨⟨by omega, by omega⟩, by omega, ?_⟩
  rw [Int.toNat_natCast]
  have : ((a / 256 ^ (k + d) : Nat) : Int) = 0 := by rw [Nat.div_eq_of_lt h4]; rfl
  rwa [Int.natCast_ediv, Int.natCast_pow] at this
theorem get_all {a m : Nat} (h : fits (a : Int) (m : Int) = true) (ha : (a : Int) ≤ 9223372036854775807) : (Cur.new (le a m)).val m = a := by
  obtain ⟨a', k', e1, e2, h1, h2, h3⟩ := fits_parts h
  obtain rfl : a = a' := by omega
  obtain rfl : m = k' := by omega
  have hh : (Cur.new (le a m)).has m = true := Cur.has_of rfl (by show 0 + m ≤ (le a m).length; rw [le_length]; omega)
  have hg : (Cur.new (le a m)).got m = le a m := by
    rw [Cur.got, if_pos hh, Int.toNat_natCast]
    show ((le a m).drop 0).take m = _
    rw [List.drop_zero, List.take_of_length_le (by rw [le_length]; omega)]
  have hw : wide (m : Int) = true := by
    simp only [wide, Bool.and_eq_true, decide_eq_true_eq]
    omega
  have hm : (Cur.new (le a m)).may m = true := by
    rw [Cur.may, hw, hh, hg, num_le m a h3]
    simp
    omega
  rw [Cur.val, if_pos hm, hg, num_le m a h3]

section
variable {w : World} {p g a k : Nat}
theorem put_all (h : Holds w p g 44 (Cur.make (k : Int))) (hf : fits (a : Int) (k : Int) = true) (h8 : k ≤ 8) (ha : (a : Int) ≤ 9223372036854775807) : Calls Tryd.prog 7 #[.pointer (some ⟨p, 0, none⟩), .int .i64 a, .int .i64 k] w fun e w' => e = .returned (.tuple #[]) ∧ Holds w' p g 44 ⟨le a k, k, false⟩ ∧ Only (Foot p g) w w' := by
  have := Put_c w p g _ h a k (by omega) ha
  rwa [make_put a k hf h8] at this
theorem done_all (h : Holds w p g 44 ⟨le a k, k, false⟩) : Calls Tryd.prog 8 #[.pointer (some ⟨p, 0, none⟩)] w fun e w' => ∃ A c, e = .returned (.tuple #[.slice A k c, .int .i64 0]) ∧ Src w' (.slice A k c) (le a k) ∧ Only (w.heap.size ≤ ·) w w' := by
  refine (Done_c w p g _ h).mono fun e w' ⟨v, h1, h2, h3⟩ => ?_
  have h2' : Src w' v (le a k) := h2
  obtain ⟨A, c, rfl, h5⟩ := id h2'
  rw [le_length] at h1 h2'
  exact ⟨A, c, h1, h2', h3⟩
end

theorem src_some {w : World} {A : Option Addr} {n c : Nat} {xs : Bytes} (h : Src w (.slice A n c) xs) (hn : 1 ≤ n) : ∃ ad, A = some ad ∧ n ≤ c ∧ c ≤ 9223372036854775807 := by
  obtain ⟨A', c', hv, ht, _, h1, h2⟩ := h
  injection hv with e1 e2 e3
  subst e1 e2 e3
  obtain ⟨ad, e, _⟩ := ht.2 (by omega)
  exact ⟨ad, e, h1, h2⟩
theorem src_zero {w : World} {ad : Addr} {n c k d j : Nat} {xs : Bytes} (h : Src w (.slice (some ad) n c) xs) (hz : xs.drop k = List.replicate d 0) (hj : j < d) : w.cell? (ad.add (k + j)) = some (.int .u8 0) := by
  obtain ⟨A', c', hv, ht, _⟩ := h
  injection hv with e1 e2 e3
  subst e1 e2 e3
  have hx : xs[k + j]? = some 0 := by
    rw [← List.getElem?_drop, hz, List.getElem?_replicate, if_pos hj]
  have := ht.src ad rfl (k + j) (.int .u8 0) (by simp [cb, hx])
  exact this
theorem zs_add {w : World} {ad : Addr} {k n : Nat} (h : ∀ j, j < n → w.cell? (ad.add (k + j)) = some (.int .u8 0)) : Zs w (ad.add k) n := fun j hj => by
  rw [add_add]
  exact h j hj
theorem trim_small {m k : Nat} (h : m ≤ 8) : m - k ≤ 4611686018427387904 := by omega
theorem trim_none (w : World) (ad : Addr) : Calls Tryd.prog 12 #[.slice (some ad) 0 0, .string { data := #[0] }] w fun e w' => e = .returned (.slice none 0 0) ∧ ∃ m, w' = w.drewN m := Trim_c w ad 0 0 (fun j hj => absurd hj (by omega)) (Nat.le_refl _) (by omega)
theorem prefix_all {w : World} {A B : Option Addr} {c c' a k m : Nat} (h1 : Src w (.slice A m c) (le a m)) (h2 : Src w (.slice B k c') (le a k)) (hk : k ≤ m) (ht : (le a m).take k = le a k) :
    Calls Tryd.prog 9 #[.slice A m c, .slice B k c'] w fun e w' => e = .returned (.bool true) ∧ w = w' := by
  have := HasPrefix_c w A B c c' (le a m) (le a k) (by rwa [le_length]) (by rwa [le_length]) (by rw [le_length, le_length]; exact hk) (by rw [le_length]; exact ht)
  rwa [le_length, le_length] at this

/-- What is known when both writers stand. -/
structure Both (w0 W : World) (p g q s : Nat) (c d : Cur) : Prop where
  lo : w0.heap.size ≤ p ∧ w0.heap.size ≤ g ∧ w0.heap.size ≤ q ∧ w0.heap.size ≤ s
  ap : p < q ∧ p < s ∧ g < q ∧ g < s
  fst : Holds W p g 44 c
  snd : Holds W q s 44 d
  only : Only (w0.heap.size ≤ ·) w0 W
section
variable {w0 w1 w2 : World} {p g q s : Nat} {c d e : Cur}
theorem Both.new (hp : w0.heap.size ≤ p) (hg : w0.heap.size ≤ g) (h1 : Holds w1 p g 44 c) (o1 : Only (w0.heap.size ≤ ·) w0 w1) (hl : g < w1.heap.size) (hq : w1.heap.size ≤ q) (hs : w1.heap.size ≤ s) (h2 : Holds w2 q s 44 d) (o2 : Only (w1.heap.size ≤ ·) w1 w2) : Both w0 w2 p g q s c d := by
  have := h1.lt
  have := o1.size
  exact ⟨by omega, by omega, h1.later o2, h2, on_new o1 o2⟩
theorem Both.one (h : Both w0 w1 p g q s c d) (ho : Only (Foot p g) w1 w2) (hh : Holds w2 p g 44 e) : Both w0 w2 p g q s e d := by
  obtain ⟨⟨l1, l2, l3, l4⟩, ⟨a1, a2, a3, a4⟩, h3, h4, h5⟩ := h
  refine ⟨⟨l1, l2, l3, l4⟩, ⟨a1, a2, a3, a4⟩, hh, h4.only ho ?_, h5.trans (foot_ge l1 l2 ho)⟩
  rintro k (rfl | rfl) _ (e | e) <;> omega
theorem Both.two (h : Both w0 w1 p g q s c d) (ho : Only (Foot q s) w1 w2) (hh : Holds w2 q s 44 e) : Both w0 w2 p g q s c e := by
  obtain ⟨⟨l1, l2, l3, l4⟩, ⟨a1, a2, a3, a4⟩, h3, h4, h5⟩ := h
  refine ⟨⟨l1, l2, l3, l4⟩, ⟨a1, a2, a3, a4⟩, h3.only ho ?_, hh, h5.trans (foot_ge l3 l4 ho)⟩
  rintro k (rfl | rfl) _ (e | e) <;> omega
theorem Both.later (h : Both w0 w1 p g q s c d) (ho : Only (w1.heap.size ≤ ·) w1 w2) : Both w0 w2 p g q s c d := ⟨h.lo, h.ap, h.fst.later ho, h.snd.later ho, on_new h.only ho⟩
end

set_option maxRecDepth 100000 in
set_option maxHeartbeats 3200000 in
theorem wide_yes (w : World) (a k d : Nat) (hf : fits (a : Int) (k : Int) = true) (h8 : k + d ≤ 8) (ha : (a : Int) ≤ 9223372036854775807) :
    Calls Tryd.prog 3 #[.int .i64 a, .int .i64 k, .int .i64 ((k + d : Nat) : Int)] w fun e w' => e = .returned (.bool true) ∧ Only (w.heap.size ≤ ·) w w' := by
  obtain ⟨a', k', e1, e2, hk1, hk8, hlt⟩ := fits_parts hf
  obtain rfl : a = a' := by omega
  obtain rfl : k = k' := by omega
  have HFm := Lib.hid (fits_wider hf h8)
  have HFk := Lib.hid hf
  have HZe := Lib.hid (le_zero a k d hlt)
  have HTk := Lib.hid (le_take a k d)
  obtain ⟨m, hm⟩ : ∃ m, m = k + d := ⟨_, rfl⟩
  rw [← hm] at HFm HZe HTk h8 ⊢
  have HMk : Hid (k ≤ m) := by show _ ≤ _; omega
  have HM := Lib.hid hm
  have HR : Hid (∀ W : World, Calls Tryd.prog 4 #[.int .i64 a, .int .i64 k] W fun e w' => e = .returned (.bool true) ∧ W = w') := fun W => (rFits_c W a k (by omega) ha).mono fun e w' ⟨h, h'⟩ => ⟨by rw [h, HFk.out], h'⟩
  have HG := Lib.hid (get_all HFm.out ha)
  have Hk8 : Hid (k ≤ 8) := hk8
  have Hm8 : Hid (m ≤ 8) := h8
  have Hm1 : Hid (1 ≤ m) := by show _ ≤ _; omega
  have HAa : Hid ((a : Int) ≤ 9223372036854775807) := ha
  have i1 : ¬ ((m : Int) < (k : Int)) := by omega
  have i2 : ¬ ((8 : Int) < (m : Int)) := by omega
  have i3 : (0 : Int) ≤ (k : Int) := by omega
  have i4 : (k : Int) ≤ (m : Int) := by omega
  clear hf hlt e1 e2 hm hk1 hk8 h8 ha
  go_enter Tryd.func3, Tryd.ntmps3
  go_wp2_with (first | (go_at_call 4; refine (HR.out _).mono ?_; rintro e w' ⟨rfl, rfl⟩) | (go_at_call 6; (with_reducible refine (NewWriter_c _ (k : Int)).mono ?_); rintro e w1 ⟨p, g, rfl, hp, hg, hh, ho, hlt⟩; have HP := Lib.hid hp; have HGg := Lib.hid hg; have H1 := Lib.hid hh; have O1 := Lib.hid ho; have HL1 := Lib.hid hlt; clear hp hg hh ho hlt) | (go_at_call 6; (with_reducible refine (NewWriter_c _ (m : Int)).mono ?_); rintro e w2 ⟨q, s, rfl, hp, hg, hh, ho, hlt⟩; have HB := Lib.hid (Both.new HP.out HGg.out H1.out O1.out HL1.out hp hg hh ho); clear hp hg hh ho hlt) | (go_at_call 7; (with_reducible refine (put_all (p := p) HB.out.fst HFk.out Hk8.out HAa.out).mono ?_); rintro e w3 ⟨rfl, hh, ho⟩; have HB3 := Lib.hid (HB.out.one ho hh); clear hh ho) | (go_at_call 7; (with_reducible refine (put_all (p := q) HB3.out.snd HFm.out Hm8.out HAa.out).mono ?_); rintro e w4 ⟨rfl, hh, ho⟩; have HB4 := Lib.hid (HB3.out.two ho hh); clear hh ho) | (go_at_call 8; (with_reducible refine (done_all (p := p) HB4.out.fst).mono ?_); rintro e w5 ⟨A1, c1, rfl, hs, ho⟩; have HB5 := Lib.hid (HB4.out.later ho); have HS1 := Lib.hid hs; clear hs ho) | (go_at_call 8; (with_reducible refine (done_all (p := q) HB5.out.snd).mono ?_); rintro e w6 ⟨A2, c2, rfl, hs, ho⟩; have HB6 := Lib.hid (HB5.out.later ho); have HS1' := Lib.hid (HS1.out.later ho); have HS2 := Lib.hid hs; clear hs ho))
  obtain ⟨ad, hA, hmc, hcm⟩ := src_some HS2.out Hm1.out
  subst hA
  have HZs : Hid (∀ W, Only (w6.heap.size ≤ ·) w6 W → ∀ j, j < m - k → W.cell? (ad.add (k + j)) = some (.int .u8 0)) := by
    intro W hW j hj
    have h1 := HS2.out.later hW
    exact src_zero h1 HZe.out (by have := HM.out; omega)
  have HO6 := Lib.hid HB6.out.only
  have hmc' : (m : Int) ≤ (c2 : Int) := by omega
  have i5 : (k : Int) ≤ (c2 : Int) := by omega
  have hmc2 := Lib.hid hmc
  have HLe : Hid ((le a m).length ≤ 1099511627776) := by rw [le_length]; have := Hm8.out; show _ ≤ _; omega
  by_cases hc : c2 = k
  · have HMK : Hid (m - k = 0) := by show _ = _; omega
    subst hc
    obtain rfl : m = c2 := by have := HMk.out; omega
    clear HB HB3 HB4 HB5 H1 O1 HL1 HP HGg HS1 HFm HFk HR hmc
    go_wp2_with (first | (go_at_call 9; refine (prefix_all HS2.out HS1'.out HMk.out HTk.out).mono ?_; rintro e w' ⟨rfl, rfl⟩) | (go_at_call 10; refine (NewReader_c _ _ _ HS2.out HLe.out).mono ?_; rintro e w7 ⟨u, t, rfl, hp, hg, hh, ho, hlt⟩; have HU := Lib.hid hp; have H7 := Lib.hid hh; have O7 := Lib.hid ho; clear hp hg hh ho hlt) | (go_at_call 5; refine (alive_c _).mono ?_; rintro e w8 ⟨rfl, ho⟩; have H8 := Lib.hid (H7.out.later ho); have O8 := Lib.hid (on_new O7.out ho); clear ho) | (go_at_call 11; refine (Get_c _ u t _ H8.out _).mono ?_; rintro e w9 ⟨rfl, hh, ho⟩; rw [HG.out]; have O9 := Lib.hid (O8.out.trans (self_ge HU.out ho)); clear hh ho) | (go_at_call 12; refine (trim_none _ ad).mono ?_; rintro e w10 ⟨rfl, hd⟩; have O10 := Lib.hid (on_new HO6.out (O9.out.trans (drawn_of hd).any)); clear hd))
    go_ret
    exact ⟨rfl, O10.out⟩
  · clear HB HB3 HB4 HB5 H1 O1 HL1 HP HGg HS1 HFm HFk HR hmc
    go_wp2_with (first | (go_at_call 9; refine (prefix_all HS2.out HS1'.out HMk.out HTk.out).mono ?_; rintro e w' ⟨rfl, rfl⟩) | (go_at_call 10; refine (NewReader_c _ _ _ HS2.out HLe.out).mono ?_; rintro e w7 ⟨u, t, rfl, hp, hg, hh, ho, hlt⟩; have HU := Lib.hid hp; have H7 := Lib.hid hh; have O7 := Lib.hid ho; clear hp hg hh ho hlt) | (go_at_call 5; refine (alive_c _).mono ?_; rintro e w8 ⟨rfl, ho⟩; have H8 := Lib.hid (H7.out.later ho); have O8 := Lib.hid (on_new O7.out ho); clear ho) | (go_at_call 11; refine (Get_c _ u t _ H8.out _).mono ?_; rintro e w9 ⟨rfl, hh, ho⟩; rw [HG.out]; have O9 := Lib.hid (O8.out.trans (self_ge HU.out ho)); clear hh ho) | (go_at_call 12; refine (Trim_c _ (ad.add k) (m - k) (c2 - k) (zs_add (HZs.out _ O9.out)) (Nat.sub_le_sub_right hmc2.out k) (trim_small Hm8.out)).mono ?_; rintro e w10 ⟨rfl, hd⟩; have O10 := Lib.hid (on_new HO6.out (O9.out.trans (drawn_of hd).any)); clear hd))
    go_ret
    exact ⟨rfl, O10.out⟩

set_option maxRecDepth 100000 in
theorem wide_walk (w : World) (n k m : Int) (h1 : -9223372036854775808 ≤ n) (h2 : n ≤ 9223372036854775807) :
    Calls Tryd.prog 3 #[.int .i64 n, .int .i64 k, .int .i64 m] w fun e w' => e = .returned (.bool true) ∧ Only (w.heap.size ≤ ·) w w' := by
  by_cases hf : fits n k = true
  · by_cases hm : k ≤ m ∧ m ≤ 8
    · obtain ⟨a, k', rfl, rfl, _, _, _⟩ := fits_parts hf
      have := wide_yes w a k' (m.toNat - k') hf (by omega) h2
      rwa [show ((k' + (m.toNat - k') : Nat) : Int) = m by omega] at this
    · have HR : Hid (∀ W : World, Calls Tryd.prog 4 #[.int .i64 n, .int .i64 k] W fun e w' => e = .returned (.bool true) ∧ W = w') := fun W => (rFits_c W n k h1 h2).mono fun e w' ⟨h, h'⟩ => ⟨by rw [h, hf], h'⟩
      by_cases hk : k ≤ m
      · have h8 : ¬ m ≤ 8 := fun h => hm ⟨hk, h⟩
        have z1 : decide (m < k) = false := decide_eq_false (by omega)
        clear hm hf
        go_enter Tryd.func3, Tryd.ntmps3
        go_wp2_with (first | (go_at_call 4; refine (HR.out _).mono ?_; rintro e w' ⟨rfl, rfl⟩) | (go_at_call 5; refine (alive_c _).mono ?_; rintro e w8 ⟨rfl, ho⟩))
        go_ret
        exact ⟨rfl, ho⟩
      · have z1 : decide (m < k) = true := decide_eq_true (by omega)
        clear hm hf
        go_enter Tryd.func3, Tryd.ntmps3
        go_wp2_with (first | (go_at_call 4; refine (HR.out _).mono ?_; rintro e w' ⟨rfl, rfl⟩) | (go_at_call 5; refine (alive_c _).mono ?_; rintro e w8 ⟨rfl, ho⟩))
        go_ret
        exact ⟨rfl, ho⟩
  · have HR : Hid (∀ W : World, Calls Tryd.prog 4 #[.int .i64 n, .int .i64 k] W fun e w' => e = .returned (.bool false) ∧ W = w') := fun W => (rFits_c W n k h1 h2).mono fun e w' ⟨h, h'⟩ => ⟨by rw [h]; simpa using hf, h'⟩
    clear hf
    go_enter Tryd.func3, Tryd.ntmps3
    go_wp2_with (first | (go_at_call 4; refine (HR.out _).mono ?_; rintro e w' ⟨rfl, rfl⟩) | (go_at_call 5; refine (alive_c _).mono ?_; rintro e w8 ⟨rfl, ho⟩))
    go_ret
    exact ⟨rfl, ho⟩
end Go.Proofs.YtmkpcdcdhheokaaDoor
