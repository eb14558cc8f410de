/-
  CrcSeals: the walk.
-/
import Derived.Test.YtdgcplmekkancaaRsel
set_option linter.unusedVariables false
namespace Go.Proofs.Ytdgcplmekkancaa
open Go.RowKit

theorem oth_put4 (xs : Bytes) (a : Nat) (h : a + 4 ≤ xs.length) : oth (put4 xs a) a = oth xs a := by
  unfold oth put4
  congr 1
  · rw [List.take_left' (by simp; omega)]
  · rw [← List.append_assoc, List.drop_left' (by simp [le4_length]; omega)]
theorem four_put4 (xs : Bytes) (a : Nat) (h : a + 4 ≤ xs.length) : ((put4 xs a).drop a).take 4 = le4 (sum (oth xs a)) := by
  unfold put4
  rw [List.drop_left' (by simp; omega), List.take_left' (le4_length _)]
theorem room_of {n a : Nat} (h : a + 4 ≤ n) : room n (a : Int) = true := by simp only [room, decide_eq_true_eq]; omega
theorem sealed_put4 (xs : Bytes) (a : Nat) (h : a + 4 ≤ xs.length) : isSealed (put4 xs a) (a : Int) = true := by
  unfold isSealed
  rw [put4_length xs a h, room_of h, Int.toNat_natCast, oth_put4 xs a h, four_put4 xs a h]
  simp
theorem same_put4 (xs : Bytes) (a : Nat) (h : a + 4 ≤ xs.length) : isSealed xs (a : Int) = decide (xs = put4 xs a) := by
  unfold isSealed
  rw [room_of h, Int.toNat_natCast, Bool.true_and]
  rw [decide_eq_decide]
  constructor
  · intro e
    unfold put4
    rw [e]
    have h1 : xs.drop (a + 4) = (xs.drop a).drop 4 := by rw [List.drop_drop]
    rw [h1, List.take_append_drop, List.take_append_drop]
  · intro e
    have := four_put4 xs a h
    rw [← e] at this
    exact this.symm

set_option maxRecDepth 100000 in
set_option maxHeartbeats 1600000 in
theorem seals_walk (w : World) (A : Option Addr) (n c : Nat) (xs : Bytes) (ht : Txt w A n xs) (hA : A = none → n = 0 ∧ c = 0) (hc : n ≤ c) (hcm : c ≤ 9223372036854775807) (at_ : Int) (h1 : -9223372036854775808 ≤ at_) (h2 : at_ ≤ 9223372036854775807) :
    Calls Try.prog 5 #[.slice A n c, .int .i64 at_] w fun e w' => e = .returned (.bool true) ∧ Only (w.heap.size ≤ ·) w w' := by
  have HT := Lib.hid ht
  have HA := Lib.hid hA
  clear hA
  by_cases h6 : 600 < n
  · have i6 : (600 : Int) < (n : Int) := by omega
    clear ht
    go_enter Try.func5, Try.ntmps5
    go_wp2_with (first | (go_at_call 8; refine (alive_c _).mono ?_; rintro e w1 ⟨rfl, ho1⟩))
    go_ret
    exact ⟨rfl, ho1⟩
  · have i6 : ¬ ((600 : Int) < (n : Int)) := by omega
    have hn : n ≤ 65536 := by omega
    have hn2 : n ≤ 1099511627776 := by omega
    have hn4 : IntKind.i64.wrap ((n : Int) - 4) = (n : Int) - 4 := IntWalk.i64_in _ (by omega)
    have hxl := ht.1
    have HL := Lib.hid hxl
    obtain ⟨i0, hi0, hz0, hz1, hz2⟩ := info_parts info5
    have HI := Lib.hid (And.intro hi0 (And.intro hz0 (And.intro hz1 hz2)))
    clear hi0 hz0 hz1 hz2
    have Hlen : Hid ((cb xs).length = n * 1) := by show _ = _; rw [cb_length, ht.1, Nat.mul_one]
    have HE : Hid ((w.alloc (.cells #[] 5)).ownsRow w.heap.size 5 1 (.slice (some ⟨w.heap.size, 0, none⟩) 0 0) 0 []) := emp w _ (Nat.le_refl _)
    have HC : Hid (∀ ad, A = some ad → ∀ j u, (cb xs)[j]? = some u → (w.alloc (.cells #[] 5)).cell? (ad.add j) = some u) := by
      intro ad e j u hu
      have hj : j < (cb xs).length := (List.getElem?_eq_some_iff.1 hu).1
      rw [cb_length, ht.1] at hj
      obtain ⟨ad', e', hc⟩ := (ht.later ((Only.refl _ w).alloc (fun _ h => h) (.cells #[] 5))).2 (by omega)
      rw [e] at e'
      cases e'
      exact hc j u hu
    have HSz : Hid (w.heap.size ≤ (w.alloc (.cells #[] 5)).heap.size) := by show _ ≤ _; simp
    have hroom : (room n at_ = true ∧ 0 ≤ at_ ∧ at_ ≤ (n : Int) - 4) ∨ (room n at_ = false ∧ (at_ < 0 ∨ (0 ≤ at_ ∧ (n : Int) - 4 < at_))) := by
      simp only [room, decide_eq_true_eq, decide_eq_false_iff_not]
      omega
    clear ht hxl
    rcases hroom with ⟨hr, b1, b2⟩ | ⟨hr, b⟩
    · obtain ⟨a, rfl⟩ : ∃ a : Nat, at_ = (a : Int) := ⟨at_.toNat, by omega⟩
      have ha : a + 4 ≤ n := by omega
      have HSB : Hid (sealB xs a = put4 xs a) := by show _ = _; unfold sealB; rw [HL.out, if_pos hr, Int.toNat_natCast]
      have HS1 : Hid (isSealed (put4 xs a) (a : Int) = true) := sealed_put4 xs a (by rw [HL.out]; exact ha)
      have HS2 : Hid (isSealed xs (a : Int) = decide (xs = put4 xs a)) := same_put4 xs a (by rw [HL.out]; exact ha)
      clear hr
      go_enter Try.func5, Try.ntmps5
      go_wp2_with (first | (at_builtin; refine wpList_append_src _ rfl (.tmp 12) (.tmp 13) 22 rfl w.heap.size 5 i0 _ 1 1 Try.underlying22 HI.out.1 HI.out.2.1 HI.out.2.2.1 HI.out.2.2.2 (by rfl) (by omega) _ 0 [] rfl HE.out A n c (cb xs) rfl HA.out Hlen.out HC.out (cb_one _) (by simp only [maxLen]; omega) (by omega) HSz.out ?_; intro v' w1 ho' hg'; have HW1 : Hid (Byt w w1 v' n xs) := ⟨HL.out, by simpa using ho', ((Only.refl _ w).alloc (fun _ h => h) _).grown hg' (fun _ h => h) (fun g hg => by injection hg with hg; exact Nat.le_of_eq hg)⟩; clear ho' hg'; obtain ⟨Aw, cw, rfl, htw, _⟩ := txt_of_own HW1.out.2.1; have HTw := Lib.hid htw; clear htw) | (go_at_call 12; refine (Seal_c _ A n c xs (HT.out.later HW1.out.2.2) HA.out hn2 hc hcm a h1 h2).mono ?_; rintro e w2 ⟨v2, rfl, hb2⟩; have HW2 := Lib.hid hb2; clear hb2; obtain ⟨As, cs, rfl, hts, hsa, hsc, hsm, _⟩ := txt_of_own HW2.out.2.1; rw [HSB.out] at hts; have HTs := Lib.hid hts; have Hsa := Lib.hid hsa; have Hsm : Hid (cs ≤ 9223372036854775807) := hsm; clear hts hsa hsm; have HTb2 : Hid (Txt w2 A n xs) := (HT.out.later HW1.out.2.2).later HW2.out.2.2; have HTw2 : Hid (Txt w2 Aw n xs) := HTw.out.later HW2.out.2.2; have HO2 : Only (w2.heap.size ≤ ·) w2 w2 := Only.refl _ w2; have HOO : Hid (Only (w.heap.size ≤ ·) w w2) := HW1.out.2.2.trans (HW2.out.2.2.mono fun k h => Nat.le_trans HW1.out.2.2.size h)) | (go_at_call 8; refine (alive_c _).mono ?_; rintro e w3 ⟨rfl, ho3⟩; have HO3 : Only (w2.heap.size ≤ ·) w2 w3 := ho3; clear ho3) | (go_at_call 14; refine (refSeal_c _ A n c xs (HTb2.out.later HO3) HA.out hn hc hcm a h1 h2).mono ?_; rintro e w4 ⟨v4, rfl, hb4⟩; obtain ⟨Ar, cr, rfl, htr, _⟩ := txt_of_own hb4.2.1; rw [HSB.out] at htr; have HTr := Lib.hid htr; have HO4 : Only (w2.heap.size ≤ ·) w2 w4 := HO3.trans (hb4.2.2.mono fun k h => Nat.le_trans HO3.size h); clear htr hb4) | (go_at_call 13; with_reducible refine (Equal_c _ As Ar n cs n cr (put4 xs a) (put4 xs a) (HTs.out.later HO4) HTr.out).mono ?_; rintro e wk ⟨rfl, rfl⟩) | (go_at_call 15; with_reducible refine (Sealed_c _ As n cs (put4 xs a) (HTs.out.later HO4) Hsa.out hn2 hsc Hsm.out (a : Int) h1 h2).mono ?_; rintro e w5 ⟨rfl, ho5⟩; have HO5 : Only (w2.heap.size ≤ ·) w2 w5 := HO4.trans (ho5.mono fun k h => Nat.le_trans HO4.size h); clear ho5; rw [HS1.out]) | (go_at_call 13; with_reducible refine (Equal_c _ A Aw n c n cw xs xs (HTb2.out.later HO5) (HTw2.out.later HO5)).mono ?_; rintro e wk ⟨rfl, rfl⟩) | (go_at_call 15; with_reducible refine (Sealed_c _ A n c xs (HTb2.out.later HO5) HA.out hn2 hc hcm (a : Int) h1 h2).mono ?_; rintro e w6 ⟨rfl, ho6⟩; have HO6 : Only (w2.heap.size ≤ ·) w2 w6 := HO5.trans (ho6.mono fun k h => Nat.le_trans HO5.size h); clear ho6; rw [HS2.out]) | (go_at_call 13; with_reducible refine (Equal_c _ A As n c n cs xs (put4 xs a) (HTb2.out.later HO6) (HTs.out.later HO6)).mono ?_; rintro e wk ⟨rfl, rfl⟩))
      go_ret
      exact ⟨rfl, HOO.out.trans (HO6.mono fun k h => Nat.le_trans HOO.out.size h)⟩
    · have HSB : Hid (sealB xs at_ = xs) := by show _ = _; unfold sealB; rw [HL.out, hr]; rfl
      have HS1 : Hid (isSealed xs at_ = false) := by show _ = _; unfold isSealed; rw [HL.out, hr]; rfl
      have HS2 := HS1
      clear hr
      rcases b with b | ⟨b, b2⟩
      · go_enter Try.func5, Try.ntmps5
        go_wp2_with (first | (at_builtin; refine wpList_append_src _ rfl (.tmp 12) (.tmp 13) 22 rfl w.heap.size 5 i0 _ 1 1 Try.underlying22 HI.out.1 HI.out.2.1 HI.out.2.2.1 HI.out.2.2.2 (by rfl) (by omega) _ 0 [] rfl HE.out A n c (cb xs) rfl HA.out Hlen.out HC.out (cb_one _) (by simp only [maxLen]; omega) (by omega) HSz.out ?_; intro v' w1 ho' hg'; have HW1 : Hid (Byt w w1 v' n xs) := ⟨HL.out, by simpa using ho', ((Only.refl _ w).alloc (fun _ h => h) _).grown hg' (fun _ h => h) (fun g hg => by injection hg with hg; exact Nat.le_of_eq hg)⟩; clear ho' hg'; obtain ⟨Aw, cw, rfl, htw, _⟩ := txt_of_own HW1.out.2.1; have HTw := Lib.hid htw; clear htw) | (go_at_call 12; refine (Seal_c _ A n c xs (HT.out.later HW1.out.2.2) HA.out hn2 hc hcm at_ h1 h2).mono ?_; rintro e w2 ⟨v2, rfl, hb2⟩; have HW2 := Lib.hid hb2; clear hb2; obtain ⟨As, cs, rfl, hts, hsa, hsc, hsm, _⟩ := txt_of_own HW2.out.2.1; rw [HSB.out] at hts; have HTs := Lib.hid hts; have Hsa := Lib.hid hsa; have Hsm : Hid (cs ≤ 9223372036854775807) := hsm; clear hts hsa hsm; have HTb2 : Hid (Txt w2 A n xs) := (HT.out.later HW1.out.2.2).later HW2.out.2.2; have HTw2 : Hid (Txt w2 Aw n xs) := HTw.out.later HW2.out.2.2; have HO2 : Only (w2.heap.size ≤ ·) w2 w2 := Only.refl _ w2; have HOO : Hid (Only (w.heap.size ≤ ·) w w2) := HW1.out.2.2.trans (HW2.out.2.2.mono fun k h => Nat.le_trans HW1.out.2.2.size h)) | (go_at_call 8; refine (alive_c _).mono ?_; rintro e w3 ⟨rfl, ho3⟩; have HO3 : Only (w2.heap.size ≤ ·) w2 w3 := ho3; clear ho3) | (go_at_call 14; refine (refSeal_c _ A n c xs (HTb2.out.later HO3) HA.out hn hc hcm at_ h1 h2).mono ?_; rintro e w4 ⟨v4, rfl, hb4⟩; obtain ⟨Ar, cr, rfl, htr, _⟩ := txt_of_own hb4.2.1; rw [HSB.out] at htr; have HTr := Lib.hid htr; have HO4 : Only (w2.heap.size ≤ ·) w2 w4 := HO3.trans (hb4.2.2.mono fun k h => Nat.le_trans HO3.size h); clear htr hb4) | (go_at_call 13; with_reducible refine (Equal_c _ As Ar n cs n cr xs xs (HTs.out.later HO4) HTr.out).mono ?_; rintro e wk ⟨rfl, rfl⟩) | (go_at_call 15; with_reducible refine (Sealed_c _ As n cs xs (HTs.out.later HO4) Hsa.out hn2 hsc Hsm.out at_ h1 h2).mono ?_; rintro e w5 ⟨rfl, ho5⟩; have HO5 : Only (w2.heap.size ≤ ·) w2 w5 := HO4.trans (ho5.mono fun k h => Nat.le_trans HO4.size h); clear ho5; rw [HS1.out]) | (go_at_call 13; with_reducible refine (Equal_c _ A Aw n c n cw xs xs (HTb2.out.later HO5) (HTw2.out.later HO5)).mono ?_; rintro e wk ⟨rfl, rfl⟩) | (go_at_call 15; with_reducible refine (Sealed_c _ A n c xs (HTb2.out.later HO5) HA.out hn2 hc hcm at_ h1 h2).mono ?_; rintro e w6 ⟨rfl, ho6⟩; have HO6 : Only (w2.heap.size ≤ ·) w2 w6 := HO5.trans (ho6.mono fun k h => Nat.le_trans HO5.size h); clear ho6; rw [HS2.out]) | (go_at_call 13; with_reducible refine (Equal_c _ A As n c n cs xs xs (HTb2.out.later HO6) (HTs.out.later HO6)).mono ?_; rintro e wk ⟨rfl, rfl⟩))
        go_ret
        exact ⟨rfl, HOO.out.trans (HO6.mono fun k h => Nat.le_trans HOO.out.size h)⟩
      · go_enter Try.func5, Try.ntmps5
        go_wp2_with (first | (at_builtin; refine wpList_append_src _ rfl (.tmp 12) (.tmp 13) 22 rfl w.heap.size 5 i0 _ 1 1 Try.underlying22 HI.out.1 HI.out.2.1 HI.out.2.2.1 HI.out.2.2.2 (by rfl) (by omega) _ 0 [] rfl HE.out A n c (cb xs) rfl HA.out Hlen.out HC.out (cb_one _) (by simp only [maxLen]; omega) (by omega) HSz.out ?_; intro v' w1 ho' hg'; have HW1 : Hid (Byt w w1 v' n xs) := ⟨HL.out, by simpa using ho', ((Only.refl _ w).alloc (fun _ h => h) _).grown hg' (fun _ h => h) (fun g hg => by injection hg with hg; exact Nat.le_of_eq hg)⟩; clear ho' hg'; obtain ⟨Aw, cw, rfl, htw, _⟩ := txt_of_own HW1.out.2.1; have HTw := Lib.hid htw; clear htw) | (go_at_call 12; refine (Seal_c _ A n c xs (HT.out.later HW1.out.2.2) HA.out hn2 hc hcm at_ h1 h2).mono ?_; rintro e w2 ⟨v2, rfl, hb2⟩; have HW2 := Lib.hid hb2; clear hb2; obtain ⟨As, cs, rfl, hts, hsa, hsc, hsm, _⟩ := txt_of_own HW2.out.2.1; rw [HSB.out] at hts; have HTs := Lib.hid hts; have Hsa := Lib.hid hsa; have Hsm : Hid (cs ≤ 9223372036854775807) := hsm; clear hts hsa hsm; have HTb2 : Hid (Txt w2 A n xs) := (HT.out.later HW1.out.2.2).later HW2.out.2.2; have HTw2 : Hid (Txt w2 Aw n xs) := HTw.out.later HW2.out.2.2; have HO2 : Only (w2.heap.size ≤ ·) w2 w2 := Only.refl _ w2; have HOO : Hid (Only (w.heap.size ≤ ·) w w2) := HW1.out.2.2.trans (HW2.out.2.2.mono fun k h => Nat.le_trans HW1.out.2.2.size h)) | (go_at_call 8; refine (alive_c _).mono ?_; rintro e w3 ⟨rfl, ho3⟩; have HO3 : Only (w2.heap.size ≤ ·) w2 w3 := ho3; clear ho3) | (go_at_call 14; refine (refSeal_c _ A n c xs (HTb2.out.later HO3) HA.out hn hc hcm at_ h1 h2).mono ?_; rintro e w4 ⟨v4, rfl, hb4⟩; obtain ⟨Ar, cr, rfl, htr, _⟩ := txt_of_own hb4.2.1; rw [HSB.out] at htr; have HTr := Lib.hid htr; have HO4 : Only (w2.heap.size ≤ ·) w2 w4 := HO3.trans (hb4.2.2.mono fun k h => Nat.le_trans HO3.size h); clear htr hb4) | (go_at_call 13; with_reducible refine (Equal_c _ As Ar n cs n cr xs xs (HTs.out.later HO4) HTr.out).mono ?_; rintro e wk ⟨rfl, rfl⟩) | (go_at_call 15; with_reducible refine (Sealed_c _ As n cs xs (HTs.out.later HO4) Hsa.out hn2 hsc Hsm.out at_ h1 h2).mono ?_; rintro e w5 ⟨rfl, ho5⟩; have HO5 : Only (w2.heap.size ≤ ·) w2 w5 := HO4.trans (ho5.mono fun k h => Nat.le_trans HO4.size h); clear ho5; rw [HS1.out]) | (go_at_call 13; with_reducible refine (Equal_c _ A Aw n c n cw xs xs (HTb2.out.later HO5) (HTw2.out.later HO5)).mono ?_; rintro e wk ⟨rfl, rfl⟩) | (go_at_call 15; with_reducible refine (Sealed_c _ A n c xs (HTb2.out.later HO5) HA.out hn2 hc hcm at_ h1 h2).mono ?_; rintro e w6 ⟨rfl, ho6⟩; have HO6 : Only (w2.heap.size ≤ ·) w2 w6 := HO5.trans (ho6.mono fun k h => Nat.le_trans HO5.size h); clear ho6; rw [HS2.out]) | (go_at_call 13; with_reducible refine (Equal_c _ A As n c n cs xs xs (HTb2.out.later HO6) (HTs.out.later HO6)).mono ?_; rintro e wk ⟨rfl, rfl⟩))
        go_ret
        exact ⟨rfl, HOO.out.trans (HO6.mono fun k h => Nat.le_trans HOO.out.size h)⟩
end Go.Proofs.Ytdgcplmekkancaa
