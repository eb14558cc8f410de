/-
  A writer's Bytes.
-/
import Derived.Test.YtmkpcdcdhheokaaWrtr
set_option linter.unusedVariables false
namespace Go.Proofs.Ytmkpcdcdhheokaa
open Go.RowKit

set_option maxRecDepth 100000 in
set_option maxHeartbeats 1600000 in
theorem WBytes_c (w : World) (p g : Nat) (c : Cur) (h : Holds w p g 41 c) (v : Value) (xs : Bytes) (hx : Src w v xs) (hf : ∀ ad n c', v = .slice (some ad) n c' → 0 < n → ¬ Foot p g ad.block) :
    Calls Try.prog 13 #[.pointer (some ⟨p, 0, none⟩), v] w fun e w' => e = .returned (.tuple #[]) ∧ Holds w' p g 41 (c.write xs) ∧ Only (Foot p g) w w' := by
  have HL := Lib.hid h
  obtain ⟨A, cx, rfl, ht, hA, hcx, hmx⟩ := hx
  obtain ⟨n, hne⟩ : ∃ n, n = xs.length := ⟨_, rfl⟩
  rw [← hne] at hf ht hcx ⊢
  by_cases hn : c.has n = true
  · obtain ⟨hsp, n', hnn, hk⟩ := Cur.has_parts hn
    obtain rfl : n = n' := by omega
    have HG : Hid ((c.got n).length = n) := by show _ = _; rw [Cur.got_length hn, Int.toNat_natCast]
    have HT : Hid (c.take n = { c with at_ := c.at_ + n }) := by show _ = _; rw [Cur.take, if_pos hn, Int.toNat_natCast]
    have HW : Hid (c.write xs = { c with b := over c.b c.at_ xs, at_ := c.at_ + n }) := by show _ = _; rw [hne] at hn ⊢; exact write_eq hn
    have HX : Hid (xs.length = n) := hne.symm
    rcases Nat.eq_zero_or_pos n with h0 | h0
    · subst h0
      have HZ : Hid (xs = []) := List.eq_nil_of_length_eq_zero hne.symm
      have HG0 : Hid ((c.got 0).length = 0) := HG
      have HT0 : Hid (c.take 0 = { c with at_ := c.at_ + 0 }) := HT
      clear hn hsp hnn hk hf ht hne HG HT
      go_enter Try.func13, Try.ntmps13
      go_wp2_with (first | (go_at_call 28; refine (take_c _ p g _ c HL.out _).mono ?_; rintro e w' ⟨v, rfl, ⟨A', c', hv, hkc, hcm, hAn, hAs⟩, hh, ho⟩; rw [HG0.out] at hv; subst hv; have HH := Lib.hid hh; have HO := Lib.hid ho; clear hh ho hkc hcm hAn hAs) | (with_reducible refine wpList_copy_nothing rfl (.tmp 9) (.tmp 10) 27 27 rfl 5 Try.underlying27 size8 A' A 0 c' 0 cx (by simp [Act.eval, Act.put]) (by simp [Act.eval, Act.put]) rfl ?_))
      go_end0
      refine ⟨rfl, ?_, HO.out.mono fun k h => .inl h⟩
      rw [HW.out, HZ.out, over_nil]
      have := HH.out
      rw [HT0.out] at this
      exact this
    · obtain ⟨ad, rfl, hc⟩ := ht.2 h0
      have hbpos : 0 < c.b.length := by omega
      have HT2 := Lib.hid ht
      have HF : Hid (¬ Foot p g ad.block) := hf ad n cx rfl h0
      have Hk := Lib.hid hk
      have Hlen : Hid ((cb xs).length = Nat.min n n) := by show _ = _; rw [cb_length, ← hne]; exact (Nat.min_self n).symm
      have H0 := Lib.hid h0
      have HP : Hid (0 < c.b.length) := hbpos
      clear hn hsp hnn hk hf ht hne hc hbpos
      go_enter Try.func13, Try.ntmps13
      have HZ : Hid (∀ rest : List Value, c.at_ + (cb xs).length ≤ (cb c.b ++ rest).toArray.size) := by
        intro rest
        have h1 := Hk.out
        have h2 := HX.out
        rw [cb_length]
        simp [cb_length]
        omega
      go_wp2_with (first | (go_at_call 28; refine (take_c _ p g _ c HL.out _).mono ?_; rintro e w' ⟨v, rfl, ⟨A', c', hv, hkc, hcm, hAn, hAs⟩, hh, ho⟩; rw [HG.out] at hv hAs; have hA'' := hAs H0.out; subst hA''; subst hv; obtain ⟨hgp, rest, hblk⟩ := after_take hh HP.out; have HB := Lib.hid hblk; unfold Blk at hblk; have HB2 := Lib.hid hblk; have Hgp := Lib.hid hgp; have Hsrc := Lib.hid (after_src HT2.out ho HF.out); have HH := Lib.hid hh; have HO := Lib.hid ho; clear hh ho hkc hcm hAn hAs hblk hgp) | (with_reducible refine wpList_copy_own rfl (.tmp 9) (.tmp 10) 27 27 rfl 5 Try.underlying27 size8 g c.at_ n c' ad n cx (by simp [Act.eval, Act.put]) (by simp [Act.eval, Act.put]) (cb c.b ++ rest).toArray 5 HB2.out (cb xs) Hlen.out Hsrc.out (HZ.out rest) (cb_one _) ?_))
      go_end0
      refine ⟨rfl, ?_, (HO.out.mono fun k h => .inl h).setRow (.inr rfl) _⟩
      have hh := HH.out
      rw [HT.out] at hh
      rw [HW.out]
      have hk := Hk.out
      have hx := HX.out
      refine hh.laid (c := { c with at_ := c.at_ + n }) (ys := over c.b c.at_ xs) (over_length _ _ _ (by omega)) (setRow_other _ _ _ _ (fun e => Hgp.out e.symm)) fun rest' hb _ => ?_
      obtain rfl := rest_eq hb HB.out
      show Blk (w'.setRow g (over (cb c.b ++ rest') c.at_ (cb xs)).toArray) g 5 (cb (over c.b c.at_ xs) ++ rest')
      rw [over_rest _ _ _ _ (by rw [cb_length, cb_length]; omega), ← cb_over]
      exact setRow_heap w' g _ _ 5 _ HB.out
  · have hn' : c.has n = false := by simpa using hn
    have HG : Hid ((c.got n).length = 0) := by show _ = _; rw [Cur.got_no hn']; rfl
    have HT : Hid (c.take n = c.spoil) := by show _ = _; rw [Cur.take, hn']; rfl
    have HW : Hid (c.write xs = c.spoil) := by show _ = _; rw [hne] at hn'; exact write_no hn'
    clear hn hn' hf ht hne
    go_enter Try.func13, Try.ntmps13
    go_wp2_with (first | (go_at_call 28; refine (take_c _ p g _ c HL.out _).mono ?_; rintro e w' ⟨v, rfl, ⟨A', c', hv, hkc, hcm, hAn, hAs⟩, hh, ho⟩; rw [HG.out] at hv; subst hv; have HH := Lib.hid hh; have HO := Lib.hid ho; clear hh ho hkc hcm hAn hAs) | (with_reducible refine wpList_copy_nothing rfl (.tmp 9) (.tmp 10) 27 27 rfl 5 Try.underlying27 size8 A' A 0 c' n cx (by simp [Act.eval, Act.put]) (by simp [Act.eval, Act.put]) (Nat.min_zero _) ?_))
    go_end0
    refine ⟨rfl, ?_, HO.out.mono fun k h => .inl h⟩
    rw [HW.out, ← HT.out]
    exact HH.out

end Go.Proofs.Ytmkpcdcdhheokaa
