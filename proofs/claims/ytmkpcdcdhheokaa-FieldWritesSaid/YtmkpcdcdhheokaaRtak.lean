/-
  The document's Take, Skip.
-/
import Derived.Test.YtmkpcdcdhheokaaRput
set_option linter.unusedVariables false
namespace Go.Proofs.Ytmkpcdcdhheokaa
open Go.RowKit

/-- What the document's Take tells. -/
def Taken (M : Nat) (w : World) (c : Cur) (n : Int) (e : Ending) (w' : World) : Prop := ∃ v1 v2, e = .returned (.tuple #[v1, v2]) ∧ St M w' v1 (c.take n) ∧ Src w' v2 (c.got n) ∧ Only (w.heap.size ≤ ·) w w'

theorem Box.moved {w w2 : World} {a b c : Value} (h : Box w w2 a b c) (u x y z : Value) : Only (w.heap.size ≤ ·) w ((((w2.setCell ⟨w.heap.size, 1, none⟩ u).setCell ⟨w.heap.size + 1, 0, none⟩ x).setCell ⟨w.heap.size + 1, 1, none⟩ y).setCell ⟨w.heap.size + 1, 2, none⟩ z) :=
  (((h.2.2.1.setCell (Nat.le_refl _) _).setCell (Nat.le_succ _) _).setCell (Nat.le_succ _) _).setCell (Nat.le_succ _) _
theorem own1 {w : World} {B k : Nat} {v : Value} {b : Bytes} (h : w.ownsRow B 5 1 v (0 + k) ([] ++ cb b)) :
    ∃ A c, v = .slice A k c ∧ ∀ w' F, Only F w w' → (∀ k, F k → k < B) → Src w' (.slice A k c) b := by
  rw [Nat.zero_add, List.nil_append] at h
  obtain ⟨A, c, hv, h1, h2, h3, h4, h5⟩ := txt_of_own h
  obtain rfl : b.length = k := h1.1
  subst hv
  refine ⟨A, c, rfl, fun w' F ho hF => ⟨A, c, rfl, h1.only ho (fun ad _ e hf => ?_), fun e => (h2 e).2, h3, by simp only [maxLen] at h4; omega⟩⟩
  have := hF _ hf
  have := (h5 ad e).1
  omega

set_option maxRecDepth 100000 in
set_option maxHeartbeats 1600000 in
theorem rTake_c (M : Nat) (w : World) (v : Value) (c : Cur) (h : St M w v c) (n : Int) :
    Calls Try.prog 30 #[v, .int .i64 n] w (Taken M w c n) := by
  have HS := Lib.hid h
  obtain ⟨_, A, cap, rfl, hs, hfar⟩ := id h
  have HFar : Hid (∀ ad, A = some ad → 0 < (c.take n).b.length → M ≤ ad.block) := by rw [Cur.take_b]; exact hfar
  have HSrc := Lib.hid hs
  obtain ⟨A', cap', hv, ht, hA, hNc, hcm⟩ := hs
  injection hv with hv1 hv2 hv3
  subst hv1 hv3
  clear hv2
  by_cases hn : c.has n = true
  · have HR : Hid (∀ W : World, Only (w.heap.size ≤ ·) w W → Calls Try.prog 29 #[.agg #[.slice A c.b.length cap, .int .i64 c.at_, .bool c.sp], .int .i64 n] W fun e w' => e = .returned (.bool true) ∧ Only (W.heap.size ≤ ·) W w') :=
      fun W hW => (room_c W _ c (HS.out.later hW) _).mono fun e w' ⟨h, h'⟩ => ⟨by rw [h, hn], h'⟩
    have HT : Hid (c.take n = { c with at_ := c.at_ + n.toNat }) := by show _ = _; rw [Cur.take, if_pos hn]
    have HG : Hid (c.got n = (c.b.drop c.at_).take n.toNat) := by show _ = _; rw [Cur.got, if_pos hn]
    have HTW : Hid ((c.take n).WF) := h.1.take n
    have hlen := h.1.len
    obtain ⟨hsp, k, rfl, hk⟩ := Cur.has_parts hn
    rw [Int.toNat_natCast] at HG HT
    have HGl : Hid ((cb (c.got k)).length = k * 1) := by show _ = _; rw [cb_length, Cur.got_length hn, Int.toNat_natCast, Nat.mul_one]
    obtain ⟨i0, hi0, hz0, hz1, hz2⟩ := info_parts info8
    have HI := Lib.hid (And.intro hi0 (And.intro hz0 (And.intro hz1 hz2)))
    have H3 : Hid (Txt w (if cap = c.at_ then A else A.map (·.add c.at_)) k (c.got k)) := by
      show Txt _ _ _ _
      have hlg : (c.got k).length = k := by rw [Cur.got_length hn, Int.toNat_natCast]
      rcases Nat.eq_zero_or_pos k with h0 | h0
      · subst h0
        rw [List.eq_nil_of_length_eq_zero hlg]
        exact Txt.nil_ _ _
      · rw [if_neg (by omega)]
        obtain ⟨ad, rfl, _⟩ := ht.2 (by omega)
        rw [HG.out]
        exact (ht.drop c.at_).take k (by omega)
    obtain ⟨a, hae⟩ : ∃ a, a = c.at_ := ⟨_, rfl⟩
    obtain ⟨N, hne⟩ : ∃ N, N = c.b.length := ⟨_, rfl⟩
    have HA := Lib.hid hae
    have HN := Lib.hid hne
    have HNo : Hid ((if cap = a then A else A.map (·.add a)) = none → k = 0 ∧ cap - a = 0) := by
      intro e
      have : A = none := by split at e <;> simpa using e
      have := hA this
      omega
    rw [← hae, ← hne] at HR
    rw [← hae] at H3
    rw [← hne] at hk hNc hlen
    rw [← hae] at hk
    have HWd : Hid (w.heap.size = w.heap.size) := rfl
    clear h ht hA hn hsp hi0 hz0 hz1 hz2
    have k0 : (0 : Int) ≤ (a : Int) := by omega
    have k1 : (a : Int) ≤ (a : Int) + k := by omega
    have k2 : (a : Int) + k ≤ (cap : Int) := by omega
    have k3 : (a : Int) + k ≤ 1099511627776 := by omega
    have k4 : (0 : Int) ≤ (k : Int) := by omega
    have kt : ((a : Int) + k).toNat = a + k := by omega
    have ks : a + k - a = k := by omega
    rw [← hae, ← hne]
    clear hae hne
    go_enter Try.func30, Try.ntmps30
    go_wp2_with (first | (go_at_call 29; refine (HR.out _ (Box.new w _ _ _).2.2.1).mono ?_; rintro e w1 ⟨rfl, ho⟩; have HB := Lib.hid ((Box.new w _ _ _).later ho); clear ho; obtain ⟨q0, q1, q2, q3⟩ := HB.out.1.three; obtain ⟨r0, r1, r2, r3⟩ := HB.out.2.1.three; have z1 := HB.out.size1; have z2 := HB.out.size2; have HM := Lib.hid (made0 w1); have HN1 := Lib.hid (H3.out.later (HB.out.2.2.1.alloc (fun _ h => h) (.cells #[] 5))).src) | (at_builtin; refine wpList_append_src _ rfl (.tmp 13) (.tmp 22) 27 rfl w1.heap.size 5 i0 _ 1 1 Try.underlying27 HI.out.1 HI.out.2.1 HI.out.2.2.1 HI.out.2.2.2 (by rfl) (by omega) (.slice (some ⟨w1.heap.size, 0, none⟩) 0 0) 0 [] rfl HM.out _ _ _ (cb (c.got k)) rfl HNo.out HGl.out HN1.out (cb_one _) (by simp only [maxLen]; omega) (by omega) (by simp) ?_; intro va wa hoa hga; have HOA := Lib.hid (grown0 hga); obtain ⟨q0a, q1a, q2a, q3a⟩ := (HB.out.later HOA.out).1.three; obtain ⟨r0a, r1a, r2a, r3a⟩ := (HB.out.later HOA.out).2.1.three; obtain ⟨Aa, ca, rfl, hsrc⟩ := own1 hoa; have HVA := Lib.hid hsrc; clear hoa hga hsrc))
    all_goals
      refine bodyPost_ret (v := .tuple #[.agg #[.slice A N cap, .int .i64 ((a : Int) + k), .bool c.sp], .slice Aa k ca]) (by simp [results, Try.results30, go_sem, r0a, r1a, r2a, *]) rfl ⟨_, _, rfl, ?_, ?_, (HB.out.later HOA.out).moved _ _ _ _⟩
      · refine St.later (w := w) ⟨HTW.out, A, cap, ?_, ?_, HFar.out⟩ ((HB.out.later HOA.out).moved _ _ _ _)
        · rw [HT.out, HA.out, HN.out]
          simp
        · rw [HT.out]
          exact HSrc.out
      · refine HVA.out _ (fun k => k = w.heap.size ∨ k = w.heap.size + 1) ((((Only.setCell (Only.refl _ wa) (.inl rfl) _).setCell (.inr rfl) _).setCell (.inr rfl) _).setCell (.inr rfl) _) ?_
        rintro k (rfl | rfl) <;> omega
  · have hn' : c.has n = false := by simpa using hn
    have HR : Hid (∀ W : World, Only (w.heap.size ≤ ·) w W → Calls Try.prog 29 #[.agg #[.slice A c.b.length cap, .int .i64 c.at_, .bool c.sp], .int .i64 n] W fun e w' => e = .returned (.bool false) ∧ Only (W.heap.size ≤ ·) W w') :=
      fun W hW => (room_c W _ c (HS.out.later hW) _).mono fun e w' ⟨h, h'⟩ => ⟨by rw [h, hn'], h'⟩
    have HT : Hid (c.take n = c.spoil) := by show _ = _; rw [Cur.take, hn']; rfl
    have HG : Hid (c.got n = []) := Cur.got_no hn'
    clear h hn hn' ht hA
    go_enter Try.func30, Try.ntmps30
    go_wp2_with (first | (go_at_call 29; refine (HR.out _ (Box.new w _ _ _).2.2.1).mono ?_; rintro e w1 ⟨rfl, ho⟩; have HB := Lib.hid ((Box.new w _ _ _).later ho); clear ho; obtain ⟨q0, q1, q2, q3⟩ := HB.out.1.three; obtain ⟨r0, r1, r2, r3⟩ := HB.out.2.1.three; have z1 := HB.out.size1; have z2 := HB.out.size2))
    refine bodyPost_ret (v := .tuple #[.agg #[.slice A c.b.length cap, .int .i64 c.at_, .bool true], .slice none 0 0]) (by simp [results, Try.results30, go_sem, r0, r1, r2]) rfl ⟨_, _, rfl, ?_, ?_, HB.out.spoiled _ _ _ _⟩
    · rw [HT.out]
      exact HS.out.spoiled (HB.out.spoiled _ _ _ _)
    · rw [HG.out]; exact Src.nil_ _

set_option maxRecDepth 100000 in
set_option maxHeartbeats 1600000 in
theorem rSkip_c (M : Nat) (w : World) (v : Value) (c : Cur) (h : St M w v c) (n : Int) :
    Calls Try.prog 16 #[v, .int .i64 n] w fun e w' => ∃ v', e = .returned v' ∧ St M w' v' (c.take n) ∧ Only (w.heap.size ≤ ·) w w' := by
  have HS := Lib.hid h
  obtain ⟨A, cap, rfl, hs⟩ := h.parts
  clear h hs
  have HC : Hid (∀ W : World, Only (w.heap.size ≤ ·) w W → Calls Try.prog 30 #[.agg #[.slice A c.b.length cap, .int .i64 c.at_, .bool c.sp], .int .i64 n] W (Taken M W c n)) := fun W hW => rTake_c M W _ c (HS.out.later hW) n
  go_enter Try.func16, Try.ntmps16
  go_wp2_with (first | (go_at_call 30; refine (HC.out _ (Box.new w _ _ _).2.2.1).mono ?_; rintro e w1 ⟨v1, v2, rfl, hst, hv2, ho⟩; have HB := Lib.hid ((Box.new w _ _ _).later ho); clear ho; obtain ⟨q0, q1, q2, q3⟩ := HB.out.1.three; obtain ⟨r0, r1, r2, r3⟩ := HB.out.2.1.three; have z1 := HB.out.size1; have z2 := HB.out.size2; have HST := Lib.hid hst; obtain ⟨A2, cap2, rfl, hs2⟩ := hst.parts; clear hst hs2 hv2))
  refine bodyPost_ret (v := .agg #[.slice A2 (c.take n).b.length cap2, .int .i64 (c.take n).at_, .bool (c.take n).sp]) (by simp [results, Try.results16, go_sem, r0, r1, r2, z2]) rfl ⟨_, rfl, ?_, ?_⟩
  · exact (HST.out.apart HB.out.2.1 (three_no _ _ _ _ _) HB.out.stored.1).later ((Only.refl _ _).alloc (fun _ h => h) _)
  · exact HB.out.stored.2.alloc (fun _ h => h) _

end Go.Proofs.Ytmkpcdcdhheokaa
