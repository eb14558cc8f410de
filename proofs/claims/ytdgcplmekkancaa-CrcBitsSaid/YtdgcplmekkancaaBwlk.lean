/-
  CrcBits: the walk.
-/
import Derived.Test.YtdgcplmekkancaaTurn
import Derived.BigRegion
set_option linter.unusedVariables false
namespace Go.Proofs.Ytdgcplmekkancaa
open Go.RowKit

theorem set_xor (s : Bytes) (i : Nat) (x m : UInt8) (hx : s[i]? = some x) : s.set i (x ^^^ m) = xorRow s fun j => if j = i then m else 0 := by
  have hi := (List.getElem?_eq_some_iff.1 hx).1
  apply List.ext_getElem?
  intro j
  unfold xorRow
  rw [List.getElem?_set, List.getElem?_zipWith, row_get]
  by_cases e : i = j
  · subst e
    rw [if_pos rfl, if_pos hi, if_pos hi, hx, if_pos rfl]
  · rw [if_neg e]
    by_cases hj : j < s.length
    · rw [if_pos hj, if_neg (fun h => e h.symm), List.getElem?_eq_getElem hj]
      simp
    · rw [if_neg hj, List.getElem?_eq_none (by omega)]
theorem set_xor2 (s : Bytes) (i : Nat) (x y m m' : UInt8) (hx : s[i]? = some x) (hy : s[i + 1]? = some y) : (s.set i (x ^^^ m)).set (i + 1) (y ^^^ m') = xorRow s fun j => if j = i then m else if j = i + 1 then m' else 0 := by
  have hi := (List.getElem?_eq_some_iff.1 hx).1
  have hi1 := (List.getElem?_eq_some_iff.1 hy).1
  apply List.ext_getElem?
  intro j
  unfold xorRow
  rw [List.getElem?_set, List.getElem?_set, List.getElem?_zipWith, row_get, List.length_set]
  by_cases e1 : i + 1 = j
  · subst e1
    rw [if_pos rfl, if_pos hi1, if_pos hi1, hy, if_neg (by omega), if_pos rfl]
  · rw [if_neg e1]
    by_cases e : i = j
    · subst e
      rw [if_pos rfl, if_pos hi, if_pos hi, hx, if_pos rfl]
    · rw [if_neg e]
      by_cases hj : j < s.length
      · rw [if_pos hj, if_neg (fun h => e h.symm), if_neg (fun h => e1 h.symm), List.getElem?_eq_getElem hj]
        simp
      · rw [if_neg hj, List.getElem?_eq_none (by omega)]
def msk (r : Nat) : UInt8 := UInt8.ofNat (2 ^ r)
theorem msk_ne : ∀ r, r < 8 → msk r ≠ 0 := by decide
theorem msk_two : ∀ r, r < 7 → msk r ^^^ msk (r + 1) ≠ 0 := by decide
theorem bits_one (s : Bytes) (a k : Nat) (x : UInt8) (ha : a + 4 ≤ s.length) (hs : isSealed s (a : Int) = true) (hx : s[k / 8]? = some x) : isSealed (s.set (k / 8) (x ^^^ msk (k % 8))) (a : Int) = false := by
  have hi := (List.getElem?_eq_some_iff.1 hx).1
  rw [set_xor s _ x _ hx]
  exact byte_turned s a (k / 8) _ ha hs hi (by rw [if_pos rfl]; exact msk_ne _ (by omega)) (fun j _ hj => if_neg hj)
theorem bits_two (s : Bytes) (a k : Nat) (x y : UInt8) (ha : a + 4 ≤ s.length) (hn : s.length ≤ 600) (hs : isSealed s (a : Int) = true) (hx : s[k / 8]? = some x) (hy : (s.set (k / 8) (x ^^^ msk (k % 8)))[(k + 1) / 8]? = some y) :
    isSealed ((s.set (k / 8) (x ^^^ msk (k % 8))).set ((k + 1) / 8) (y ^^^ msk ((k + 1) % 8))) (a : Int) = false := by
  have hi := (List.getElem?_eq_some_iff.1 hx).1
  by_cases h7 : k % 8 = 7
  · have e1 : (k + 1) / 8 = k / 8 + 1 := by omega
    have e2 : (k + 1) % 8 = 0 := by omega
    rw [e1] at hy ⊢
    have hi1 := (List.getElem?_eq_some_iff.1 hy).1
    rw [List.length_set] at hi1
    rw [List.getElem?_set, if_neg (by omega)] at hy
    rw [set_xor2 s _ x y _ _ hx hy, h7, e2]
    exact pair_turned s a (k / 8) _ ha hn hs hi1 (if_pos rfl) (by rw [if_neg (by omega), if_pos rfl]; rfl) (fun j _ h1 h2 => by rw [if_neg h1, if_neg h2])
  · have e1 : (k + 1) / 8 = k / 8 := by omega
    have e2 : (k + 1) % 8 = k % 8 + 1 := by omega
    rw [e1] at hy ⊢
    rw [List.getElem?_set, if_pos rfl, if_pos hi, Option.some.injEq] at hy
    rw [← hy, List.set_set, e2, UInt8.xor_assoc, set_xor s _ x _ hx]
    exact byte_turned s a (k / 8) _ ha hs hi (by rw [if_pos rfl]; exact msk_two _ (by omega)) (fun j _ hj => if_neg hj)

theorem txt_cells {w : World} {A : Option Addr} {n : Nat} {xs : Bytes} (h : Txt w A n xs) : ∀ ad, A = some ad → ∀ j u, (cb xs)[j]? = some u → w.cell? (ad.add j) = some u := by
  intro ad e j u hu
  have hj : j < (cb xs).length := (List.getElem?_eq_some_iff.1 hu).1
  rw [cb_length, h.1] at hj
  obtain ⟨ad', e', hc⟩ := h.2 (by omega)
  rw [e] at e'
  cases e'
  exact hc j u hu
theorem msk_val : ∀ r : Nat, r < 8 → (2 ^ r : Int) % 256 = (((msk r).toNat : Nat) : Int) := by
  intro r h
  have : r = 0 ∨ r = 1 ∨ r = 2 ∨ r = 3 ∨ r = 4 ∨ r = 5 ∨ r = 6 ∨ r = 7 := by omega
  rcases this with rfl | rfl | rfl | rfl | rfl | rfl | rfl | rfl <;> decide
theorem xor_val (x : UInt8) (r : Nat) (h : r < 8) : bits .xor .u8 ((x.toNat : Nat) : Int) ((2 : Int) ^ r % 256) = (((x ^^^ msk r).toNat : Nat) : Int) := by
  rw [msk_val r h, u8_xor_nat _ _ (u8_lt x) (u8_lt _), UInt8.toNat_xor]
/-- Turned bytes, in the row of one's own. -/
theorem own_turn {w : World} {B g n cap i : Nat} {xs : Bytes} {v : UInt8} (h : w.ownsRow B 5 1 (.slice (some ⟨g, 0, none⟩) n cap) n (cb xs)) : ((w.setCell ⟨g, i, none⟩ (.int .u8 (v.toNat : Nat))).drew).ownsRow B 5 1 (.slice (some ⟨g, 0, none⟩) n cap) n (cb (xs.set i v)) := by
  have := (h.stored i (.int .u8 (v.toNat : Nat))).1
  rw [show (cb xs).set i (.int .u8 (v.toNat : Nat)) = cb (xs.set i v) by simp [cb]] at this
  exact this
theorem early (n : Nat) (at_ bit : Int) : 600 < n ∨ (n ≤ 600 ∧ at_ < 0) ∨ (n ≤ 600 ∧ 0 ≤ at_ ∧ (n : Int) - 4 < at_) ∨ (n ≤ 600 ∧ 0 ≤ at_ ∧ at_ ≤ (n : Int) - 4 ∧ bit < 0) ∨ (n ≤ 600 ∧ 0 ≤ at_ ∧ at_ ≤ (n : Int) - 4 ∧ 0 ≤ bit ∧ 8 * (n : Int) ≤ bit) ∨ (n ≤ 600 ∧ 0 ≤ at_ ∧ at_ ≤ (n : Int) - 4 ∧ 0 ≤ bit ∧ bit < 8 * (n : Int)) := by omega

set_option maxRecDepth 100000 in
set_option maxHeartbeats 1600000 in
theorem bits_walk (w : World) (A : Option Addr) (n c : Nat) (xs : Bytes) (ht : Txt w A n xs) (hA : A = none → n = 0 ∧ c = 0) (hc : n ≤ c) (hcm : c ≤ 9223372036854775807) (at_ bit : Int) (h1 : -9223372036854775808 ≤ at_) (h2 : at_ ≤ 9223372036854775807) (h3 : -9223372036854775808 ≤ bit) (h4 : bit ≤ 9223372036854775807) :
    Calls Try.prog 6 #[.slice A n c, .int .i64 at_, .int .i64 bit] w fun e w' => e = .returned (.bool true) ∧ Only (w.heap.size ≤ ·) w w' := by
  have HT := Lib.hid ht
  have HA := Lib.hid hA
  have HL := Lib.hid ht.1
  clear hA ht
  rcases early n at_ bit with b | ⟨b1, b⟩ | ⟨b1, b2, b⟩ | ⟨b1, b2, b3, b⟩ | ⟨b1, b2, b3, b4, b⟩ | ⟨b1, b2, b3, b4, b5⟩
  · have i6 : (600 : Int) < (n : Int) := by omega
    go_enter Try.func6, Try.ntmps6
    go_wp2_with (first | (go_at_call 8; refine (alive_c _).mono ?_; rintro e w1 ⟨rfl, ho1⟩))
    go_ret
    exact ⟨rfl, ho1⟩
  · have i6 : ¬ ((600 : Int) < (n : Int)) := by omega
    go_enter Try.func6, Try.ntmps6
    go_wp2_with (first | (go_at_call 8; refine (alive_c _).mono ?_; rintro e w1 ⟨rfl, ho1⟩))
    go_ret
    exact ⟨rfl, ho1⟩
  · have i6 : ¬ ((600 : Int) < (n : Int)) := by omega
    have hn4 : IntKind.i64.wrap ((n : Int) - 4) = (n : Int) - 4 := IntWalk.i64_in _ (by omega)
    go_enter Try.func6, Try.ntmps6
    go_wp2_with (first | (go_at_call 8; refine (alive_c _).mono ?_; rintro e w1 ⟨rfl, ho1⟩))
    go_ret
    exact ⟨rfl, ho1⟩
  · have i6 : ¬ ((600 : Int) < (n : Int)) := by omega
    have hn4 : IntKind.i64.wrap ((n : Int) - 4) = (n : Int) - 4 := IntWalk.i64_in _ (by omega)
    go_enter Try.func6, Try.ntmps6
    go_wp2_with (first | (go_at_call 8; refine (alive_c _).mono ?_; rintro e w1 ⟨rfl, ho1⟩))
    go_ret
    exact ⟨rfl, ho1⟩
  · have i6 : ¬ ((600 : Int) < (n : Int)) := by omega
    have hn4 : IntKind.i64.wrap ((n : Int) - 4) = (n : Int) - 4 := IntWalk.i64_in _ (by omega)
    have hn8 : IntKind.i64.wrap (8 * (n : Int)) = 8 * (n : Int) := IntWalk.i64_in _ (by omega)
    go_enter Try.func6, Try.ntmps6
    go_wp2_with (first | (go_at_call 8; refine (alive_c _).mono ?_; rintro e w1 ⟨rfl, ho1⟩))
    go_ret
    exact ⟨rfl, ho1⟩
  · obtain ⟨a, rfl⟩ : ∃ a : Nat, at_ = (a : Int) := ⟨at_.toNat, by omega⟩
    obtain ⟨k, rfl⟩ : ∃ k : Nat, bit = (k : Int) := ⟨bit.toNat, by omega⟩
    have ha : a + 4 ≤ n := by omega
    have hk : k < 8 * n := by omega
    have i6 : ¬ ((600 : Int) < (n : Int)) := by omega
    have hn4 : IntKind.i64.wrap ((n : Int) - 4) = (n : Int) - 4 := IntWalk.i64_in _ (by omega)
    have hn8 : IntKind.i64.wrap (8 * (n : Int)) = 8 * (n : Int) := IntWalk.i64_in _ (by omega)
    have hn2 : n ≤ 1099511627776 := by omega
    have HSB : Hid (sealB xs a = put4 xs a) := by show _ = _; unfold sealB; rw [HL.out, room_of ha, if_pos rfl, Int.toNat_natCast]
    have HS1 : Hid (isSealed (put4 xs a) (a : Int) = true) := sealed_put4 xs a (by rw [HL.out]; exact ha)
    have HPL : Hid ((put4 xs a).length = n) := by show _ = _; rw [put4_length xs a (by rw [HL.out]; exact ha)]; exact HL.out
    obtain ⟨i0, hi0, hz0, hz1, hz2⟩ := info_parts info5
    have HI := Lib.hid (And.intro hi0 (And.intro hz0 (And.intro hz1 hz2)))
    clear hi0 hz0 hz1 hz2
    go_enter Try.func6, Try.ntmps6
    go_wp2_with (first | (go_at_call 12; refine (Seal_c _ A n c xs HT.out HA.out hn2 hc hcm a h1 h2).mono ?_; rintro e w2 ⟨v2, rfl, hb2⟩; have HW2 := Lib.hid hb2; clear hb2; obtain ⟨As, cs, rfl, hts, hsa, hsc, hsm, _⟩ := txt_of_own HW2.out.2.1; rw [HSB.out] at hts; have HTs := Lib.hid hts; have Hsa := Lib.hid hsa; have Hsm : Hid (cs ≤ 9223372036854775807) := hsm; clear hts hsa hsm; have Hlen : Hid ((cb (put4 xs a)).length = n * 1) := Lib.hid (by rw [cb_length, HPL.out, Nat.mul_one]); have HC : Hid (∀ ad, As = some ad → ∀ j u, (cb (put4 xs a))[j]? = some u → (w2.alloc (.cells #[] 5)).cell? (ad.add j) = some u) := Lib.hid (txt_cells (HTs.out.later ((Only.refl _ w2).alloc (fun _ h => h) (.cells #[] 5)))); have HE : Hid ((w2.alloc (.cells #[] 5)).ownsRow w2.heap.size 5 1 (.slice (some ⟨w2.heap.size, 0, none⟩) 0 0) 0 []) := emp w2 _ (Nat.le_refl _)) | (at_builtin; refine wpList_append_src _ rfl (.tmp 44) (.tmp 45) 22 rfl w2.heap.size 5 i0 _ 1 1 Try.underlying22 HI.out.1 HI.out.2.1 HI.out.2.2.1 HI.out.2.2.2 (by rfl) (by omega) _ 0 [] rfl HE.out As n cs (cb (put4 xs a)) rfl Hsa.out Hlen.out HC.out (cb_one _) (by simp only [maxLen]; omega) (by omega) (by simp) ?_; intro v' w3 ho' hg'; have HR3 : Hid (w3.ownsRow w2.heap.size 5 1 v' n (cb (put4 xs a))) := Lib.hid (by simpa using ho'); have HO3 : Hid (Only (w.heap.size ≤ ·) w w3) := Lib.hid (HW2.out.2.2.trans ((((Only.refl _ w2).alloc (fun _ h => h) _).grown hg' (fun _ h => h) (fun g hg => (by injection hg with hg; exact Nat.le_of_eq hg))).mono fun k h => Nat.le_trans HW2.out.2.2.size h)); clear ho' hg'))
    obtain ⟨g, cap, rfl, hbg, hgl⟩ := HR3.out.form (by omega)
    obtain ⟨i, hi⟩ : ∃ i, i = k / 8 := ⟨_, rfl⟩
    obtain ⟨r, hr⟩ : ∃ r, r = k % 8 := ⟨_, rfl⟩
    obtain ⟨x, hx⟩ : ∃ x, (put4 xs a)[k / 8]? = some x := ⟨_, List.getElem?_eq_getElem (by rw [HPL.out]; omega)⟩
    have Hx := Lib.hid hx
    have hc1 : w3.cell? ⟨g, i, none⟩ = some (.int .u8 (x.toNat : Nat)) := by
      rw [HR3.out.cellAt i (by omega), hi]
      simp [cb, hx]
    have hf1 := HR3.out.frozenAt i
    have q1 : (k : Int) / 8 = (i : Int) := by omega
    have q2 : (k : Int) % 8 = (r : Int) := by omega
    have q3 : (i : Int) < (n : Int) := by omega
    have q4 : (r : Int) < 8 := by omega
    have q5 : (0 : Int) ≤ (r : Int) := by omega
    have q6 : (0 : Int) ≤ (i : Int) := by omega
    have Hi := Lib.hid hi
    have Hr := Lib.hid hr
    clear hi hr hx
    go_region
    rw [xor_val x r (by omega)]
    have HR4 : Hid (((w3.setCell ⟨g, i, none⟩ (.int .u8 ((x ^^^ msk r).toNat : Nat))).drew).ownsRow w2.heap.size 5 1 (.slice (some ⟨g, 0, none⟩) n cap) n (cb ((put4 xs a).set i (x ^^^ msk r)))) := own_turn HR3.out
    have hbw : w.heap.size ≤ g := Nat.le_trans HW2.out.2.2.size hbg
    have HO4 : Hid (Only (w.heap.size ≤ ·) w (w3.setCell ⟨g, i, none⟩ (.int .u8 ((x ^^^ msk r).toNat : Nat))).drew) := (HO3.out.setCell hbw _).drew
    have HF1 : Hid (isSealed ((put4 xs a).set i (x ^^^ msk r)) (a : Int) = false) := by
      show _ = _
      rw [Hi.out, Hr.out]
      exact bits_one _ a k x (by rw [HPL.out]; exact ha) HS1.out Hx.out
    have Htl : Hid (((put4 xs a).set i (x ^^^ msk r)).length = n) := by show _ = _; rw [List.length_set, HPL.out]
    obtain ⟨T1, hT1⟩ : ∃ T1, T1 = (put4 xs a).set i (x ^^^ msk r) := ⟨_, rfl⟩
    rw [← hT1] at HR4 HF1 Htl
    have HT1 := Lib.hid hT1
    obtain ⟨w4, hw4⟩ : ∃ w4, w4 = (w3.setCell ⟨g, i, none⟩ (.int .u8 ((x ^^^ msk r).toNat : Nat))).drew := ⟨_, rfl⟩
    rw [← hw4] at HR4 HO4 ⊢
    have Htx : Hid (Txt w4 (some ⟨g, 0, none⟩) n T1) := by
      obtain ⟨A', c', e, h, _⟩ := txt_of_own HR4.out
      injection e with e1 e2 e3
      rw [e1]
      exact h
    have hcapn : n ≤ cap ∧ cap ≤ maxLen := by
      rcases HR4.out.2 with ⟨e, _⟩ | ⟨g', cap', cur, e, _, _, e1, e2, _⟩
      · cases e
      · injection e with _ _ e
        rw [e]
        exact ⟨e1, e2⟩
    have hcap1 := hcapn.1
    have Hcap2 : Hid (cap ≤ 9223372036854775807) := hcapn.2
    have hk1 : IntKind.i64.wrap ((k : Int) + 1) = (k : Int) + 1 := IntWalk.i64_in _ (by omega)
    clear hT1 hw4 hc1 hf1 q1 q2 q3 q4 q5 q6 HR3 HO3 hcapn
    by_cases hend : 8 * n ≤ k + 1
    · have he : 8 * (n : Int) ≤ (k : Int) + 1 := by omega
      go_wp2_with (first | (go_at_call 15; refine (Sealed_c _ _ n cap T1 Htx.out (fun e => by cases e) hn2 hcap1 Hcap2.out a h1 h2).mono ?_; rintro e w5 ⟨rfl, ho5⟩; have HO5 : Hid (Only (w.heap.size ≤ ·) w w5) := HO4.out.trans (ho5.mono fun k h => Nat.le_trans HO4.out.size h); clear ho5; rw [HF1.out]) | (go_at_call 8; refine (alive_c _).mono ?_; rintro e w6 ⟨rfl, ho6⟩))
      go_ret
      exact ⟨rfl, HO5.out.trans (ho6.mono fun k h => Nat.le_trans HO5.out.size h)⟩
    · have he : ¬ (8 * (n : Int) ≤ (k : Int) + 1) := by omega
      go_wp2_with (first | (go_at_call 15; refine (Sealed_c _ _ n cap T1 Htx.out (fun e => by cases e) hn2 hcap1 Hcap2.out a h1 h2).mono ?_; rintro e w5 ⟨rfl, ho5⟩; have HO5 : Hid (Only (w.heap.size ≤ ·) w w5) := HO4.out.trans (ho5.mono fun k h => Nat.le_trans HO4.out.size h); have HR5 : Hid (w5.ownsRow w2.heap.size 5 1 (.slice (some ⟨g, 0, none⟩) n cap) n (cb T1)) := ownsRow_later HR4.out ho5; clear ho5; rw [HF1.out]))
      obtain ⟨i', hi'⟩ : ∃ i', i' = (k + 1) / 8 := ⟨_, rfl⟩
      obtain ⟨r', hr'⟩ : ∃ r', r' = (k + 1) % 8 := ⟨_, rfl⟩
      obtain ⟨y, hy⟩ : ∃ y, T1[(k + 1) / 8]? = some y := ⟨_, List.getElem?_eq_getElem (by rw [Htl.out]; omega)⟩
      have hc1 : w5.cell? ⟨g, i', none⟩ = some (.int .u8 (y.toNat : Nat)) := by
        rw [HR5.out.cellAt i' (by omega), hi']
        simp [cb, hy]
      have hf1 := HR5.out.frozenAt i'
      have q1 : ((k : Int) + 1) / 8 = (i' : Int) := by omega
      have q2 : ((k : Int) + 1) % 8 = (r' : Int) := by omega
      have q3 : (i' : Int) < (n : Int) := by omega
      have q4 : (r' : Int) < 8 := by omega
      have q5 : (0 : Int) ≤ (r' : Int) := by omega
      have q6 : (0 : Int) ≤ (i' : Int) := by omega
      have q7 : (0 : Int) ≤ (k : Int) + 1 := by omega
      have HF2 : Hid (isSealed (T1.set i' (y ^^^ msk r')) (a : Int) = false) := by
        show _ = _
        rw [hi', hr', HT1.out, Hi.out, Hr.out]
        rw [HT1.out, Hi.out, Hr.out] at hy
        exact bits_two _ a k x y (by rw [HPL.out]; exact ha) (by rw [HPL.out]; exact b1) HS1.out Hx.out hy
      clear hi' hr' hy
      go_region
      rw [xor_val y r' (by omega)]
      have HR6 : Hid (((w5.setCell ⟨g, i', none⟩ (.int .u8 ((y ^^^ msk r').toNat : Nat))).drew).ownsRow w2.heap.size 5 1 (.slice (some ⟨g, 0, none⟩) n cap) n (cb (T1.set i' (y ^^^ msk r')))) := own_turn HR5.out
      have HO6 : Hid (Only (w.heap.size ≤ ·) w (w5.setCell ⟨g, i', none⟩ (.int .u8 ((y ^^^ msk r').toNat : Nat))).drew) := (HO5.out.setCell hbw _).drew
      obtain ⟨T2, hT2⟩ : ∃ T2, T2 = T1.set i' (y ^^^ msk r') := ⟨_, rfl⟩
      rw [← hT2] at HR6 HF2
      obtain ⟨w6, hw6⟩ : ∃ w6, w6 = (w5.setCell ⟨g, i', none⟩ (.int .u8 ((y ^^^ msk r').toNat : Nat))).drew := ⟨_, rfl⟩
      rw [← hw6] at HR6 HO6 ⊢
      have Htx2 : Hid (Txt w6 (some ⟨g, 0, none⟩) n T2) := by
        obtain ⟨A', c', e, h, _⟩ := txt_of_own HR6.out
        injection e with e1 e2 e3
        rw [e1]
        exact h
      clear hT2 hw6 hc1 hf1 q1 q2 q3 q4 q5 q6 q7
      go_wp2_with (first | (go_at_call 8; refine (alive_c _).mono ?_; rintro e w7 ⟨rfl, ho7⟩; have HO7 : Hid (Only (w.heap.size ≤ ·) w w7) := HO6.out.trans (ho7.mono fun k h => Nat.le_trans HO6.out.size h); have Htx3 : Hid (Txt w7 (some ⟨g, 0, none⟩) n T2) := Htx2.out.later ho7; clear ho7) | (go_at_call 15; refine (Sealed_c _ _ n cap T2 Htx3.out (fun e => by cases e) hn2 hcap1 Hcap2.out a h1 h2).mono ?_; rintro e w8 ⟨rfl, ho8⟩; rw [HF2.out]))
      go_ret
      exact ⟨rfl, HO7.out.trans (ho8.mono fun k h => Nat.le_trans HO7.out.size h)⟩
end Go.Proofs.Ytdgcplmekkancaa
