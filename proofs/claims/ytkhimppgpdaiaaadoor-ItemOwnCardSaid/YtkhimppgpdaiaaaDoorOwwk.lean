/-
  ItemOwn: the walk.
-/
import Derived.Test.YtkhimppgpdaiaaaDoorOwpl
set_option linter.unusedVariables false
namespace Go.Proofs.YtkhimppgpdaiaaaDoor
open Go.RowKit

theorem made_own (w : World) : (w.alloc (.cells #[] 5)).ownsRow w.heap.size 5 1 (.slice (some ⟨w.heap.size, 0, none⟩) 0 0) 0 [] := World.ownsRow_made (size := 1) (base := w.heap.size) (e := 5) w #[] 0 (Nat.le_refl _) (by simp [maxLen]) (by simp)
theorem Src.src_cells {w : World} {A : Option Addr} {n c : Nat} {xs : Bytes} (h : Src w (.slice A n c) xs) : ∀ ad, A = some ad → ∀ j u, (cb xs)[j]? = some u → w.cell? (ad.add j) = some u := by
  obtain ⟨A', c', e, ht, _⟩ := h
  simp only [Value.slice.injEq] at e
  obtain ⟨rfl, rfl, rfl⟩ := e
  exact ht.src
theorem Src.facts {w : World} {A : Option Addr} {n c : Nat} {xs : Bytes} (h : Src w (.slice A n c) xs) : xs.length = n ∧ (A = none → n = 0 ∧ c = 0) := by
  obtain ⟨A', c', e, ht, h3, h4, h5⟩ := h
  simp only [Value.slice.injEq] at e
  obtain ⟨rfl, rfl, rfl⟩ := e
  exact ⟨rfl, fun e => ⟨by have := h3 e; omega, h3 e⟩⟩
theorem of_own (w : World) (v u : Value) (xs ys : Bytes) (h : Src w v xs) (h' : Src w u ys) (hl : xs.length ≤ 100 ∧ ys.length ≤ 2000) :
    Calls Tryd.prog 35 #[v, u] w fun e w' => ∃ I1 i1 I2 i2, e = .returned (.agg #[.slice I1 xs.length i1, .slice I2 ys.length i2, .int .i64 0, .int .i64 0]) ∧ New w' w.heap.size (.slice I1 xs.length i1) xs ∧ New w' w.heap.size (.slice I2 ys.length i2) ys ∧ Only (w.heap.size ≤ ·) w w' :=
  (Of_c w v u xs ys h h' (by omega) (by omega)).mono fun e w' ⟨k, l, h1, h2, h3, h4⟩ => by
    have s2 := h2
    have s3 := h3
    obtain ⟨A1, c1, rfl, _⟩ := h2
    obtain ⟨A2, c2, rfl, _⟩ := h3
    exact ⟨A1, c1, A2, c2, h1, s2, s3, h4⟩

/-- What is known while the call's own bytes are turned. -/
structure Sta (w : World) (g1 g2 b1 b2 bv : Nat) (K V : Option Addr) (n0 kc n1 vc : Nat) (I1 I2 : Option Addr) (i1 i2 : Nat) (xs ys : Bytes) (ks vs : Bytes) (W : World) : Prop where
  kk : Kept W g1 K n0 kc ks
  vv : Kept W g2 V n1 vc vs
  it : Blk W bv 29 [.slice I1 xs.length i1, .slice I2 ys.length i2, .int .i64 0, .int .i64 0]
  it1 : New W b2 (.slice I1 xs.length i1) xs
  it2 : New W b2 (.slice I2 ys.length i2) ys
  only : Only (w.heap.size ≤ ·) w W
  lo : w.heap.size ≤ g1
  a1 : 0 < n0 → g1 < b1
  a2 : b1 ≤ g2
  a3 : 0 < n1 → g2 < b2
  a4 : b2 ≤ bv
  a5 : b1 ≤ b2
  a6 : w.heap.size ≤ b1
section
variable {w W : World} {g1 g2 b1 b2 bv : Nat} {K V : Option Addr} {n0 kc n1 vc : Nat} {I1 I2 : Option Addr} {i1 i2 : Nat} {xs ys ks vs : Bytes}
theorem Sta.set1 {k : Nat} (h : Sta w g1 g2 b1 b2 bv K V n0 kc n1 vc I1 I2 i1 i2 xs ys ks vs W) (hk : k < n0) (y : UInt8) : Sta w g1 g2 b1 b2 bv K V n0 kc n1 vc I1 I2 i1 i2 xs ys (ks.set k y) vs (W.setCell ⟨g1, k, none⟩ (.int .u8 (y.toNat : Nat))) := by
  have ho : Only (· = g1) W (W.setCell ⟨g1, k, none⟩ (.int .u8 (y.toNat : Nat))) := (Only.refl (· = g1) W).setCell (p := ⟨g1, k, none⟩) rfl _
  obtain ⟨h1, h2, h3, h4, h5, h6, l1, l2, l3, l4, l5, l6, l7⟩ := h
  have := l2 (by omega)
  exact ⟨h1.set_ hk y, h2.keep ho (fun _ e => by omega), h3.only ho (by omega), h4.keep ho (fun _ _ _ e => by omega), h5.keep ho (fun _ _ _ e => by omega), h6.trans (ho.mono fun k e => by rw [e]; exact l1), l1, l2, l3, l4, l5, l6, l7⟩
theorem Sta.set2 {k : Nat} (h : Sta w g1 g2 b1 b2 bv K V n0 kc n1 vc I1 I2 i1 i2 xs ys ks vs W) (hk : k < n1) (y : UInt8) : Sta w g1 g2 b1 b2 bv K V n0 kc n1 vc I1 I2 i1 i2 xs ys ks (vs.set k y) (W.setCell ⟨g2, k, none⟩ (.int .u8 (y.toNat : Nat))) := by
  have ho : Only (· = g2) W (W.setCell ⟨g2, k, none⟩ (.int .u8 (y.toNat : Nat))) := (Only.refl (· = g2) W).setCell (p := ⟨g2, k, none⟩) rfl _
  obtain ⟨h1, h2, h3, h4, h5, h6, l1, l2, l3, l4, l5, l6, l7⟩ := h
  have := l4 (by omega)
  have h0 : 0 < n0 → ¬ g1 = g2 := fun hn => by have := l2 hn; omega
  have hw : w.heap.size ≤ g2 := by
    have h7 := h6.size
    rcases Nat.eq_zero_or_pos n0 with e | e
    · have := h2.lt (by omega)
      have h8 : w.heap.size ≤ b1 := l7
      omega
    · have := l2 e; omega
  exact ⟨h1.keep ho h0, h2.set_ hk y, h3.only ho (by omega), h4.keep ho (fun _ _ _ e => by omega), h5.keep ho (fun _ _ _ e => by omega), h6.trans (ho.mono fun k e => by rw [e]; exact hw), l1, l2, l3, l4, l5, l6, l7⟩
end
theorem same_yes (xs ys : Bytes) : decide (xs = xs ∧ ys = ys ∧ (0 : Int) = 0 ∧ (0 : Int) = 0) = true := by simp
theorem same_up (xs ys : Bytes) (h : 0 < xs.length) : decide (xs = up xs ∧ ys = ys ∧ (0 : Int) = 0 ∧ (0 : Int) = 0) = false := by
  rw [decide_eq_false_iff_not]
  exact fun hh => up_ne h hh.1
theorem same_two (xs ys : Bytes) : decide (xs = xs ∧ ys = ys ∧ (0 : Int) = 0 ∧ (0 : Int) = 2) = false := by simp

set_option maxRecDepth 100000 in
set_option maxHeartbeats 25600000 in
theorem own_walk (w : World) (A0 A1 : Option Addr) (n0 c0 n1 c1 : Nat) (xs ys : Bytes) (hg : Gens w) (s0 : Src w (.slice A0 n0 c0) xs) (s1 : Src w (.slice A1 n1 c1) ys) (e0 : xs.length = n0) (e1 : ys.length = n1) :
    Calls Tryd.prog 6 #[.slice A0 n0 c0, .slice A1 n1 c1] w (Told w (.bool true)) := by
  by_cases l0 : (100 : Int) < (n0 : Int)
  · have HG := Lib.hid hg
    have HO : Hid (Only (w.heap.size ≤ ·) w w) := Only.refl _ w
    clear hg s0 s1 e0 e1
    go_enter Tryd.func6, Tryd.ntmps6
    go_wp2_with (first
      | (go_at_call 9; (with_reducible refine (alive_c _ HG.out).mono ?_); rintro e w1 ⟨rfl, ho⟩; (replace HG := Lib.hid (HG.out.later ho)); (replace HO := Lib.hid (on_new HO.out ho)); clear ho))
    go_ret
    exact ⟨rfl, HO.out⟩
  by_cases l1 : (2000 : Int) < (n1 : Int)
  · have HG := Lib.hid hg
    have HO : Hid (Only (w.heap.size ≤ ·) w w) := Only.refl _ w
    clear hg s0 s1 e0 e1
    go_enter Tryd.func6, Tryd.ntmps6
    go_wp2_with (first
      | (go_at_call 9; (with_reducible refine (alive_c _ HG.out).mono ?_); rintro e w1 ⟨rfl, ho⟩; (replace HG := Lib.hid (HG.out.later ho)); (replace HO := Lib.hid (on_new HO.out ho)); clear ho))
    go_ret
    exact ⟨rfl, HO.out⟩
  have HGK : Hid (∀ W, Only (w.heap.size ≤ ·) w W → Gens W) := fun W hW => hg.later hW
  have HS0 : Hid (∀ W, Only (w.heap.size ≤ ·) w W → Src W (.slice A0 n0 c0) xs) := fun W hW => s0.later hW
  have HS1 : Hid (∀ W, Only (w.heap.size ≤ ·) w W → Src W (.slice A1 n1 c1) ys) := fun W hW => s1.later hW
  have HL : Hid (xs.length ≤ 100 ∧ ys.length ≤ 2000) := by show _ ∧ _; omega
  have HPos : Hid (0 < w.heap.size) := hg.1
  obtain ⟨i0, hi0, hz0, hz1, hz2⟩ := info_parts info8
  have HL0 : Hid ((A0 = none → n0 = 0 ∧ c0 = 0) ∧ (cb xs).length = n0 * 1) := ⟨s0.facts.2, by rw [cb_length, e0, Nat.mul_one]⟩
  have HL1 : Hid ((A1 = none → n1 = 0 ∧ c1 = 0) ∧ (cb ys).length = n1 * 1) := ⟨s1.facts.2, by rw [cb_length, e1, Nat.mul_one]⟩
  have HA1 := Lib.hid (made_own w)
  have HC0 : Hid (∀ ad, A0 = some ad → ∀ j u, (cb xs)[j]? = some u → (w.alloc (.cells #[] 5)).cell? (ad.add j) = some u) := (s0.later ((Only.refl _ w).alloc (fun _ h => h) _)).src_cells
  have HE0 := Lib.hid e0
  have HE1 := Lib.hid e1
  clear hg s0 s1 e0 e1
  go_enter Tryd.func6, Tryd.ntmps6
  go_wp2_with (first
    | (at_builtin; refine wpList_append_src _ rfl (.tmp 20) (.tmp 21) 25 rfl w.heap.size 5 i0 _ 1 1 Tryd.underlying25 hi0 hz0 hz1 hz2 (by rfl) (by omega) _ _ _ rfl HA1.out A0 n0 c0 (cb xs) rfl HL0.out.1 HL0.out.2 HC0.out (cb_one _) (by simp only [maxLen]; omega) (by omega) (by simp) ?_; intro v1 w1 ho' hg'; obtain ⟨g1, K, kc, rfl, hk, hge⟩ := kept_of_own (xs := xs) (by simpa using ho'); have HK := Lib.hid hk; have HKg := Lib.hid hge; have HO1 : Hid (Only (w.heap.size ≤ ·) w w1) := ((Only.refl _ w).alloc (fun _ h => h) _).grown hg' (fun _ h => h) (fun k hk => by injection hk with hk; exact Nat.le_of_eq hk); have HA2 := Lib.hid (made_own w1); have HC1 : Hid (∀ ad, A1 = some ad → ∀ j u, (cb ys)[j]? = some u → (w1.alloc (.cells #[] 5)).cell? (ad.add j) = some u) := (HS1.out _ (on_new HO1.out ((Only.refl _ w1).alloc (fun _ h => h) _))).src_cells; clear hk hge ho' hg')
    | (at_builtin; refine wpList_append_src _ rfl (.tmp 23) (.tmp 24) 25 rfl w1.heap.size 5 i0 _ 1 1 Tryd.underlying25 hi0 hz0 hz1 hz2 (by rfl) (by omega) _ _ _ rfl HA2.out A1 n1 c1 (cb ys) rfl HL1.out.1 HL1.out.2 HC1.out (cb_one _) (by simp only [maxLen]; omega) (by omega) (by simp) ?_; intro v2 w2 ho' hg'; obtain ⟨g2, V, vc, rfl, hv, hge⟩ := kept_of_own (xs := ys) (by simpa using ho'); have HV := Lib.hid hv; have HVg := Lib.hid hge; have HO2 : Hid (Only (w1.heap.size ≤ ·) w1 w2) := ((Only.refl _ w1).alloc (fun _ h => h) _).grown hg' (fun _ h => h) (fun k hk => by injection hk with hk; exact Nat.le_of_eq hk); clear hv hge ho' hg')
    | (go_at_call 35; (with_reducible refine (of_own _ _ _ xs ys (HK.out.keep HO2.out fun hn => Nat.not_le.2 (HK.out.lt hn)).src HV.out.src HL.out).mono ?_); rintro e w3 ⟨I1, i1, I2, i2, rfl, hi1, hi2, ho⟩; have HN1 := Lib.hid hi1; have HN2 := Lib.hid hi2; have HO3 := Lib.hid ho; clear hi1 hi2 ho))
  obtain ⟨bv, hbv⟩ : ∃ b, b = w3.heap.size := ⟨_, rfl⟩
  have HT : Hid (Sta w g1 g2 w1.heap.size w2.heap.size bv K V n0 kc n1 vc I1 I2 i1 i2 xs ys xs ys (w3.alloc (.cells #[.slice I1 xs.length i1, .slice I2 ys.length i2, .int .i64 0, .int .i64 0] 29))) := by
    have o4 : Only (w3.heap.size ≤ ·) w3 (w3.alloc (.cells #[.slice I1 xs.length i1, .slice I2 ys.length i2, .int .i64 0, .int .i64 0] 29)) := (Only.refl _ w3).alloc (fun _ h => h) _
    have o24 := on_new HO3.out o4
    have o14 := on_new HO2.out o24
    have s1 := HO1.out.size
    have s2 := HO2.out.size
    have s3 := HO3.out.size
    exact ⟨HK.out.keep o14 (fun hn => Nat.not_le.2 (HK.out.lt hn)), HV.out.keep o24 (fun hn => Nat.not_le.2 (HV.out.lt hn)), by rw [hbv]; exact Blk.new w3 29 [.slice I1 xs.length i1, .slice I2 ys.length i2, .int .i64 0, .int .i64 0], HN1.out.later o4, HN2.out.later o4, on_new HO1.out o14, HKg.out, HK.out.lt, HVg.out, HV.out.lt, by omega, s2, s1⟩
  rw [← hbv]
  clear hbv HK HV HN1 HN2 HO1 HO2 HO3 HKg HVg HA1 HA2 HC0 HC1 HL0 HL1 hi0 hz0 hz1 hz2
  generalize w3.alloc _ = w4 at HT ⊢
  go_loopw [31] (fun i wr => ∃ (k : Nat), k ≤ n0 ∧ i = .int .i64 k ∧ Sta w g1 g2 w1.heap.size w2.heap.size bv K V n0 kc n1 vc I1 I2 i1 i2 xs ys (bump xs k) ys wr) (fun i _ => n0 - (intOf i).toNat)
  case atStart => exact ⟨0, Nat.zero_le _, rfl, by rw [bump_zero]; exact HT.out⟩
  case round =>
    obtain ⟨k, hk, rfl, ht⟩ := hrel
    clear HT
    have HT := Lib.hid ht
    clear ht
    by_cases hlt : k < n0
    · obtain ⟨x, hx⟩ : ∃ x, xs[k]? = some x := ⟨_, List.getElem?_eq_getElem (by rw [HE0.out]; exact hlt)⟩
      obtain ⟨hc, hf⟩ := HT.out.kk.cell (bump_at hx)
      obtain ⟨hK, _⟩ := HT.out.kk.arr (by omega)
      have HN := Lib.hid (HT.out.set1 hlt (x + 1))
      rw [bump_set hx, ← up_val] at HN
      clear hx HT
      subst hK
      obtain ⟨X, hX⟩ : ∃ X : Int, X = (x.toNat : Nat) := ⟨_, rfl⟩
      rw [← hX] at hc HN
      clear hX
      have j1 : (k : Int) < (n0 : Int) := by omega
      have j2 : (0 : Int) ≤ (k : Int) := by omega
      go_wp2
      go_roundw
      case rel => exact ⟨k + 1, by omega, by go_num, HN.out⟩
      case measure => simp [intOf]; omega
    · obtain rfl : k = n0 := by omega
      have hkm : ¬ (k : Int) < (k : Int) := by omega
      have HT' : Hid (Sta w g1 g2 w1.heap.size w2.heap.size bv K V k kc n1 vc I1 I2 i1 i2 xs ys (up xs) ys wr) := by
        have := HT.out
        rwa [← HE0.out, bump_all, HE0.out] at this
      clear HT hk hlt
      have HT := Lib.hid HT'.out
      clear HT'
      go_wp2
      go_loopw [43] (fun i wr => ∃ (j : Nat), j ≤ n1 ∧ i = .int .i64 j ∧ Sta w g1 g2 w1.heap.size w2.heap.size bv K V k kc n1 vc I1 I2 i1 i2 xs ys (up xs) (bump ys j) wr) (fun i _ => n1 - (intOf i).toNat)
      case atStart => exact ⟨0, Nat.zero_le _, rfl, by rw [bump_zero]; exact HT.out⟩
      case round =>
        obtain ⟨j, hj, rfl, ht⟩ := hrel
        clear HT
        have HT := Lib.hid ht
        clear ht
        by_cases hlt : j < n1
        · obtain ⟨x, hx⟩ : ∃ x, ys[j]? = some x := ⟨_, List.getElem?_eq_getElem (by rw [HE1.out]; exact hlt)⟩
          obtain ⟨hc, hf⟩ := HT.out.vv.cell (bump_at hx)
          obtain ⟨hK, _⟩ := HT.out.vv.arr (by omega)
          have HN := Lib.hid (HT.out.set2 hlt (x + 1))
          rw [bump_set hx, ← up_val] at HN
          clear hx HT
          subst hK
          obtain ⟨X, hX⟩ : ∃ X : Int, X = (x.toNat : Nat) := ⟨_, rfl⟩
          rw [← hX] at hc HN
          clear hX
          have j1 : (j : Int) < (n1 : Int) := by omega
          have j2 : (0 : Int) ≤ (j : Int) := by omega
          go_wp2
          go_roundw
          case rel => exact ⟨j + 1, by omega, by go_num, HN.out⟩
          case measure => simp [intOf]; omega
        · obtain rfl : j = n1 := by omega
          have hkm' : ¬ (j : Int) < (j : Int) := by omega
          have o5 : Only (wr.heap.size ≤ ·) wr (wr.alloc (.cells #[.slice A0 k c0, .slice A1 j c1, .int .i64 0, .int .i64 0] 27)) := (Only.refl _ wr).alloc (fun _ h => h) _
          have HI := Lib.hid (HT.out.it.later o5)
          have HJ : Hid (Blk (wr.alloc (.cells #[.slice A0 k c0, .slice A1 j c1, .int .i64 0, .int .i64 0] 27)) wr.heap.size 27 [.slice A0 k c0, .slice A1 j c1, .int .i64 0, .int .i64 0]) := Blk.new wr 27 [.slice A0 k c0, .slice A1 j c1, .int .i64 0, .int .i64 0]
          have HN1 := Lib.hid (HT.out.it1.later o5).src
          have HN2 := Lib.hid (HT.out.it2.later o5).src
          have HKs := Lib.hid (HT.out.kk.src.later o5)
          have HO := Lib.hid (on_new HT.out.only o5)
          clear HT o5 hj hlt
          rcases Nat.eq_zero_or_pos k with h0 | h0
          · subst h0
            go_wp2_with (first
              | (go_at_call 9; (with_reducible refine (alive_c _ (HGK.out _ HO.out)).mono ?_); rintro e u1 ⟨rfl, ho⟩; (replace HI := Lib.hid (HI.out.later ho)); (replace HJ := Lib.hid (HJ.out.later ho)); (replace HN1 := Lib.hid (HN1.out.later ho)); (replace HN2 := Lib.hid (HN2.out.later ho)); (replace HKs := Lib.hid (HKs.out.later ho)); (obtain ⟨hi0, hi1, hi2, hi3⟩ := HI.out.four); (obtain ⟨hj0, hj1, hj2, hj3⟩ := HJ.out.four); (replace HO := Lib.hid (on_new HO.out ho)); clear ho)
              | (go_at_call 36; (with_reducible refine (rSame_c _ _ _ _ _ _ _ _ _ _ _ _ _ _ _ _ _ xs ys xs ys _ HN1.out HN2.out (HS0.out _ HO.out) (HS1.out _ HO.out) (same_yes xs ys)).mono ?_); rintro e u2 ⟨rfl, ho⟩; (replace HI := Lib.hid (HI.out.later ho)); (replace HJ := Lib.hid (HJ.out.later ho)); (replace HN1 := Lib.hid (HN1.out.later ho)); (replace HN2 := Lib.hid (HN2.out.later ho)); (replace HKs := Lib.hid (HKs.out.later ho)); (obtain ⟨hi0, hi1, hi2, hi3⟩ := HI.out.four); (obtain ⟨hj0, hj1, hj2, hj3⟩ := HJ.out.four); (replace HO := Lib.hid (on_new HO.out ho)); clear ho)
              | (go_at_call 37; (with_reducible refine (Same_c _ _ _ _ _ _ _ _ _ _ _ _ _ _ _ _ _ xs ys xs ys _ HN1.out HN2.out (HS0.out _ HO.out) (HS1.out _ HO.out) (same_yes xs ys)).mono ?_); rintro e u3 ⟨rfl, ho⟩; (replace HI := Lib.hid (HI.out.later ho)); (replace HJ := Lib.hid (HJ.out.later ho)); (replace HN1 := Lib.hid (HN1.out.later ho)); (replace HN2 := Lib.hid (HN2.out.later ho)); (replace HKs := Lib.hid (HKs.out.later ho)); (obtain ⟨hi0, hi1, hi2, hi3⟩ := HI.out.four); (obtain ⟨hj0, hj1, hj2, hj3⟩ := HJ.out.four); (replace HO := Lib.hid (on_new HO.out ho)); clear ho)
              | (go_at_call 37; (with_reducible refine (Same_c _ _ _ _ _ _ _ _ _ _ _ _ _ _ _ _ _ xs ys xs ys _ HN1.out HN2.out (HS0.out _ HO.out) (HS1.out _ HO.out) (same_two xs ys)).mono ?_); rintro e u5 ⟨rfl, ho⟩; (replace HI := Lib.hid (HI.out.later ho)); (replace HJ := Lib.hid (HJ.out.later ho)); (replace HN1 := Lib.hid (HN1.out.later ho)); (replace HN2 := Lib.hid (HN2.out.later ho)); (replace HKs := Lib.hid (HKs.out.later ho)); (obtain ⟨hi0, hi1, hi2, hi3⟩ := HI.out.four); (obtain ⟨hj0, hj1, hj2, hj3⟩ := HJ.out.four); (replace HO := Lib.hid (on_new HO.out ho)); clear ho))
            go_ret
            exact ⟨rfl, HO.out⟩
          · have z0 : ((k : Int) == 0) = false := by simpa using (by omega : ¬ k = 0)
            have HX0 : Hid (0 < xs.length) := by show _ < _; rw [HE0.out]; exact h0
            go_wp2_with (first
              | (go_at_call 9; (with_reducible refine (alive_c _ (HGK.out _ HO.out)).mono ?_); rintro e u1 ⟨rfl, ho⟩; (replace HI := Lib.hid (HI.out.later ho)); (replace HJ := Lib.hid (HJ.out.later ho)); (replace HN1 := Lib.hid (HN1.out.later ho)); (replace HN2 := Lib.hid (HN2.out.later ho)); (replace HKs := Lib.hid (HKs.out.later ho)); (obtain ⟨hi0, hi1, hi2, hi3⟩ := HI.out.four); (obtain ⟨hj0, hj1, hj2, hj3⟩ := HJ.out.four); (replace HO := Lib.hid (on_new HO.out ho)); clear ho)
              | (go_at_call 36; (with_reducible refine (rSame_c _ _ _ _ _ _ _ _ _ _ _ _ _ _ _ _ _ xs ys xs ys _ HN1.out HN2.out (HS0.out _ HO.out) (HS1.out _ HO.out) (same_yes xs ys)).mono ?_); rintro e u2 ⟨rfl, ho⟩; (replace HI := Lib.hid (HI.out.later ho)); (replace HJ := Lib.hid (HJ.out.later ho)); (replace HN1 := Lib.hid (HN1.out.later ho)); (replace HN2 := Lib.hid (HN2.out.later ho)); (replace HKs := Lib.hid (HKs.out.later ho)); (obtain ⟨hi0, hi1, hi2, hi3⟩ := HI.out.four); (obtain ⟨hj0, hj1, hj2, hj3⟩ := HJ.out.four); (replace HO := Lib.hid (on_new HO.out ho)); clear ho)
              | (go_at_call 37; (with_reducible refine (Same_c _ _ _ _ _ _ _ _ _ _ _ _ _ _ _ _ _ xs ys xs ys _ HN1.out HN2.out (HS0.out _ HO.out) (HS1.out _ HO.out) (same_yes xs ys)).mono ?_); rintro e u3 ⟨rfl, ho⟩; (replace HI := Lib.hid (HI.out.later ho)); (replace HJ := Lib.hid (HJ.out.later ho)); (replace HN1 := Lib.hid (HN1.out.later ho)); (replace HN2 := Lib.hid (HN2.out.later ho)); (replace HKs := Lib.hid (HKs.out.later ho)); (obtain ⟨hi0, hi1, hi2, hi3⟩ := HI.out.four); (obtain ⟨hj0, hj1, hj2, hj3⟩ := HJ.out.four); (replace HO := Lib.hid (on_new HO.out ho)); clear ho)
              | (go_at_call 37; (with_reducible refine (Same_c _ _ _ _ _ _ _ _ _ _ _ _ _ _ _ _ _ xs ys (up xs) ys _ HN1.out HN2.out HKs.out (HS1.out _ HO.out) (same_up xs ys HX0.out)).mono ?_); rintro e u4 ⟨rfl, ho⟩; (replace HI := Lib.hid (HI.out.later ho)); (replace HJ := Lib.hid (HJ.out.later ho)); (replace HN1 := Lib.hid (HN1.out.later ho)); (replace HN2 := Lib.hid (HN2.out.later ho)); (replace HKs := Lib.hid (HKs.out.later ho)); (obtain ⟨hi0, hi1, hi2, hi3⟩ := HI.out.four); (obtain ⟨hj0, hj1, hj2, hj3⟩ := HJ.out.four); (replace HO := Lib.hid (on_new HO.out ho)); clear ho)
              | (go_at_call 37; (with_reducible refine (Same_c _ _ _ _ _ _ _ _ _ _ _ _ _ _ _ _ _ xs ys xs ys _ HN1.out HN2.out (HS0.out _ HO.out) (HS1.out _ HO.out) (same_two xs ys)).mono ?_); rintro e u5 ⟨rfl, ho⟩; (replace HI := Lib.hid (HI.out.later ho)); (replace HJ := Lib.hid (HJ.out.later ho)); (replace HN1 := Lib.hid (HN1.out.later ho)); (replace HN2 := Lib.hid (HN2.out.later ho)); (replace HKs := Lib.hid (HKs.out.later ho)); (obtain ⟨hi0, hi1, hi2, hi3⟩ := HI.out.four); (obtain ⟨hj0, hj1, hj2, hj3⟩ := HJ.out.four); (replace HO := Lib.hid (on_new HO.out ho)); clear ho))
            go_ret
            exact ⟨rfl, HO.out⟩
end Go.Proofs.YtkhimppgpdaiaaaDoor
