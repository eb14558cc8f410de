/-
  PageGens: the walk.
-/
import Derived.Test.YtnmfhadmkgndmaaDoorBak
import Derived.Test.YtnmfhadmkgndmaaDoorGb
set_option linter.unusedVariables false
namespace Go.Proofs.YtnmfhadmkgndmaaDoor
open Go.RowKit

theorem Nod.ln {w : World} {x : Nd} {f : Bool} {A B : Option Addr} {n c m d : Nat} (h : Nod w x f (.slice A n c) (.slice B m d)) : n = x.its.length ∧ m = x.kds.length := ⟨h.2.1.len, h.2.2.len⟩
section
variable (hal : ∀ W, Gens W → Calls Tryd.prog 11 #[] W (Told W (.bool true))) (w : World) (g h : Int) (f : Bool) (A B : Option Addr) (n c m d : Nat) (y : Nd) (hG : Gens w)
include hal hG
set_option maxRecDepth 100000 in
set_option maxHeartbeats 6400000 in
theorem gens_out (hc : g = h ∨ 60 < n ∨ 60 < m) : Calls Tryd.prog 5 #[.int .i64 g, .int .i64 h, .agg #[.bool f, .slice A n c, .slice B m d]] w (Told w (.bool true)) := by
  have HAL : Hid (∀ W, Only (w.heap.size ≤ ·) w W → Calls Tryd.prog 11 #[] W (Told W (.bool true))) := Lib.hid fun W hW => hal W (hG.later hW)
  have HO : Hid (Only (w.heap.size ≤ ·) w (w.alloc (.cells #[.bool f, .slice A n c, .slice B m d] 43))) := Lib.hid ((Only.refl _ w).alloc (fun _ h => h) _)
  clear hG hal
  by_cases h1 : g = h
  · subst h1
    clear hc
    go_enter Tryd.func5, Tryd.ntmps5
    go_wp2_with (go_at_call 11; (with_reducible refine (HAL.out _ HO.out).mono ?_); rintro ee w2 ⟨rfl, ho⟩; (replace HO := Lib.hid (on_new HO.out ho)); clear ho)
    go_ret
    exact ⟨rfl, HO.out⟩
  have b1 : (g == h) = false := by rw [beq_eq_false_iff_ne]; exact h1
  by_cases h2 : 60 < n
  · have h2i : (60 : Int) < (n : Int) := by omega
    clear hc h1
    go_enter Tryd.func5, Tryd.ntmps5
    go_wp2_with (go_at_call 11; (with_reducible refine (HAL.out _ HO.out).mono ?_); rintro ee w2 ⟨rfl, ho⟩; (replace HO := Lib.hid (on_new HO.out ho)); clear ho)
    go_ret
    exact ⟨rfl, HO.out⟩
  have h3i : (60 : Int) < (m : Int) := by omega
  have h2i : ¬ (60 : Int) < (n : Int) := by omega
  clear hc h1
  go_enter Tryd.func5, Tryd.ntmps5
  go_wp2_with (go_at_call 11; (with_reducible refine (HAL.out _ HO.out).mono ?_); rintro ee w2 ⟨rfl, ho⟩; (replace HO := Lib.hid (on_new HO.out ho)); clear ho)
  go_ret
  exact ⟨rfl, HO.out⟩
set_option maxRecDepth 100000 in
set_option maxHeartbeats 12800000 in
theorem gens_no (hN : Nod w y f (.slice A n c) (.slice B m d)) (hgh : g ≠ h) (hn : n ≤ 60) (hm : m ≤ 60) (P1 P2 : Bytes) (z1 z2 : Int)
    (hE1 : ∀ W A n c B m d, Only (w.heap.size ≤ ·) w W → Nod W y y.leaf (.slice A n c) (.slice B m d) → Calls Tryd.prog 20 #[.int .i64 g, .agg #[.bool y.leaf, .slice A n c, .slice B m d]] W (GaveBE W P1 z1))
    (hE2 : ∀ W A n c B m d, Only (w.heap.size ≤ ·) w W → Nod W y y.leaf (.slice A n c) (.slice B m d) → Calls Tryd.prog 20 #[.int .i64 h, .agg #[.bool y.leaf, .slice A n c, .slice B m d]] W (GaveBE W P2 z2)) (hz : z1 ≠ 0 ∨ z2 ≠ 0) : Calls Tryd.prog 5 #[.int .i64 g, .int .i64 h, .agg #[.bool f, .slice A n c, .slice B m d]] w (Told w (.bool true)) := by
  have HAL : Hid (∀ W, Only (w.heap.size ≤ ·) w W → Calls Tryd.prog 11 #[] W (Told W (.bool true))) := Lib.hid fun W hW => hal W (hG.later hW)
  obtain ⟨w1, hw1⟩ : ∃ w1, w1 = w.alloc (.cells #[.bool f, .slice A n c, .slice B m d] 43) := ⟨_, rfl⟩
  have HO : Hid (Only (w.heap.size ≤ ·) w w1) := Lib.hid (by rw [hw1]; exact (Only.refl _ w).alloc (fun _ h => h) _)
  have HB : Hid (Blk w1 w.heap.size 43 [.bool f, .slice A n c, .slice B m d]) := Lib.hid (by rw [hw1]; exact Blk.new w 43 _)
  have HOF : Hid (∀ W, Only (w.heap.size ≤ ·) w W → Calls Tryd.prog 21 #[.agg #[.bool f, .slice A n c, .slice B m d]] W (GaveN W y)) := Lib.hid fun W hW => NOf_c W A B n c m d f y (hN.later hW) ⟨by rw [← hN.2.1.len]; omega, by rw [← hN.2.2.len]; omega, trivial⟩
  have HE1 := Lib.hid hE1
  have HE2 := Lib.hid hE2
  have b1 : (g == h) = false := by rw [beq_eq_false_iff_ne]; exact hgh
  have h2i : ¬ (60 : Int) < (n : Int) := by omega
  have h3i : ¬ (60 : Int) < (m : Int) := by omega
  obtain ⟨i0, i1, i2⟩ := HB.out.tri
  by_cases h1 : z1 = 0
  · subst h1
    have h2 : z2 ≠ 0 := by omega
    have c2 : (z2 != 0) = true := by rw [bne_iff_ne]; exact h2
    have c3 : (z2 == 0) = false := by rw [beq_eq_false_iff_ne]; exact h2
    clear hN hgh hn hm hE1 hE2 hG hal hz h2
    go_enter Tryd.func5, Tryd.ntmps5
    go_upto_region 1 with (fail)
    rw [← hw1]
    clear hw1
    go_wp2_with (first
      | (go_at_call 21; (with_reducible refine (HOF.out _ HO.out).mono ?_); rintro ee w2 ⟨A2, n2, c2, B2, m2, d2, rfl, hn2, ho⟩; have HN2 := Lib.hid hn2; (replace HB := Lib.hid (HB.out.later ho)); (replace HO := Lib.hid (on_new HO.out ho)); clear ho hn2; clear i0 i1 i2; (obtain ⟨i0, i1, i2⟩ := HB.out.tri))
      | (go_at_call 20; (with_reducible refine (HE1.out _ _ _ _ _ _ _ HO.out HN2.out).mono ?_); rintro ee w3 ⟨v1, rfl, hs1, ho⟩; have HS1 := Lib.hid hs1; (replace HB := Lib.hid (HB.out.later ho)); (replace HO := Lib.hid (on_new HO.out ho)); clear ho hs1; clear i0 i1 i2; (obtain ⟨i0, i1, i2⟩ := HB.out.tri))
      | (go_at_call 20; (with_reducible refine (HE2.out _ _ _ _ _ _ _ HO.out HN2.out).mono ?_); rintro ee w3 ⟨v2, rfl, hs2, ho⟩; have HS2 := Lib.hid hs2; (replace HB := Lib.hid (HB.out.later ho)); (replace HO := Lib.hid (on_new HO.out ho)); clear ho hs2; clear i0 i1 i2; (obtain ⟨i0, i1, i2⟩ := HB.out.tri))
      | (go_at_call 11; (with_reducible refine (HAL.out _ HO.out).mono ?_); rintro ee w5 ⟨rfl, ho⟩; (replace HO := Lib.hid (on_new HO.out ho)); clear ho))
    go_ret
    exact ⟨rfl, HO.out⟩
  · have c2 : (z1 != 0) = true := by rw [bne_iff_ne]; exact h1
    have c3 : (z1 == 0) = false := by rw [beq_eq_false_iff_ne]; exact h1
    clear hN hgh hn hm hE1 hE2 hG hal hz h1
    go_enter Tryd.func5, Tryd.ntmps5
    go_upto_region 1 with (fail)
    rw [← hw1]
    clear hw1
    go_wp2_with (first
      | (go_at_call 21; (with_reducible refine (HOF.out _ HO.out).mono ?_); rintro ee w2 ⟨A2, n2, c2, B2, m2, d2, rfl, hn2, ho⟩; have HN2 := Lib.hid hn2; (replace HB := Lib.hid (HB.out.later ho)); (replace HO := Lib.hid (on_new HO.out ho)); clear ho hn2; clear i0 i1 i2; (obtain ⟨i0, i1, i2⟩ := HB.out.tri))
      | (go_at_call 20; (with_reducible refine (HE1.out _ _ _ _ _ _ _ HO.out HN2.out).mono ?_); rintro ee w3 ⟨v1, rfl, hs1, ho⟩; have HS1 := Lib.hid hs1; (replace HB := Lib.hid (HB.out.later ho)); (replace HO := Lib.hid (on_new HO.out ho)); clear ho hs1; clear i0 i1 i2; (obtain ⟨i0, i1, i2⟩ := HB.out.tri))
      | (go_at_call 20; (with_reducible refine (HE2.out _ _ _ _ _ _ _ HO.out HN2.out).mono ?_); rintro ee w3 ⟨v2, rfl, hs2, ho⟩; have HS2 := Lib.hid hs2; (replace HB := Lib.hid (HB.out.later ho)); (replace HO := Lib.hid (on_new HO.out ho)); clear ho hs2; clear i0 i1 i2; (obtain ⟨i0, i1, i2⟩ := HB.out.tri))
      | (go_at_call 11; (with_reducible refine (HAL.out _ HO.out).mono ?_); rintro ee w5 ⟨rfl, ho⟩; (replace HO := Lib.hid (on_new HO.out ho)); clear ho))
    go_ret
    exact ⟨rfl, HO.out⟩
set_option maxRecDepth 100000 in
set_option maxHeartbeats 12800000 in
theorem gens_yes (hN : Nod w y f (.slice A n c) (.slice B m d)) (hgh : g ≠ h) (hn : n ≤ 60) (hm : m ≤ 60) (P1 P2 : Bytes) 
    (hE1 : ∀ W A n c B m d, Only (w.heap.size ≤ ·) w W → Nod W y y.leaf (.slice A n c) (.slice B m d) → Calls Tryd.prog 20 #[.int .i64 g, .agg #[.bool y.leaf, .slice A n c, .slice B m d]] W (GaveBE W P1 0))
    (hE2 : ∀ W A n c B m d, Only (w.heap.size ≤ ·) w W → Nod W y y.leaf (.slice A n c) (.slice B m d) → Calls Tryd.prog 20 #[.int .i64 h, .agg #[.bool y.leaf, .slice A n c, .slice B m d]] W (GaveBE W P2 0))
    (hD1 : ∀ W v, Only (w.heap.size ≤ ·) w W → Src W v P1 → Calls Tryd.prog 22 #[v] W (fun e w' => ∃ A n c B m d, e = .returned (.tuple #[.int .i64 g, .agg #[.bool y.leaf, .slice A n c, .slice B m d], .int .i64 0]) ∧ Nod w' y y.leaf (.slice A n c) (.slice B m d) ∧ Only (W.heap.size ≤ ·) W w'))
    (hD2 : ∀ W v, Only (w.heap.size ≤ ·) w W → Src W v P2 → Calls Tryd.prog 22 #[v] W (fun e w' => ∃ A n c B m d, e = .returned (.tuple #[.int .i64 h, .agg #[.bool y.leaf, .slice A n c, .slice B m d], .int .i64 0]) ∧ Nod w' y y.leaf (.slice A n c) (.slice B m d) ∧ Only (W.heap.size ≤ ·) W w'))
    (hne : P1 ≠ P2) : Calls Tryd.prog 5 #[.int .i64 g, .int .i64 h, .agg #[.bool f, .slice A n c, .slice B m d]] w (Told w (.bool true)) := by
  have HD1 := Lib.hid hD1
  have HD2 := Lib.hid hD2
  have HNE : Hid (decide (P1 = P2) = false) := Lib.hid (decide_eq_false hne)
  have HL1 : Hid (y.its.length ≤ 60 ∧ y.kds.length ≤ 60) := Lib.hid ⟨by rw [← hN.2.1.len]; exact hn, by rw [← hN.2.2.len]; exact hm⟩
  have HAL : Hid (∀ W, Only (w.heap.size ≤ ·) w W → Calls Tryd.prog 11 #[] W (Told W (.bool true))) := Lib.hid fun W hW => hal W (hG.later hW)
  obtain ⟨w1, hw1⟩ : ∃ w1, w1 = w.alloc (.cells #[.bool f, .slice A n c, .slice B m d] 43) := ⟨_, rfl⟩
  have HO : Hid (Only (w.heap.size ≤ ·) w w1) := Lib.hid (by rw [hw1]; exact (Only.refl _ w).alloc (fun _ h => h) _)
  have HB : Hid (Blk w1 w.heap.size 43 [.bool f, .slice A n c, .slice B m d]) := Lib.hid (by rw [hw1]; exact Blk.new w 43 _)
  have HOF : Hid (∀ W, Only (w.heap.size ≤ ·) w W → Calls Tryd.prog 21 #[.agg #[.bool f, .slice A n c, .slice B m d]] W (GaveN W y)) := Lib.hid fun W hW => NOf_c W A B n c m d f y (hN.later hW) ⟨by rw [← hN.2.1.len]; omega, by rw [← hN.2.2.len]; omega, trivial⟩
  have HE1 := Lib.hid hE1
  have HE2 := Lib.hid hE2
  have b1 : (g == h) = false := by rw [beq_eq_false_iff_ne]; exact hgh
  have h2i : ¬ (60 : Int) < (n : Int) := by omega
  have h3i : ¬ (60 : Int) < (m : Int) := by omega
  obtain ⟨i0, i1, i2⟩ := HB.out.tri
  clear hN hgh hn hm hE1 hE2 hD1 hD2 hne hG hal
  go_enter Tryd.func5, Tryd.ntmps5
  go_upto_region 1 with (fail)
  rw [← hw1]
  clear hw1
  go_wp2_with (first
    | (go_at_call 21; (with_reducible refine (HOF.out _ HO.out).mono ?_); rintro ee w2 ⟨A2, n2, c2, B2, m2, d2, rfl, hn2, ho⟩; have HN2 := Lib.hid hn2; (replace HB := Lib.hid (HB.out.later ho)); (replace HO := Lib.hid (on_new HO.out ho)); (try replace HS1 := Lib.hid (HS1.out.later ho)); clear ho hn2; clear i0 i1 i2; (obtain ⟨i0, i1, i2⟩ := HB.out.tri))
    | (go_at_call 20; (with_reducible refine (HE1.out _ _ _ _ _ _ _ HO.out HN2.out).mono ?_); rintro ee w3 ⟨v1, rfl, hs1, ho⟩; have HS1 := Lib.hid hs1; (replace HB := Lib.hid (HB.out.later ho)); (replace HO := Lib.hid (on_new HO.out ho)); clear ho hs1; clear i0 i1 i2; (obtain ⟨i0, i1, i2⟩ := HB.out.tri))
    | (go_at_call 20; (with_reducible refine (HE2.out _ _ _ _ _ _ _ HO.out HN2.out).mono ?_); rintro ee w3 ⟨v2, rfl, hs2, ho⟩; have HS2 := Lib.hid hs2; (replace HS1 := Lib.hid (HS1.out.later ho)); (replace HB := Lib.hid (HB.out.later ho)); (replace HO := Lib.hid (on_new HO.out ho)); clear ho hs2; clear i0 i1 i2; (obtain ⟨i0, i1, i2⟩ := HB.out.tri))
    | (go_at_call 22; (with_reducible refine (HD1.out _ _ HO.out HS1.out).mono ?_); rintro ee w6 ⟨A3, n3, c3, B3, m3, d3, rfl, hn3, ho⟩; have HN3 := Lib.hid (hn3.later ((Only.refl (w6.heap.size ≤ ·) w6).alloc (fun _ h => h) (.cells #[.bool y.leaf, .slice A3 n3 c3, .slice B3 m3 d3] 48))); have HB3 := Lib.hid (Blk.new w6 48 [.bool y.leaf, .slice A3 n3 c3, .slice B3 m3 d3]); have ho2 := ho.alloc (fun _ h => h) (.cells #[.bool y.leaf, .slice A3 n3 c3, .slice B3 m3 d3] 48); (replace HS1 := Lib.hid (HS1.out.later ho2)); (replace HS2 := Lib.hid (HS2.out.later ho2)); (replace HO := Lib.hid (on_new HO.out ho2)); clear ho ho2 hn3 i0 i1 i2)
    | (go_at_call 22; (with_reducible refine (HD2.out _ _ HO.out HS2.out).mono ?_); rintro ee w7 ⟨A4, n4, c4, B4, m4, d4, rfl, hn4, ho⟩; (obtain rfl : n4 = n3 := by rw [hn4.2.1.len, HN3.out.2.1.len]); (obtain rfl : m4 = m3 := by rw [hn4.2.2.len, HN3.out.2.2.len]); have HN4 := Lib.hid (hn4.later ((Only.refl (w7.heap.size ≤ ·) w7).alloc (fun _ h => h) (.cells #[.bool y.leaf, .slice A4 n4 c4, .slice B4 m4 d4] 48))); have HB4 := Lib.hid (Blk.new w7 48 [.bool y.leaf, .slice A4 n4 c4, .slice B4 m4 d4]); have ho2 := ho.alloc (fun _ h => h) (.cells #[.bool y.leaf, .slice A4 n4 c4, .slice B4 m4 d4] 48); (replace HS1 := Lib.hid (HS1.out.later ho2)); (replace HS2 := Lib.hid (HS2.out.later ho2)); (replace HN3 := Lib.hid (HN3.out.later ho2)); (replace HB3 := Lib.hid (HB3.out.later ho2)); (replace HO := Lib.hid (on_new HO.out ho2)); clear ho ho2 hn4)
    | (go_at_call 11; (with_reducible refine (HAL.out _ HO.out).mono ?_); rintro ee w8 ⟨rfl, ho⟩; (replace HS1 := Lib.hid (HS1.out.later ho)); (replace HS2 := Lib.hid (HS2.out.later ho)); (replace HN3 := Lib.hid (HN3.out.later ho)); (replace HN4 := Lib.hid (HN4.out.later ho)); (replace HB3 := Lib.hid (HB3.out.later ho)); (replace HB4 := Lib.hid (HB4.out.later ho)); (replace HO := Lib.hid (on_new HO.out ho)); clear ho; (obtain ⟨x0, x1, x2⟩ := HB3.out.tri); (obtain ⟨z0, z1, z2⟩ := HB4.out.tri))
    | (go_at_call 23; (with_reducible refine (NSame_eq _ y.leaf A3 B3 A4 B4 _ c3 _ d3 c4 d4 y HN3.out HN4.out (by have := HN3.out.ln; have := HL1.out; omega) (by have := HN3.out.ln; have := HL1.out; omega)).mono ?_); rintro ee w9 ⟨rfl, ho⟩; (replace HS1 := Lib.hid (HS1.out.later ho)); (replace HS2 := Lib.hid (HS2.out.later ho)); (replace HO := Lib.hid (on_new HO.out ho)); clear ho)
    | (go_at_call 15; (with_reducible refine (Equal_b _ _ _ P1 P2 false HS1.out HS2.out HNE.out).mono ?_); rintro ee w' ⟨rfl, rfl⟩))
  go_ret
  exact ⟨by first | rfl | simp, HO.out⟩
end
/-- What Encode answers, told by whether the node may be. -/
theorem Encode_y (w : World) (g : Int) (A B : Option Addr) (n c m d : Nat) (f : Bool) (x : Nd) (hN : Nod w x f (.slice A n c) (.slice B m d)) (hG : Gens w) (hn : n ≤ 1000) (hm : m ≤ 1000) (h : RightN g x ∧ anyU x.its = false) :
    Calls Tryd.prog 20 #[.int .i64 g, .agg #[.bool f, .slice A n c, .slice B m d]] w (GaveBE w (pageB g x) 0) :=
  (Encode_c w g A B n c m d f x hN hG hn hm).mono fun e w' ⟨b, hb, h1⟩ => by
    obtain rfl := hb.2 h
    rw [if_pos rfl, if_pos rfl] at h1
    exact h1
theorem Encode_n (w : World) (g : Int) (A B : Option Addr) (n c m d : Nat) (f : Bool) (x : Nd) (hN : Nod w x f (.slice A n c) (.slice B m d)) (hG : Gens w) (hn : n ≤ 1000) (hm : m ≤ 1000) (h : ¬ (RightN g x ∧ anyU x.its = false)) :
    Calls Tryd.prog 20 #[.int .i64 g, .agg #[.bool f, .slice A n c, .slice B m d]] w (GaveBE w [] 73) :=
  (Encode_c w g A B n c m d f x hN hG hn hm).mono fun e w' ⟨b, hb, h1⟩ => by
    cases b
    · exact h1
    · exact absurd (hb.1 rfl) h
theorem Decode_y (w : World) (v : Value) (k : Nat) (x : Nd) (hG : Gens w) (hs : Src w v (pageB k x)) (h : RightN (k : Int) x ∧ anyU x.its = false) (h1 : x.its.length ≤ 1000) (h2 : x.kds.length ≤ 1000) :
    Calls Tryd.prog 22 #[v] w (fun e w' => ∃ A n c B m d, e = .returned (.tuple #[.int .i64 (k : Nat), .agg #[.bool x.leaf, .slice A n c, .slice B m d], .int .i64 0]) ∧ Nod w' x x.leaf (.slice A n c) (.slice B m d) ∧ Only (w.heap.size ≤ ·) w w') := by
  obtain ⟨f1, f2, f3, f4⟩ := page_back h.1 h.2 h1 h2
  refine (Decode_c w v _ hG hs (by rw [f4]; decide)).mono ?_
  rintro e w' ⟨ok, hok, f, A, n, c, B, m, d, e1, e2, e3⟩
  obtain rfl := hok.2 f1
  rw [if_pos rfl, if_pos rfl, f2] at e1
  rw [if_pos rfl, f3] at e2
  obtain rfl : f = x.leaf := e2.1
  exact ⟨A, n, c, B, m, d, e1, e2, e3⟩
theorem gens_c (hal : ∀ W, Gens W → Calls Tryd.prog 11 #[] W (Told W (.bool true))) (w : World) (g h : Int) (f : Bool) (A B : Option Addr) (n c m d : Nat) (y : Nd) (hN : Nod w y f (.slice A n c) (.slice B m d)) (hG : Gens w) :
    Calls Tryd.prog 5 #[.int .i64 g, .int .i64 h, .agg #[.bool f, .slice A n c, .slice B m d]] w (Told w (.bool true)) := by
  by_cases hc : g = h ∨ 60 < n ∨ 60 < m
  · exact gens_out hal w g h f A B n c m d hG hc
  have l1 : y.its.length ≤ 60 := by rw [← hN.2.1.len]; omega
  have l2 : y.kds.length ≤ 60 := by rw [← hN.2.2.len]; omega
  have ey : ∀ q : Int, RightN q y ∧ anyU y.its = false → ∀ W A n c B m d, Only (w.heap.size ≤ ·) w W → Nod W y y.leaf (.slice A n c) (.slice B m d) → Calls Tryd.prog 20 #[.int .i64 q, .agg #[.bool y.leaf, .slice A n c, .slice B m d]] W (GaveBE W (pageB q y) 0) := fun q hq W A n c B m d hW hN => Encode_y W q A B n c m d y.leaf y hN (hG.later hW) (by rw [hN.2.1.len]; omega) (by rw [hN.2.2.len]; omega) hq
  have en : ∀ q : Int, ¬ (RightN q y ∧ anyU y.its = false) → ∀ W A n c B m d, Only (w.heap.size ≤ ·) w W → Nod W y y.leaf (.slice A n c) (.slice B m d) → Calls Tryd.prog 20 #[.int .i64 q, .agg #[.bool y.leaf, .slice A n c, .slice B m d]] W (GaveBE W [] 73) := fun q hq W A n c B m d hW hN => Encode_n W q A B n c m d y.leaf y hN (hG.later hW) (by rw [hN.2.1.len]; omega) (by rw [hN.2.2.len]; omega) hq
  by_cases h1 : RightN g y ∧ anyU y.its = false
  · by_cases h2 : RightN h y ∧ anyU y.its = false
    · obtain ⟨k1, rfl, _⟩ := h1.1.nat
      obtain ⟨k2, rfl, _⟩ := h2.1.nat
      refine gens_yes hal w k1 k2 f A B n c m d y hG hN (by omega) (by omega) (by omega) _ _ (ey _ h1) (ey _ h2) (fun W v hW hs => Decode_y W v k1 y (hG.later hW) hs h1 (by omega) (by omega)) (fun W v hW hs => Decode_y W v k2 y (hG.later hW) hs h2 (by omega) (by omega)) ?_
      intro e
      have e1 := (page_back h1.1 h1.2 (by omega) (by omega)).2.1
      have e2 := (page_back h2.1 h2.2 (by omega) (by omega)).2.1
      rw [e, e2] at e1
      omega
    · exact gens_no hal w g h f A B n c m d y hG hN (by omega) (by omega) (by omega) _ _ 0 73 (ey _ h1) (en _ h2) (.inr (by decide))
  · by_cases h2 : RightN h y ∧ anyU y.its = false
    · exact gens_no hal w g h f A B n c m d y hG hN (by omega) (by omega) (by omega) _ _ 73 0 (en _ h1) (ey _ h2) (.inl (by decide))
    · exact gens_no hal w g h f A B n c m d y hG hN (by omega) (by omega) (by omega) _ _ 73 73 (en _ h1) (en _ h2) (.inl (by decide))
end Go.Proofs.YtnmfhadmkgndmaaDoor
