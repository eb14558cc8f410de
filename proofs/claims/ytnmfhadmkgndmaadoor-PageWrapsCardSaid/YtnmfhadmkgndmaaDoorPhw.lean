/-
  PageHeads: the walk.
-/
import Derived.Test.YtnmfhadmkgndmaaDoorHeq
import Derived.Test.YtnmfhadmkgndmaaDoorGa
set_option linter.unusedVariables false
namespace Go.Proofs.YtnmfhadmkgndmaaDoor
open Go.RowKit

theorem few_c (w : World) (A : Option Addr) (n c : Nat) (b : Bool) (hb : decide (n ≤ 2000) = b) : Calls Tryd.prog 10 #[.slice A n c] w fun e w' => e = .returned (.bool b) ∧ w = w' := by
  subst hb
  by_cases h : n ≤ 2000
  · have hi : (n : Int) ≤ 2000 := by omega
    rw [decide_eq_true h]
    go_enter Tryd.func10, Tryd.ntmps10
    go_wp2
    go_ret
    exact ⟨by simp [], rfl⟩
  · have hi : ¬ (n : Int) ≤ 2000 := by omega
    rw [decide_eq_false h]
    go_enter Tryd.func10, Tryd.ntmps10
    go_wp2
    go_ret
    exact ⟨by first | (simp; done) | (simp; omega), rfl⟩
set_option maxRecDepth 100000 in
set_option maxHeartbeats 6400000 in
theorem heads_c (hal : ∀ W, Gens W → Calls Tryd.prog 11 #[] W (Told W (.bool true))) (w : World) (A : Option Addr) (n c : Nat) (b : Bytes) (hG : Gens w) (hs : Src w (.slice A n c) b) (hne : n = b.length) : Calls Tryd.prog 3 #[.slice A n c] w (Told w (.bool true)) := by
  have HAL : Hid (∀ W, Only (w.heap.size ≤ ·) w W → Calls Tryd.prog 11 #[] W (Told W (.bool true))) := Lib.hid fun W hW => hal W (hG.later hW)
  have HO : Hid (Only (w.heap.size ≤ ·) w w) := Lib.hid (Only.refl _ w)
  obtain ⟨q, hq⟩ : ∃ q, decide (n ≤ 2000) = q := ⟨_, rfl⟩
  have HFW : Hid (∀ W, Calls Tryd.prog 10 #[.slice A n c] W fun e w' => e = .returned (.bool q) ∧ W = w') := Lib.hid fun W => few_c W A n c q hq
  cases q
  · clear hs hG hal hq hne
    go_enter Tryd.func3, Tryd.ntmps3
    go_wp2_with (first
      | (go_at_call 10; (with_reducible refine (HFW.out _).mono ?_); rintro ee w1 ⟨rfl, rfl⟩)
      | (go_at_call 11; (with_reducible refine (HAL.out _ HO.out).mono ?_); rintro ee w2 ⟨rfl, ho⟩; (replace HO := Lib.hid (on_new HO.out ho)); clear ho))
    go_ret
    exact ⟨rfl, HO.out⟩
  have hn2 : n ≤ 2000 := by rwa [decide_eq_true_eq] at hq
  have HP : Hid (∀ W, Only (w.heap.size ≤ ·) w W → Calls Tryd.prog 12 #[.slice A n c] W (Told W (hdV b))) := Lib.hid fun W hW => HeadOf_c W _ b (hG.later hW) (hs.later hW) (by omega)
  have HR : Hid (∀ W, Only (w.heap.size ≤ ·) w W → Calls Tryd.prog 13 #[.slice A n c] W (Told W (hdV b))) := Lib.hid fun W hW => by rw [hd_eq]; exact rHeadOf_c W _ b (hs.later hW) (by omega)
  have HBD : Hid (∀ W, Only (w.heap.size ≤ ·) w W → Calls Tryd.prog 16 #[.slice A n c] W (GaveB W (bodyOf b))) := Lib.hid fun W hW => Body_c W _ b (hG.later hW) (hs.later hW) (by omega)
  obtain ⟨BV, hBV⟩ : ∃ x, x = bodyOf b := ⟨_, rfl⟩
  rw [← hBV] at HBD
  by_cases he : hdE b = 0
  · obtain ⟨e1, e2, e3⟩ := hdV_ok he
    rw [e1] at HP HR
    unfold hdOk at HP HR
    have HGE := Lib.hid e2
    obtain ⟨gv, hgv⟩ : ∃ x, x = hdG b := ⟨_, rfl⟩
    rw [← hgv] at HP HR HGE
    generalize hdK b = kv at HP HR
    generalize hdN b = nv at HP HR
    generalize hdX b = xv at HP HR
    by_cases h256 : n = 256
    · have HBE : Hid (BV = b.drop (tr (gv : Int) 8 16 16).toNat) := Lib.hid (by rw [hBV, hgv]; unfold bodyOf; rw [if_pos ⟨he, by omega⟩])
      obtain ⟨bl, o, rfl⟩ : ∃ bl o, A = some ⟨bl, o, none⟩ := by
        obtain ⟨A', c', e, ht, _⟩ := hs
        obtain ⟨ad, ea, hcell⟩ := ht.2 (by omega)
        simp only [Value.slice.injEq] at e
        have e0 := ht.src ad ea 0 (.int .u8 (b[0]'(by omega)).toNat) (by unfold cb; rw [List.getElem?_map, List.getElem?_eq_getElem (by omega)]; rfl)
        have ee : ad.add 0 = ad := by cases ad; simp [Addr.add]
        rw [ee] at e0
        exact ⟨_, _, (e.1.trans ea).trans (congrArg some (spotF e0))⟩
      have hcap : n ≤ c := by
        obtain ⟨A', c', e, _, _, hc, _⟩ := hs
        simp only [Value.slice.injEq] at e
        omega
      subst h256
      have y1 : (256 : Int) ≤ (c : Int) := by omega
      rcases gen_three HGE.out with hgg | hgg | hgg
      · obtain rfl : gv = 1 := hgg
        have HCP : Hid (∀ W, Calls Tryd.prog 14 #[.int .i64 1] W fun e w' => e = .returned (.int .i64 248) ∧ W = w') := Lib.hid fun W => rCap_c W 1
        have HSL : Hid (∀ W, Only (w.heap.size ≤ ·) w W → Src W (.slice (some ⟨bl, o + 8, none⟩) (256 - 8) (c - 8)) BV) := Lib.hid fun W hW => by
          have h := src_part (hs.later hW) (a := 8) (z := 256) (by omega) (by omega)
          rw [HBE.out]
          rwa [show (b.drop 8).take (256 - 8) = b.drop (tr (1 : Int) 8 16 16).toNat from List.take_of_length_le (by rw [List.length_drop]; omega)] at h
        clear hs hG hal hq hBV he e1 e2 e3 hgv hne HGE
        go_enter Tryd.func3, Tryd.ntmps3
        go_wp2_with (first
          | (go_at_call 10; (with_reducible refine (HFW.out _).mono ?_); rintro ee w1 ⟨rfl, rfl⟩)
          | (go_at_call 12; (with_reducible refine (HP.out _ HO.out).mono ?_); rintro ee w2 ⟨rfl, ho⟩; (replace HO := Lib.hid ((on_new HO.out ho).alloc (fun _ h => h) (.cells #[.int .i64 (kv : Nat), .int .i64 1, .int .i64 (nv : Nat), .int .i64 (xv : Nat)] 26))); clear ho)
          | (go_at_call 13; (with_reducible refine (HR.out _ HO.out).mono ?_); rintro ee w3 ⟨rfl, ho⟩; have HB := Lib.hid ((Blk.new w2 26 [.int .i64 (kv : Nat), .int .i64 1, .int .i64 (nv : Nat), .int .i64 (xv : Nat)]).later ho); (replace HO := Lib.hid (on_new HO.out ho)); clear ho)
          | (go_at_call 14; (with_reducible refine (HCP.out _).mono ?_); rintro ee w5 ⟨rfl, rfl⟩)
          | (go_at_call 11; (with_reducible refine (HAL.out _ (HO.out.alloc (fun _ h => h) _)).mono ?_); rintro ee w4 ⟨rfl, ho⟩; have HC := Lib.hid ((Blk.new w3 30 [.int .i64 (kv : Nat), .int .i64 1, .int .i64 (nv : Nat), .int .i64 (xv : Nat)]).later ho); (replace HB := Lib.hid ((HB.out.alloc _).later ho)); (replace HO := Lib.hid (on_new (HO.out.alloc (fun _ h => h) _) ho)); clear ho; (obtain ⟨a0, a1, a2, a3⟩ := HB.out.four); (obtain ⟨d0, d1, d2, d3⟩ := HC.out.four))
          | (go_at_call 16; (with_reducible refine (HBD.out _ HO.out).mono ?_); rintro ee w6 ⟨v1, rfl, hsv, ho⟩; have HSV := Lib.hid hsv; (replace HO := Lib.hid (on_new HO.out ho)); clear hsv ho)
          | (go_at_call 15; (with_reducible refine (Equal_b _ _ _ BV BV true HSV.out (HSL.out _ HO.out) (by simp)).mono ?_); rintro ee w7 ⟨rfl, rfl⟩))
        go_ret
        exact ⟨by first | rfl | simp, HO.out⟩
      · obtain rfl : gv = 2 := hgg
        have HCP : Hid (∀ W, Calls Tryd.prog 14 #[.int .i64 2] W fun e w' => e = .returned (.int .i64 240) ∧ W = w') := Lib.hid fun W => rCap_c W 2
        have HSL : Hid (∀ W, Only (w.heap.size ≤ ·) w W → Src W (.slice (some ⟨bl, o + 16, none⟩) (256 - 16) (c - 16)) BV) := Lib.hid fun W hW => by
          have h := src_part (hs.later hW) (a := 16) (z := 256) (by omega) (by omega)
          rw [HBE.out]
          rwa [show (b.drop 16).take (256 - 16) = b.drop (tr (2 : Int) 8 16 16).toNat from List.take_of_length_le (by rw [List.length_drop]; omega)] at h
        clear hs hG hal hq hBV he e1 e2 e3 hgv hne HGE
        go_enter Tryd.func3, Tryd.ntmps3
        go_wp2_with (first
          | (go_at_call 10; (with_reducible refine (HFW.out _).mono ?_); rintro ee w1 ⟨rfl, rfl⟩)
          | (go_at_call 12; (with_reducible refine (HP.out _ HO.out).mono ?_); rintro ee w2 ⟨rfl, ho⟩; (replace HO := Lib.hid ((on_new HO.out ho).alloc (fun _ h => h) (.cells #[.int .i64 (kv : Nat), .int .i64 2, .int .i64 (nv : Nat), .int .i64 (xv : Nat)] 26))); clear ho)
          | (go_at_call 13; (with_reducible refine (HR.out _ HO.out).mono ?_); rintro ee w3 ⟨rfl, ho⟩; have HB := Lib.hid ((Blk.new w2 26 [.int .i64 (kv : Nat), .int .i64 2, .int .i64 (nv : Nat), .int .i64 (xv : Nat)]).later ho); (replace HO := Lib.hid (on_new HO.out ho)); clear ho)
          | (go_at_call 14; (with_reducible refine (HCP.out _).mono ?_); rintro ee w5 ⟨rfl, rfl⟩)
          | (go_at_call 11; (with_reducible refine (HAL.out _ (HO.out.alloc (fun _ h => h) _)).mono ?_); rintro ee w4 ⟨rfl, ho⟩; have HC := Lib.hid ((Blk.new w3 30 [.int .i64 (kv : Nat), .int .i64 2, .int .i64 (nv : Nat), .int .i64 (xv : Nat)]).later ho); (replace HB := Lib.hid ((HB.out.alloc _).later ho)); (replace HO := Lib.hid (on_new (HO.out.alloc (fun _ h => h) _) ho)); clear ho; (obtain ⟨a0, a1, a2, a3⟩ := HB.out.four); (obtain ⟨d0, d1, d2, d3⟩ := HC.out.four))
          | (go_at_call 16; (with_reducible refine (HBD.out _ HO.out).mono ?_); rintro ee w6 ⟨v1, rfl, hsv, ho⟩; have HSV := Lib.hid hsv; (replace HO := Lib.hid (on_new HO.out ho)); clear hsv ho)
          | (go_at_call 15; (with_reducible refine (Equal_b _ _ _ BV BV true HSV.out (HSL.out _ HO.out) (by simp)).mono ?_); rintro ee w7 ⟨rfl, rfl⟩))
        go_ret
        exact ⟨by first | rfl | simp, HO.out⟩
      · obtain rfl : gv = 3 := hgg
        have HCP : Hid (∀ W, Calls Tryd.prog 14 #[.int .i64 3] W fun e w' => e = .returned (.int .i64 240) ∧ W = w') := Lib.hid fun W => rCap_c W 3
        have HSL : Hid (∀ W, Only (w.heap.size ≤ ·) w W → Src W (.slice (some ⟨bl, o + 16, none⟩) (256 - 16) (c - 16)) BV) := Lib.hid fun W hW => by
          have h := src_part (hs.later hW) (a := 16) (z := 256) (by omega) (by omega)
          rw [HBE.out]
          rwa [show (b.drop 16).take (256 - 16) = b.drop (tr (3 : Int) 8 16 16).toNat from List.take_of_length_le (by rw [List.length_drop]; omega)] at h
        clear hs hG hal hq hBV he e1 e2 e3 hgv hne HGE
        go_enter Tryd.func3, Tryd.ntmps3
        go_wp2_with (first
          | (go_at_call 10; (with_reducible refine (HFW.out _).mono ?_); rintro ee w1 ⟨rfl, rfl⟩)
          | (go_at_call 12; (with_reducible refine (HP.out _ HO.out).mono ?_); rintro ee w2 ⟨rfl, ho⟩; (replace HO := Lib.hid ((on_new HO.out ho).alloc (fun _ h => h) (.cells #[.int .i64 (kv : Nat), .int .i64 3, .int .i64 (nv : Nat), .int .i64 (xv : Nat)] 26))); clear ho)
          | (go_at_call 13; (with_reducible refine (HR.out _ HO.out).mono ?_); rintro ee w3 ⟨rfl, ho⟩; have HB := Lib.hid ((Blk.new w2 26 [.int .i64 (kv : Nat), .int .i64 3, .int .i64 (nv : Nat), .int .i64 (xv : Nat)]).later ho); (replace HO := Lib.hid (on_new HO.out ho)); clear ho)
          | (go_at_call 14; (with_reducible refine (HCP.out _).mono ?_); rintro ee w5 ⟨rfl, rfl⟩)
          | (go_at_call 11; (with_reducible refine (HAL.out _ (HO.out.alloc (fun _ h => h) _)).mono ?_); rintro ee w4 ⟨rfl, ho⟩; have HC := Lib.hid ((Blk.new w3 30 [.int .i64 (kv : Nat), .int .i64 3, .int .i64 (nv : Nat), .int .i64 (xv : Nat)]).later ho); (replace HB := Lib.hid ((HB.out.alloc _).later ho)); (replace HO := Lib.hid (on_new (HO.out.alloc (fun _ h => h) _) ho)); clear ho; (obtain ⟨a0, a1, a2, a3⟩ := HB.out.four); (obtain ⟨d0, d1, d2, d3⟩ := HC.out.four))
          | (go_at_call 16; (with_reducible refine (HBD.out _ HO.out).mono ?_); rintro ee w6 ⟨v1, rfl, hsv, ho⟩; have HSV := Lib.hid hsv; (replace HO := Lib.hid (on_new HO.out ho)); clear hsv ho)
          | (go_at_call 15; (with_reducible refine (Equal_b _ _ _ BV BV true HSV.out (HSL.out _ HO.out) (by simp)).mono ?_); rintro ee w7 ⟨rfl, rfl⟩))
        go_ret
        exact ⟨by first | rfl | simp, HO.out⟩
    · have hni : ((n : Int) == 256) = false := by rw [beq_eq_false_iff_ne]; omega
      obtain rfl : BV = [] := by rw [hBV]; unfold bodyOf; rw [if_neg (by omega)]
      clear hs hG hal hq hBV he e1 e2 e3 hgv hne
      go_enter Tryd.func3, Tryd.ntmps3
      go_wp2_with (first
        | (go_at_call 10; (with_reducible refine (HFW.out _).mono ?_); rintro ee w1 ⟨rfl, rfl⟩)
        | (go_at_call 12; (with_reducible refine (HP.out _ HO.out).mono ?_); rintro ee w2 ⟨rfl, ho⟩; (replace HO := Lib.hid ((on_new HO.out ho).alloc (fun _ h => h) (.cells #[.int .i64 (kv : Nat), .int .i64 (gv : Nat), .int .i64 (nv : Nat), .int .i64 (xv : Nat)] 26))); clear ho)
        | (go_at_call 13; (with_reducible refine (HR.out _ HO.out).mono ?_); rintro ee w3 ⟨rfl, ho⟩; have HB := Lib.hid ((Blk.new w2 26 [.int .i64 (kv : Nat), .int .i64 (gv : Nat), .int .i64 (nv : Nat), .int .i64 (xv : Nat)]).later ho); (replace HO := Lib.hid (on_new HO.out ho)); clear ho)
        | (go_at_call 11; (with_reducible refine (HAL.out _ (HO.out.alloc (fun _ h => h) _)).mono ?_); rintro ee w4 ⟨rfl, ho⟩; have HC := Lib.hid ((Blk.new w3 30 [.int .i64 (kv : Nat), .int .i64 (gv : Nat), .int .i64 (nv : Nat), .int .i64 (xv : Nat)]).later ho); (replace HB := Lib.hid ((HB.out.alloc _).later ho)); (replace HO := Lib.hid (on_new (HO.out.alloc (fun _ h => h) _) ho)); clear ho; (obtain ⟨a0, a1, a2, a3⟩ := HB.out.four); (obtain ⟨d0, d1, d2, d3⟩ := HC.out.four))
        | (go_at_call 16; (with_reducible refine (HBD.out _ HO.out).mono ?_); rintro ee w6 ⟨v1, rfl, hsv, ho⟩; have HSV := Lib.hid hsv; (replace HO := Lib.hid (on_new HO.out ho)); clear hsv ho)
        | (go_at_call 15; (with_reducible refine (Equal_b _ _ _ [] [] true HSV.out (Src.nil_ _) (by simp)).mono ?_); rintro ee w7 ⟨rfl, rfl⟩))
      go_ret
      exact ⟨by first | rfl | simp, HO.out⟩
  · have e1 := hdV_no he
    rw [e1] at HP HR
    unfold hdBad at HP HR
    obtain rfl : BV = [] := by rw [hBV]; unfold bodyOf; rw [if_neg (fun h => he h.1)]
    obtain ⟨z, hz⟩ : ∃ z, z = hdE b := ⟨_, rfl⟩
    rw [← hz] at HP HR he
    have hzi : (z == 0) = false := by rw [beq_eq_false_iff_ne]; exact he
    clear hs hG hal hq hBV e1 hz he hne
    go_enter Tryd.func3, Tryd.ntmps3
    go_wp2_with (first
      | (go_at_call 10; (with_reducible refine (HFW.out _).mono ?_); rintro ee w1 ⟨rfl, rfl⟩)
      | (go_at_call 12; (with_reducible refine (HP.out _ HO.out).mono ?_); rintro ee w2 ⟨rfl, ho⟩; (replace HO := Lib.hid ((on_new HO.out ho).alloc (fun _ h => h) (.cells #[.int .i64 0, .int .i64 0, .int .i64 0, .int .i64 0] 26))); clear ho)
      | (go_at_call 13; (with_reducible refine (HR.out _ HO.out).mono ?_); rintro ee w3 ⟨rfl, ho⟩; have HB := Lib.hid ((Blk.new w2 26 [.int .i64 0, .int .i64 0, .int .i64 0, .int .i64 0]).later ho); (replace HO := Lib.hid (on_new HO.out ho)); clear ho)
      | (go_at_call 11; (with_reducible refine (HAL.out _ (HO.out.alloc (fun _ h => h) _)).mono ?_); rintro ee w4 ⟨rfl, ho⟩; have HC := Lib.hid ((Blk.new w3 30 [.int .i64 0, .int .i64 0, .int .i64 0, .int .i64 0]).later ho); (replace HB := Lib.hid ((HB.out.alloc _).later ho)); (replace HO := Lib.hid (on_new (HO.out.alloc (fun _ h => h) _) ho)); clear ho; (obtain ⟨a0, a1, a2, a3⟩ := HB.out.four); (obtain ⟨d0, d1, d2, d3⟩ := HC.out.four))
      | (go_at_call 16; (with_reducible refine (HBD.out _ HO.out).mono ?_); rintro ee w6 ⟨v1, rfl, hsv, ho⟩; have HSV := Lib.hid hsv; (replace HO := Lib.hid (on_new HO.out ho)); clear hsv ho)
      | (go_at_call 15; (with_reducible refine (Equal_b _ _ _ [] [] true HSV.out (Src.nil_ _) (by simp)).mono ?_); rintro ee w7 ⟨rfl, rfl⟩))
    go_ret
    exact ⟨by first | rfl | simp, HO.out⟩
end Go.Proofs.YtnmfhadmkgndmaaDoor
