/-
  PageDecodes: the document's Decode, and the walk.
-/
import Derived.Test.YtoghojgajpfkkaaGreatDoorRde
import Derived.Test.YtoghojgajpfkkaaGreatDoorGnw
import Derived.Test.YtoghojgajpfkkaaGreatDoorPhw
import Derived.Test.YtoghojgajpfkkaaGreatDoorGb
set_option linter.unusedVariables false
namespace Go.Proofs.YtoghojgajpfkkaaGreatDoor
open Go.RowKit

theorem seal_eq {b : Bytes} (hl : b.length = 256) : sealB b 4 = put4 b 4 := by
  unfold sealB
  rw [if_pos (by rw [hl]; rfl)]
  rfl
theorem rDecode_c (w : World) (v : Value) (b : Bytes) (hs : Src w v b) (hn : b.length ≤ 65536) : Calls Tryz.prog 7 #[v] w (GaveD w b) := by
  obtain ⟨A, c, rfl, ht, _, hc, _⟩ := id hs
  have hno : nhE b ≠ 0 → ¬ DecOk b := fun h h2 => h h2.1
  have hif : nhE b ≠ 0 → nhE b = if nhE b = 0 then 72 else nhE b := fun h => by rw [if_neg h]
  by_cases hl : b.length ≠ 256
  · have e : nhE b = 72 := by unfold nhE; rw [if_pos hl]
    exact rd_len w A _ c b hl (hno (by rw [e]; decide)) (by rw [e]; decide)
  have hl' : b.length = 256 := Classical.byContradiction hl
  have hH : ∀ W, Only (w.heap.size ≤ ·) w W → Calls Tryz.prog 19 #[.slice A 256 c] W (Told W (hdV b)) := fun W hW => by
    have h := rHeadOf_c W _ b (hs.later hW) hn
    rwa [hl', ← hd_eq] at h
  have hL : ∀ W, Only (w.heap.size ≤ ·) w W → Calls Tryz.prog 20 #[.slice A 256 c, .int .i64 4] W (GaveB W (sealB b 4)) := fun W hW => by
    have h := rSeal_s W _ b (hs.later hW) hn
    rwa [hl'] at h
  have hS : ∀ W, Only (w.heap.size ≤ ·) w W → Src W (.slice A 256 c) b := fun W hW => by
    have h := hs.later hW
    rwa [hl'] at h
  rw [hl'] at hc ⊢
  by_cases he : hdE b ≠ 0
  · have e : nhE b = hdE b := by unfold nhE; rw [if_neg hl, if_pos he]
    rw [hdV_no he] at hH
    exact rd_bad w A c b _ he hH (hno (by rw [e]; exact he)) (by rw [← e]; exact hif (by rw [e]; exact he))
  have he' : hdE b = 0 := Classical.byContradiction he
  obtain ⟨k1, k2, k3⟩ := hdV_ok he'
  rw [k1] at hH
  unfold hdOk at hH
  by_cases hk : hdK b ≠ 76 ∧ hdK b ≠ 66
  · have e : nhE b = 70 := by unfold nhE; rw [if_neg hl, if_neg he, if_pos hk]
    exact rd_kind w A c b _ _ _ _ (by omega) (by omega) hH (hno (by rw [e]; decide)) (by rw [e]; decide)
  have hg3 := gen_three k2
  by_cases hsum : hdG b ≠ 1 ∧ isSealed b 4 = false
  · have e : nhE b = 71 := by unfold nhE; rw [if_neg hl, if_neg he, if_neg hk, if_pos hsum]
    refine rd_sum w A c b _ _ _ _ (sealB b 4) (by omega) (by omega) ?_ hH hL hS (hno (by rw [e]; decide)) (by rw [e]; decide)
    rw [seal_eq hl']
    intro h
    have h2 := same_put4 b 4 (by omega)
    rw [show ((4 : Nat) : Int) = 4 from rfl, hsum.2] at h2
    exact absurd h.symm (of_decide_eq_false h2.symm)
  have e : nhE b = 0 := by unfold nhE; rw [if_neg hl, if_neg he, if_neg hk, if_neg hsum]
  obtain ⟨bl, o, rfl⟩ : ∃ bl o, A = some ⟨bl, o, none⟩ := by
    obtain ⟨ad, ea, hcell⟩ := ht.2 (by omega)
    have e0 := ht.src ad ea 0 (.int .u8 (b[0]'(by omega)).toNat) (by unfold cb; rw [List.getElem?_map, List.getElem?_eq_getElem (by omega)]; rfl)
    have ee : ad.add 0 = ad := by cases ad; simp [Addr.add]
    rw [ee] at e0
    exact ⟨_, _, ea.trans (congrArg some (spotF e0))⟩
  obtain ⟨q, hq, _, hq4, hq8⟩ := idw k2
  obtain ⟨d1, d2⟩ := doc_dec hq hq4 hq8 e
  have hbl := body_len b
  have hB : ∀ W hd, (tr (hdG b : Int) 8 16 16).toNat = hd → hd ≤ 256 → Only (w.heap.size ≤ ·) w W → Src W (.slice (some ⟨bl, o + hd, none⟩) (256 - hd) (c - hd)) (bodyOf b) := fun W hd e1 e2 hW => by
    have h := src_part (hS W hW) (a := hd) (z := 256) e2 (by omega)
    rwa [show (b.drop hd).take (256 - hd) = bodyOf b from by unfold bodyOf; rw [if_pos ⟨he', hl'⟩, e1]; exact List.take_of_length_le (by rw [List.length_drop]; omega)] at h
  have hF : ∀ W u, Only (w.heap.size ≤ ·) w W → Src W u (bodyOf b) → Calls Tryz.prog 21 #[.agg #[.int .i64 (hdK b : Nat), .int .i64 (hdG b : Nat), .int .i64 (hdN b : Nat), .int .i64 (hdX b : Nat)], u] W (GaveFm W (FormOk (hdG b) q (isLf b) (hdN b) (hdX b) (bodyOf b))) := fun W u hW hu =>
    rform_c W u (bodyOf b) (hdG b) (hdX b) (hdK b) q (hdN b) (by omega) hq hq4 hq8 hu hbl (hdN_le b)
  have hC : ∀ W, Calls Tryz.prog 22 #[.int .i64 (hdG b : Nat)] W fun e w' => e = .returned (.int .i64 (tr (hdG b : Int) 248 240 240)) ∧ W = w' := fun W => rCap_c W _
  have hsb : hdG b ≠ 1 → sealB b 4 = b := fun h1 => by
    have h2 := same_put4 b 4 (by omega)
    rw [show ((4 : Nat) : Int) = 4 from rfl] at h2
    cases h3 : isSealed b 4
    · exact absurd ⟨h1, h3⟩ hsum
    · rw [h3] at h2
      rw [seal_eq hl']
      exact (of_decide_eq_true h2.symm).symm
  have hPy := d1
  have hPn : DecOk b → ∃ y, FormOk (hdG b) q (isLf b) (hdN b) (hdX b) (bodyOf b) y := fun h => ⟨_, d2 h⟩
  obtain ⟨P, hP⟩ : ∃ P, P = FormOk (hdG b) q (isLf b) (hdN b) (hdX b) (bodyOf b) := ⟨_, rfl⟩
  rw [← hP] at hF hPy hPn
  by_cases h1 : hdG b = 1
  · rw [h1] at hH hF hC hB
    rcases (by omega : hdK b = 76 ∨ hdK b = 66) with h76 | h76
    · rw [h76] at hH hF
      exact rd_go1L w bl o c b (bodyOf b) (sealB b 4) _ _ P hc hH hL hS hC (fun W hW => hB W 8 rfl (by omega) hW) hF e (by rw [h1]; rfl) hPy hPn
    · rw [h76] at hH hF
      exact rd_go1K w bl o c b (bodyOf b) (sealB b 4) _ _ P hc hH hL hS hC (fun W hW => hB W 8 rfl (by omega) hW) hF e (by rw [h1]; rfl) hPy hPn
  · have e3 : tr (hdG b : Int) 248 240 240 = 240 := by rcases hg3 with h | h | h <;> first | exact absurd h h1 | (rw [h]; rfl)
    have e4 : (tr (hdG b : Int) 8 16 16).toNat = 16 := by rcases hg3 with h | h | h <;> first | exact absurd h h1 | (rw [h]; rfl)
    rw [e3] at hC
    rcases (by omega : hdK b = 76 ∨ hdK b = 66) with h76 | h76
    · rw [h76] at hH hF
      exact rd_go2L w bl o c b (bodyOf b) (sealB b 4) _ _ _ P hc (by omega) (hsb h1) hH hL hS hC (fun W hW => hB W 16 e4 (by omega) hW) hF e rfl hPy hPn
    · rw [h76] at hH hF
      exact rd_go2K w bl o c b (bodyOf b) (sealB b 4) _ _ _ P hc (by omega) (hsb h1) hH hL hS hC (fun W hW => hB W 16 e4 (by omega) hW) hF e rfl hPy hPn
/-- A generation, a node, an error. -/
def GaveQ (w : World) (g : Int) (x : Nd) (z : Int) (e : Ending) (w' : World) : Prop := ∃ (A : Option Addr) (n c : Nat) (B : Option Addr) (m d : Nat), e = .returned (.tuple #[.int .i64 g, .agg #[.bool x.leaf, .slice A n c, .slice B m d], .int .i64 z]) ∧
  Nod w' x x.leaf (.slice A n c) (.slice B m d) ∧ Only (w.heap.size ≤ ·) w w'
theorem GaveD.yes {w w' : World} {b : Bytes} {e : Ending} (h : GaveD w b e w') (hd : DecOk b) : GaveQ w (hdG b : Nat) (dcN b) 0 e w' := by
  obtain ⟨ok, hok, f, A, n, c, B, m, d, e1, e2, e3⟩ := h
  obtain rfl := hok.2 hd
  rw [if_pos rfl, if_pos rfl] at e1
  rw [if_pos rfl] at e2
  obtain rfl : f = (dcN b).leaf := e2.1
  exact ⟨A, n, c, B, m, d, e1, e2, e3⟩
theorem GaveD.no {w w' : World} {b : Bytes} {e : Ending} (h : GaveD w b e w') (hd : ¬ DecOk b) : GaveQ w 0 zeroN (if nhE b = 0 then 72 else nhE b) e w' := by
  obtain ⟨ok, hok, f, A, n, c, B, m, d, e1, e2, e3⟩ := h
  cases ok
  · obtain rfl : f = zeroN.leaf := e2.1
    exact ⟨A, n, c, B, m, d, e1, e2, e3⟩
  · exact absurd (hok.1 rfl) hd
section
variable (hal : ∀ W, Gens W → Calls Tryz.prog 5 #[] W (Told W (.bool true))) (w : World) (A : Option Addr) (n c : Nat) (b : Bytes) (hG : Gens w)
include hal hG
set_option maxRecDepth 100000 in
set_option maxHeartbeats 3200000 in
theorem decs_out (hn : ¬ n ≤ 2000) : Calls Tryz.prog 3 #[.slice A n c] w (Told w (.bool true)) := by
  have HAL : Hid (∀ W, Only (w.heap.size ≤ ·) w W → Calls Tryz.prog 5 #[] W (Told W (.bool true))) := Lib.hid fun W hW => hal W (hG.later hW)
  have HO : Hid (Only (w.heap.size ≤ ·) w w) := Lib.hid (Only.refl _ w)
  have HFW : Hid (∀ W, Calls Tryz.prog 4 #[.slice A n c] W fun e w' => e = .returned (.bool false) ∧ W = w') := Lib.hid fun W => few_c W A n c false (decide_eq_false hn)
  clear hG hal hn
  go_enter Tryz.func3, Tryz.ntmps3
  go_wp2_with (first
    | (go_at_call 4; (with_reducible refine (HFW.out _).mono ?_); rintro ee w1 ⟨rfl, rfl⟩)
    | (go_at_call 5; (with_reducible refine (HAL.out _ HO.out).mono ?_); rintro ee w5 ⟨rfl, ho⟩; (replace HO := Lib.hid (on_new HO.out ho)); clear ho))
  go_ret
  exact ⟨rfl, HO.out⟩
set_option maxRecDepth 100000 in
set_option maxHeartbeats 12800000 in
theorem decs_no (z : Int) (hz : z ≠ 0) (x : Nd) (h1 : x.its.length ≤ 1000) (h2 : x.kds.length ≤ 1000) (hn : n ≤ 2000)
    (hD : ∀ W, Only (w.heap.size ≤ ·) w W → Calls Tryz.prog 6 #[.slice A n c] W (GaveQ W 0 x z))
    (hR : ∀ W, Only (w.heap.size ≤ ·) w W → Calls Tryz.prog 7 #[.slice A n c] W (GaveQ W 0 x z)) : Calls Tryz.prog 3 #[.slice A n c] w (Told w (.bool true)) := by
  have HAL : Hid (∀ W, Only (w.heap.size ≤ ·) w W → Calls Tryz.prog 5 #[] W (Told W (.bool true))) := Lib.hid fun W hW => hal W (hG.later hW)
  have HO : Hid (Only (w.heap.size ≤ ·) w w) := Lib.hid (Only.refl _ w)
  have HFW : Hid (∀ W, Calls Tryz.prog 4 #[.slice A n c] W fun e w' => e = .returned (.bool true) ∧ W = w') := Lib.hid fun W => few_c W A n c true (decide_eq_true hn)
  have HD := Lib.hid hD
  have HR := Lib.hid hR
  have HSM : Hid (x.its.length ≤ 1000 ∧ x.kds.length ≤ 1000 ∧ True) := Lib.hid ⟨h1, h2, trivial⟩
  have b1 : (z != 0) = true := by rw [bne_iff_ne]; exact hz
  clear hn hD hR hG hal h1 h2 hz
  go_enter Tryz.func3, Tryz.ntmps3
  go_upto_region 5 with (first
    | (go_at_call 4; (with_reducible refine (HFW.out _).mono ?_); rintro ee w1 ⟨rfl, rfl⟩)
    | (go_at_call 6; (with_reducible refine (HD.out _ HO.out).mono ?_); rintro ee w3 ⟨A3, n3, c3, B3, m3, d3, rfl, hn3, ho⟩; have HN3 := Lib.hid (hn3.later ((Only.refl (w3.heap.size ≤ ·) w3).alloc (fun _ h => h) (.cells #[.bool x.leaf, .slice A3 n3 c3, .slice B3 m3 d3] 28))); have HB3 := Lib.hid (Blk.new w3 28 [.bool x.leaf, .slice A3 n3 c3, .slice B3 m3 d3]); have ho2 := ho.alloc (fun _ h => h) (.cells #[.bool x.leaf, .slice A3 n3 c3, .slice B3 m3 d3] 28); (replace HO := Lib.hid (on_new HO.out ho2)); clear ho ho2 hn3)
    | (go_at_call 7; (with_reducible refine (HR.out _ HO.out).mono ?_); rintro ee w4 ⟨A4, n4, c4, B4, m4, d4, rfl, hn4, ho⟩; have HN4 := Lib.hid (hn4.later ((Only.refl (w4.heap.size ≤ ·) w4).alloc (fun _ h => h) (.cells #[.bool x.leaf, .slice A4 n4 c4, .slice B4 m4 d4] 35))); have HB4 := Lib.hid (Blk.new w4 35 [.bool x.leaf, .slice A4 n4 c4, .slice B4 m4 d4]); have ho2 := ho.alloc (fun _ h => h) (.cells #[.bool x.leaf, .slice A4 n4 c4, .slice B4 m4 d4] 35); (replace HO := Lib.hid (on_new HO.out ho2)); (replace HN3 := Lib.hid (HN3.out.later ho2)); (replace HB3 := Lib.hid (HB3.out.later ho2)); clear ho ho2 hn4))
  replace HB3 := Lib.hid HB3.out.drew
  replace HB4 := Lib.hid HB4.out.drew
  replace HO := Lib.hid HO.out.drew
  replace HN3 := Lib.hid (HN3.out.later (Only.refl _ _).drew)
  replace HN4 := Lib.hid (HN4.out.later (Only.refl _ _).drew)
  refine wp_region_list (B := [false, false, false, false, false, false, false, false, false, false, false, false, false, false, false]) (S := (fun W => W.cell? ⟨w3.heap.size, 0, none⟩ = some (.bool x.leaf) ∧ W.cell? ⟨w3.heap.size, 1, none⟩ = some (.slice A3 n3 c3) ∧ W.cell? ⟨w3.heap.size, 2, none⟩ = some (.slice B3 m3 d3) ∧ W.cell? ⟨w4.heap.size, 0, none⟩ = some (.bool x.leaf) ∧ W.cell? ⟨w4.heap.size, 1, none⟩ = some (.slice A4 n4 c4) ∧ W.cell? ⟨w4.heap.size, 2, none⟩ = some (.slice B4 m4 d4))) (by kernel_rfl) (by kernel_rfl) (by kernel_rfl) ⟨HB3.out.tri.1, HB3.out.tri.2.1, HB3.out.tri.2.2, HB4.out.tri⟩ (fun hsel hHeld => ?_)
  generalize hwz : World.drew _ = wz at HB3 HB4 HO HN3 HN4 hHeld ⊢
  clear hwz
  have HOZ := Lib.hid (Only.refl (wz.heap.size ≤ ·) wz)
  have KC : Hid (∀ W, Only (wz.heap.size ≤ ·) wz W → W.cell? ⟨w3.heap.size, 0, none⟩ = some (.bool x.leaf) ∧ W.cell? ⟨w3.heap.size, 1, none⟩ = some (.slice A3 n3 c3) ∧ W.cell? ⟨w3.heap.size, 2, none⟩ = some (.slice B3 m3 d3) ∧ W.cell? ⟨w4.heap.size, 0, none⟩ = some (.bool x.leaf) ∧ W.cell? ⟨w4.heap.size, 1, none⟩ = some (.slice A4 n4 c4) ∧ W.cell? ⟨w4.heap.size, 2, none⟩ = some (.slice B4 m4 d4)) := Lib.hid fun W hW => ⟨(HB3.out.later hW).tri.1, (HB3.out.later hW).tri.2.1, (HB3.out.later hW).tri.2.2, (HB4.out.later hW).tri⟩
  refine oneA 0 27 hsel (h := ?_)
  simp only [Act.put, List.setIfInBounds_toArray, List.set_cons_zero, List.set_cons_succ]
  refine oneA 1 28 hsel (h := ?_)
  simp only [Act.put, List.setIfInBounds_toArray, List.set_cons_zero, List.set_cons_succ]
  refine oneA 2 29 hsel (h := ?_)
  simp only [Act.put, List.setIfInBounds_toArray, List.set_cons_zero, List.set_cons_succ]
  refine oneA 3 30 hsel (h := ?_)
  simp only [Act.put, List.setIfInBounds_toArray, List.set_cons_zero, List.set_cons_succ]
  refine oneA 4 31 hsel (h := ?_)
  simp only [Act.put, List.setIfInBounds_toArray, List.set_cons_zero, List.set_cons_succ]
  refine oneA 5 32 hsel (h := ?_)
  simp only [Act.put, List.setIfInBounds_toArray, List.set_cons_zero, List.set_cons_succ]
  refine oneA 6 33 hsel (h := ?_)
  simp only [Act.put, List.setIfInBounds_toArray, List.set_cons_zero, List.set_cons_succ]
  refine oneA 7 34 hsel (h := ?_)
  simp only [Act.put, List.setIfInBounds_toArray, List.set_cons_zero, List.set_cons_succ]
  refine oneA 8 35 hsel (h := ?_)
  simp only [Act.put, List.setIfInBounds_toArray, List.set_cons_zero, List.set_cons_succ]
  refine oneA 9 36 hsel (h := ?_)
  simp only [Act.put, List.setIfInBounds_toArray, List.set_cons_zero, List.set_cons_succ]
  refine oneA 11 38 hsel (h := ?_)
  simp only [Act.put, List.setIfInBounds_toArray, List.set_cons_zero, List.set_cons_succ]
  refine wpAnyL_ready (rs := [10]) (by kernel_rfl) (by kernel_rfl) (by simp) ?_
  refine AllReadyL.cons (o := ?_) ?_ (fun K hK => ?_) AllReadyL.nil
  case refine_2 => (simp only [List.getElem?_cons_succ, List.getElem?_cons_zero]; rfl)
  go_simp
  (go_at_call 9; (with_reducible refine (NOld_c _ A3 B3 n3 c3 m3 d3 x.leaf x (HN3.out.later HOZ.out) HSM.out).mono ?_); rintro ee w9 ⟨A5, n5, c5, B5, m5, d5, rfl, hn5, ho⟩; have HN5 := Lib.hid hn5; (replace HOZ := Lib.hid (on_new HOZ.out ho)); clear ho hn5)
  go_wp2_with (fail)
  clear hHeld
  refine hK.out _ _ (KC.out _ HOZ.out) (fun hHeld => ?_)
  clear hK K
  try simp only [List.set_cons_zero, List.set_cons_succ]
  refine wpAnyL_ready (rs := [12]) (by kernel_rfl) (by kernel_rfl) (by simp) ?_
  refine AllReadyL.cons (o := ?_) ?_ (fun K hK => ?_) AllReadyL.nil
  case refine_2 => (simp only [List.getElem?_cons_succ, List.getElem?_cons_zero]; rfl)
  go_simp
  (obtain rfl : n5 = n4 := by rw [HN5.out.2.1.len, HN4.out.2.1.len])
  (obtain rfl : m5 = m4 := by rw [HN5.out.2.2.len, HN4.out.2.2.len])
  (have HNQ : Hid (n5 ≤ 1000 ∧ m5 ≤ 1000) := Lib.hid ⟨by rw [HN4.out.2.1.len]; exact HSM.out.1, by rw [HN4.out.2.2.len]; exact HSM.out.2.1⟩)
  (go_at_call 8; (with_reducible refine (DSame_eq _ x.leaf A5 B5 A4 B4 _ c5 _ d5 c4 d4 x HN5.out (HN4.out.later HOZ.out) HNQ.out.1 HNQ.out.2).mono ?_); rintro ee w10 ⟨rfl, ho⟩; (replace HOZ := Lib.hid (on_new HOZ.out ho)); clear ho)
  go_wp2_with (fail)
  clear hHeld
  refine hK.out _ _ (KC.out _ HOZ.out) (fun hHeld => ?_)
  clear hK K
  try simp only [List.set_cons_zero, List.set_cons_succ]
  refine oneA 13 40 hsel (h := ?_)
  simp only [Act.put, List.setIfInBounds_toArray, List.set_cons_zero, List.set_cons_succ]
  refine oneA 14 41 hsel (h := ?_)
  simp only [Act.put, List.setIfInBounds_toArray, List.set_cons_zero, List.set_cons_succ]
  refine wpAnyL_done (by kernel_rfl) (by kernel_rfl) ?_ _
  clear hsel hHeld
  go_wp2_with (go_at_call 5; (with_reducible refine (HAL.out _ (on_new HO.out HOZ.out)).mono ?_); rintro ee w5 ⟨rfl, ho⟩; (replace HOZ := Lib.hid (on_new HOZ.out ho)); clear ho)
  go_ret
  exact ⟨rfl, on_new HO.out HOZ.out⟩
set_option maxRecDepth 100000 in
set_option maxHeartbeats 12800000 in
theorem decs_yes (g : Int) (x : Nd) (h1 : x.its.length ≤ 1000) (h2 : x.kds.length ≤ 1000) (hn : n ≤ 2000)
    (hD : ∀ W, Only (w.heap.size ≤ ·) w W → Calls Tryz.prog 6 #[.slice A n c] W (GaveQ W g x 0))
    (hR : ∀ W, Only (w.heap.size ≤ ·) w W → Calls Tryz.prog 7 #[.slice A n c] W (GaveQ W g x 0)) (hs : ∀ W, Only (w.heap.size ≤ ·) w W → Src W (.slice A n c) b)
    (hE : ∀ W A n c B m d, Only (w.heap.size ≤ ·) w W → Nod W x x.leaf (.slice A n c) (.slice B m d) → Calls Tryz.prog 10 #[.int .i64 g, .agg #[.bool x.leaf, .slice A n c, .slice B m d]] W (GaveBE W b 0)) : Calls Tryz.prog 3 #[.slice A n c] w (Told w (.bool true)) := by
  have HAL : Hid (∀ W, Only (w.heap.size ≤ ·) w W → Calls Tryz.prog 5 #[] W (Told W (.bool true))) := Lib.hid fun W hW => hal W (hG.later hW)
  have HO : Hid (Only (w.heap.size ≤ ·) w w) := Lib.hid (Only.refl _ w)
  have HFW : Hid (∀ W, Calls Tryz.prog 4 #[.slice A n c] W fun e w' => e = .returned (.bool true) ∧ W = w') := Lib.hid fun W => few_c W A n c true (decide_eq_true hn)
  have HD := Lib.hid hD
  have HR := Lib.hid hR
  have HSM : Hid (x.its.length ≤ 1000 ∧ x.kds.length ≤ 1000 ∧ True) := Lib.hid ⟨h1, h2, trivial⟩
  have HE := Lib.hid hE
  have HS := Lib.hid hs
  clear hn hD hR hG hal h1 h2 hE hs
  go_enter Tryz.func3, Tryz.ntmps3
  go_upto_region 5 with (first
    | (go_at_call 4; (with_reducible refine (HFW.out _).mono ?_); rintro ee w1 ⟨rfl, rfl⟩)
    | (go_at_call 6; (with_reducible refine (HD.out _ HO.out).mono ?_); rintro ee w3 ⟨A3, n3, c3, B3, m3, d3, rfl, hn3, ho⟩; have HN3 := Lib.hid (hn3.later ((Only.refl (w3.heap.size ≤ ·) w3).alloc (fun _ h => h) (.cells #[.bool x.leaf, .slice A3 n3 c3, .slice B3 m3 d3] 28))); have HB3 := Lib.hid (Blk.new w3 28 [.bool x.leaf, .slice A3 n3 c3, .slice B3 m3 d3]); have ho2 := ho.alloc (fun _ h => h) (.cells #[.bool x.leaf, .slice A3 n3 c3, .slice B3 m3 d3] 28); (replace HO := Lib.hid (on_new HO.out ho2)); clear ho ho2 hn3)
    | (go_at_call 7; (with_reducible refine (HR.out _ HO.out).mono ?_); rintro ee w4 ⟨A4, n4, c4, B4, m4, d4, rfl, hn4, ho⟩; have HN4 := Lib.hid (hn4.later ((Only.refl (w4.heap.size ≤ ·) w4).alloc (fun _ h => h) (.cells #[.bool x.leaf, .slice A4 n4 c4, .slice B4 m4 d4] 35))); have HB4 := Lib.hid (Blk.new w4 35 [.bool x.leaf, .slice A4 n4 c4, .slice B4 m4 d4]); have ho2 := ho.alloc (fun _ h => h) (.cells #[.bool x.leaf, .slice A4 n4 c4, .slice B4 m4 d4] 35); (replace HO := Lib.hid (on_new HO.out ho2)); (replace HN3 := Lib.hid (HN3.out.later ho2)); (replace HB3 := Lib.hid (HB3.out.later ho2)); clear ho ho2 hn4))
  replace HB3 := Lib.hid HB3.out.drew
  replace HB4 := Lib.hid HB4.out.drew
  replace HO := Lib.hid HO.out.drew
  replace HN3 := Lib.hid (HN3.out.later (Only.refl _ _).drew)
  replace HN4 := Lib.hid (HN4.out.later (Only.refl _ _).drew)
  refine wp_region_list (B := [false, false, false, false, false, false, false, false, false, false, false, false, false, false, false]) (S := (fun W => W.cell? ⟨w3.heap.size, 0, none⟩ = some (.bool x.leaf) ∧ W.cell? ⟨w3.heap.size, 1, none⟩ = some (.slice A3 n3 c3) ∧ W.cell? ⟨w3.heap.size, 2, none⟩ = some (.slice B3 m3 d3) ∧ W.cell? ⟨w4.heap.size, 0, none⟩ = some (.bool x.leaf) ∧ W.cell? ⟨w4.heap.size, 1, none⟩ = some (.slice A4 n4 c4) ∧ W.cell? ⟨w4.heap.size, 2, none⟩ = some (.slice B4 m4 d4))) (by kernel_rfl) (by kernel_rfl) (by kernel_rfl) ⟨HB3.out.tri.1, HB3.out.tri.2.1, HB3.out.tri.2.2, HB4.out.tri⟩ (fun hsel hHeld => ?_)
  generalize hwz : World.drew _ = wz at HB3 HB4 HO HN3 HN4 hHeld ⊢
  clear hwz
  have HOZ := Lib.hid (Only.refl (wz.heap.size ≤ ·) wz)
  have KC : Hid (∀ W, Only (wz.heap.size ≤ ·) wz W → W.cell? ⟨w3.heap.size, 0, none⟩ = some (.bool x.leaf) ∧ W.cell? ⟨w3.heap.size, 1, none⟩ = some (.slice A3 n3 c3) ∧ W.cell? ⟨w3.heap.size, 2, none⟩ = some (.slice B3 m3 d3) ∧ W.cell? ⟨w4.heap.size, 0, none⟩ = some (.bool x.leaf) ∧ W.cell? ⟨w4.heap.size, 1, none⟩ = some (.slice A4 n4 c4) ∧ W.cell? ⟨w4.heap.size, 2, none⟩ = some (.slice B4 m4 d4)) := Lib.hid fun W hW => ⟨(HB3.out.later hW).tri.1, (HB3.out.later hW).tri.2.1, (HB3.out.later hW).tri.2.2, (HB4.out.later hW).tri⟩
  refine oneA 0 27 hsel (h := ?_)
  simp only [Act.put, List.setIfInBounds_toArray, List.set_cons_zero, List.set_cons_succ]
  refine oneA 1 28 hsel (h := ?_)
  simp only [Act.put, List.setIfInBounds_toArray, List.set_cons_zero, List.set_cons_succ]
  refine oneA 2 29 hsel (h := ?_)
  simp only [Act.put, List.setIfInBounds_toArray, List.set_cons_zero, List.set_cons_succ]
  refine oneA 3 30 hsel (h := ?_)
  simp only [Act.put, List.setIfInBounds_toArray, List.set_cons_zero, List.set_cons_succ]
  refine oneA 4 31 hsel (h := ?_)
  simp only [Act.put, List.setIfInBounds_toArray, List.set_cons_zero, List.set_cons_succ]
  refine oneA 5 32 hsel (h := ?_)
  simp only [Act.put, List.setIfInBounds_toArray, List.set_cons_zero, List.set_cons_succ]
  refine oneA 6 33 hsel (h := ?_)
  simp only [Act.put, List.setIfInBounds_toArray, List.set_cons_zero, List.set_cons_succ]
  refine oneA 7 34 hsel (h := ?_)
  simp only [Act.put, List.setIfInBounds_toArray, List.set_cons_zero, List.set_cons_succ]
  refine oneA 8 35 hsel (h := ?_)
  simp only [Act.put, List.setIfInBounds_toArray, List.set_cons_zero, List.set_cons_succ]
  refine oneA 9 36 hsel (h := ?_)
  simp only [Act.put, List.setIfInBounds_toArray, List.set_cons_zero, List.set_cons_succ]
  refine oneA 11 38 hsel (h := ?_)
  simp only [Act.put, List.setIfInBounds_toArray, List.set_cons_zero, List.set_cons_succ]
  refine wpAnyL_ready (rs := [10]) (by kernel_rfl) (by kernel_rfl) (by simp) ?_
  refine AllReadyL.cons (o := ?_) ?_ (fun K hK => ?_) AllReadyL.nil
  case refine_2 => (simp only [List.getElem?_cons_succ, List.getElem?_cons_zero]; rfl)
  go_simp
  (go_at_call 9; (with_reducible refine (NOld_c _ A3 B3 n3 c3 m3 d3 x.leaf x (HN3.out.later HOZ.out) HSM.out).mono ?_); rintro ee w9 ⟨A5, n5, c5, B5, m5, d5, rfl, hn5, ho⟩; have HN5 := Lib.hid hn5; (replace HOZ := Lib.hid (on_new HOZ.out ho)); clear ho hn5)
  go_wp2_with (fail)
  clear hHeld
  refine hK.out _ _ (KC.out _ HOZ.out) (fun hHeld => ?_)
  clear hK K
  try simp only [List.set_cons_zero, List.set_cons_succ]
  refine wpAnyL_ready (rs := [12]) (by kernel_rfl) (by kernel_rfl) (by simp) ?_
  refine AllReadyL.cons (o := ?_) ?_ (fun K hK => ?_) AllReadyL.nil
  case refine_2 => (simp only [List.getElem?_cons_succ, List.getElem?_cons_zero]; rfl)
  go_simp
  (obtain rfl : n5 = n4 := by rw [HN5.out.2.1.len, HN4.out.2.1.len])
  (obtain rfl : m5 = m4 := by rw [HN5.out.2.2.len, HN4.out.2.2.len])
  (have HNQ : Hid (n5 ≤ 1000 ∧ m5 ≤ 1000) := Lib.hid ⟨by rw [HN4.out.2.1.len]; exact HSM.out.1, by rw [HN4.out.2.2.len]; exact HSM.out.2.1⟩)
  (go_at_call 8; (with_reducible refine (DSame_eq _ x.leaf A5 B5 A4 B4 _ c5 _ d5 c4 d4 x HN5.out (HN4.out.later HOZ.out) HNQ.out.1 HNQ.out.2).mono ?_); rintro ee w10 ⟨rfl, ho⟩; (replace HOZ := Lib.hid (on_new HOZ.out ho)); clear ho)
  go_wp2_with (fail)
  clear hHeld
  refine hK.out _ _ (KC.out _ HOZ.out) (fun hHeld => ?_)
  clear hK K
  try simp only [List.set_cons_zero, List.set_cons_succ]
  refine oneA 13 40 hsel (h := ?_)
  simp only [Act.put, List.setIfInBounds_toArray, List.set_cons_zero, List.set_cons_succ]
  refine oneA 14 41 hsel (h := ?_)
  simp only [Act.put, List.setIfInBounds_toArray, List.set_cons_zero, List.set_cons_succ]
  refine wpAnyL_done (by kernel_rfl) (by kernel_rfl) ?_ _
  clear hsel hHeld
  obtain ⟨i0, i1, i2⟩ := (HB3.out.later HOZ.out).tri
  go_wp2_with (first
    | (go_at_call 10; (with_reducible refine (HE.out _ _ _ _ _ _ _ (on_new HO.out HOZ.out) (HN3.out.later HOZ.out)).mono ?_); rintro ee w6 ⟨V6, rfl, hs6, ho⟩; have HS6 := Lib.hid hs6; (replace HOZ := Lib.hid (on_new HOZ.out ho)); clear ho hs6)
    | (go_at_call 5; (with_reducible refine (HAL.out _ (on_new HO.out HOZ.out)).mono ?_); rintro ee w5 ⟨rfl, ho⟩; (replace HS6 := Lib.hid (HS6.out.later ho)); (replace HOZ := Lib.hid (on_new HOZ.out ho)); clear ho i0 i1 i2)
    | (go_at_call 11; (with_reducible refine (Equal_b _ _ _ b b true HS6.out (HS.out _ (on_new HO.out HOZ.out)) (by simp)).mono ?_); rintro ee w' ⟨rfl, rfl⟩))
  go_ret
  exact ⟨rfl, on_new HO.out HOZ.out⟩
end
theorem decs_c (hal : ∀ W, Gens W → Calls Tryz.prog 5 #[] W (Told W (.bool true))) (w : World) (A : Option Addr) (n c : Nat) (b : Bytes) (hG : Gens w) (hs : Src w (.slice A n c) b) (hne : n = b.length) : Calls Tryz.prog 3 #[.slice A n c] w (Told w (.bool true)) := by
  by_cases hn : n ≤ 2000
  · have hn2 : b.length ≤ 65536 := by omega
    by_cases hd : DecOk b
    · have hsp := hd.2.1
      obtain ⟨f1, f2, _⟩ := rd_few (body_len b) hsp
      refine decs_yes hal w A n c b hG (hdG b : Nat) (dcN b) f1 f2 hn (fun W hW => (Decode_c W _ b (hG.later hW) (hs.later hW) hn2).mono fun e w' h => h.yes hd) (fun W hW => (rDecode_c W _ b (hs.later hW) hn2).mono fun e w' h => h.yes hd) (fun W hW => hs.later hW) ?_
      intro W A n c B m d hW hN
      have h := Encode_y W (hdG b : Nat) A B n c m d _ (dcN b) hN (hG.later hW) (by rw [hN.2.1.len]; exact f1) (by rw [hN.2.2.len]; exact f2) hd.2.2.1
      rwa [hd.2.2.2] at h
    · have hz : (if nhE b = 0 then (72 : Int) else nhE b) ≠ 0 := by split <;> first | decide | assumption
      exact decs_no hal w A n c hG _ hz zeroN (Nat.zero_le _) (Nat.zero_le _) hn (fun W hW => (Decode_c W _ b (hG.later hW) (hs.later hW) hn2).mono fun e w' h => h.no hd) (fun W hW => (rDecode_c W _ b (hs.later hW) hn2).mono fun e w' h => h.no hd)
  · exact decs_out hal w A n c hG hn
end Go.Proofs.YtoghojgajpfkkaaGreatDoor
