/-
  PagerReads: the walk.
-/
import Derived.Test.YtopaponemjaenaaGreatDoorPue
import Derived.Test.YtopaponemjaenaaGreatDoorPgl
set_option linter.unusedVariables false
namespace Go.Proofs.YtopaponemjaenaaGreatDoor
open Go.RowKit

theorem rmSame_eq (w : World) (g ph t x r p l : Int) (A B : Option Addr) (n c d : Nat) (xs : Bytes) (hx : Src w (.slice A n c) xs) (hy : Src w (.slice B n d) xs) :
    Calls Tryz.prog 28 #[.agg #[.int .i64 g, .int .i64 ph, .int .i64 t, .int .i64 x, .int .i64 r, .int .i64 p, .int .i64 l, .slice A n c], .agg #[.int .i64 g, .int .i64 ph, .int .i64 t, .int .i64 x, .int .i64 r, .int .i64 p, .int .i64 l, .slice B n d]] w (Told w (.bool true)) := by
  have h := rmSame_c w g ph t x r p l g ph t x r p l A B n c n d xs xs hx hy
  rwa [decide_eq_true rfl, decide_eq_true rfl] at h
theorem DLoad_d (w : World) (A : Option Addr) (n c : Nat) (xs : Bytes) (hs : Src w (.slice A n c) xs) (limit : Int) : Calls Tryz.prog 7 #[.slice A n c, .int .i64 limit] w fun e w' => ∃ p D, e = .returned (.pointer (some ⟨p, 0, none⟩)) ∧ DAt w' p (Dk.Dsk.load xs limit) D ∧ (∀ k, D k → w.heap.size ≤ k) ∧ Only (w.heap.size ≤ ·) w w' := by
  obtain ⟨A0, c0, e0, ht, hA, hc, hm⟩ := hs
  simp only [Value.slice.injEq] at e0
  obtain ⟨e1, e2, e3⟩ := e0
  subst e1 e2 e3
  refine (Dk.Load_c w (fun k => w.heap.size ≤ k) (fun _ h => h) A c xs limit ⟨cb_length xs, fun hn => ?_⟩ hc (by simp only [maxLen]; omega)).mono ?_
  · obtain ⟨ad, e, hcells⟩ := ht.2 hn
    exact ⟨ad, e, Nat.not_le.2 (by rw [e] at ht; exact ht.block hn), hcells⟩
  · rintro e w' ⟨p, rfl, h1, h2⟩
    exact ⟨p, fun k => w.heap.size ≤ k ∧ k < w'.heap.size, rfl, ⟨h1.mono fun k hk hF => ⟨hF, hk⟩, fun k hk => hk.2⟩, fun k hk => hk.1, h2⟩
/-- The program reads what the document's disk tells. -/
theorem rd_same (xs : Bytes) (limit : Int) (a m : Int) : rdD (Dk.Dsk.load xs limit) a m = rdK (Dk.Dsk.load xs limit).n (Dk.Dsk.load xs limit).dur a m := by
  unfold rdD rdK
  rw [if_neg (by show ¬ (false = true); decide)]
  rfl
theorem rdP_same (xs : Bytes) (limit : Int) (id many : Int) (h : ¬ (id < 0 ∨ many < 1 ∨ 32768 < max id many)) : rdP (Dk.Dsk.load xs limit) id many = rdK (Dk.Dsk.load xs limit).n (Dk.Dsk.load xs limit).dur (4 * id) (4 * many) := by
  unfold rdP
  rw [if_neg h, rd_same, Int.mul_comm id, Int.mul_comm many]
theorem pg_same (xs : Bytes) (limit : Int) : (rdP (Dk.Dsk.load xs limit) 0 1).1 = kpg0 (Dk.Dsk.load xs limit).dur ∧ (rdP (Dk.Dsk.load xs limit) 1 1).1 = kpg1 (Dk.Dsk.load xs limit).dur := by
  have hl := (Dk.Dsk.WF.load xs limit).len
  refine ⟨?_, ?_⟩
  · rw [rdP_same xs limit 0 1 (by omega)]
    unfold rdK kpg0
    by_cases h : 256 ≤ (Dk.Dsk.load xs limit).dur.length
    · rw [if_pos h, if_neg]
      · rfl
      · unfold hasK
        rw [Bool.not_eq_false]
        simp only [Bool.and_eq_true, decide_eq_true_eq]
        omega
    · rw [if_neg h, if_pos]
      unfold hasK
      rw [decide_eq_false (p := (4 * 1 : Int) ≤ _ - 4 * 0) (by omega), Bool.and_false, Bool.and_false]
  · rw [rdP_same xs limit 1 1 (by omega)]
    unfold rdK kpg1
    by_cases h : 512 ≤ (Dk.Dsk.load xs limit).dur.length
    · rw [if_pos h, if_neg]
      · rfl
      · unfold hasK
        rw [Bool.not_eq_false]
        simp only [Bool.and_eq_true, decide_eq_true_eq]
        omega
    · rw [if_neg h, if_pos]
      unfold hasK
      rw [decide_eq_false (p := (4 * 1 : Int) ≤ _ - 4 * 1) (by omega), Bool.and_false, Bool.and_false]
/-- A meta came back: the document's or the program's. -/
def GaveS (w : World) (N : List Int) (X : Bytes) (k y : Int) (e : Ending) (w' : World) : Prop := ∃ (g ph t x r p l : Int) (A : Option Addr) (n c : Nat), N = [g, ph, t, x, r, p, l] ∧ n = X.length ∧ e = .returned (.tuple #[.agg #[.int .i64 g, .int .i64 ph, .int .i64 t, .int .i64 x, .int .i64 r, .int .i64 p, .int .i64 l, .slice A n c], .int .i64 k, .int .i64 y]) ∧ Src w' (.slice A n c) X ∧ Only (w.heap.size ≤ ·) w w'
def GaveDv (w : World) (v : Value) (x : Bytes) (y : Int) (e : Ending) (w' : World) : Prop := ∃ A n c, e = .returned (.tuple #[v, .slice A n c, .int .i64 y]) ∧ n = x.length ∧ Src w' (.slice A n c) x ∧ Only (w.heap.size ≤ ·) w w'
theorem gs_of_c {w : World} {s : ChS} {N : List Int} {X : Bytes} {k y : Int} (h : s.N = N ∧ s.X = X ∧ s.at_ = k ∧ whyZ s = y) {e : Ending} {w' : World} (hg : GaveC w s e w') : GaveS w N X k y e w' := by
  obtain ⟨rfl, rfl, rfl, rfl⟩ := h
  obtain ⟨g, ph, t, x, r, p, l, A, n, c, h1, h2, h3, h4, h5⟩ := hg
  exact ⟨g, ph, t, x, r, p, l, A, n, c, h1, h2, h3, h4.src, h5⟩
theorem gs_of_rc {w : World} {s : ChS} {N : List Int} {X : Bytes} {k y : Int} (h : s.N = N ∧ s.X = X ∧ s.at_ = k ∧ whyZ s = y) {e : Ending} {w' : World} (hg : GaveRC w s e w') : GaveS w N X k y e w' := by
  obtain ⟨rfl, rfl, rfl, rfl⟩ := h
  obtain ⟨g, ph, t, x, r, p, l, A, n, c, h1, h2, h3, h4, h5⟩ := hg
  exact ⟨g, ph, t, x, r, p, l, A, n, c, h1, h2, h3, h4, h5⟩
theorem by_at {w : World} {s : Bytes × Int} {x : Bytes} {y : Int} (h : s = (x, y)) {e : Ending} {w' : World} (hg : GaveBy w s e w') : ∃ A n c, e = .returned (.tuple #[.slice A n c, .int .i64 y]) ∧ n = x.length ∧ Src w' (.slice A n c) x ∧ Only (w.heap.size ≤ ·) w w' := by
  subst h
  obtain ⟨v, h1, h2, h3⟩ := hg
  have h4 := h2.src
  obtain ⟨A, c, rfl, _⟩ := h2
  exact ⟨A, _, c, h1, rfl, h4, h3⟩
theorem do_at {w : World} {v : Value} {s : Bytes × Int} {x : Bytes} {y : Int} (h : s = (x, y)) {e : Ending} {w' : World} (hg : GaveDo w v s e w') : GaveDv w v x y e w' := by
  subst h
  exact hg
set_option maxRecDepth 100000 in
set_option maxHeartbeats 6400000 in
theorem preads_early (w : World) (hG : Gens w) (A : Option Addr) (n c : Nat) (id many : Int) (hn : 10240 < n) : Calls Tryz.prog 4 #[.slice A n c, .int .i64 id, .int .i64 many] w (Told w (.bool true)) := by
  have HAL : Hid (∀ W, Only (w.heap.size ≤ ·) w W → Calls Tryz.prog 6 #[] W (Told W (.bool true))) := Lib.hid fun W hW => Pgalive_c W (hG.later hW)
  have HX : Hid (Only (w.heap.size ≤ ·) w w) := Lib.hid (Only.refl _ w)
  have h1 : 10240 < (n : Int) := by omega
  clear hG hn
  go_enter Tryz.func4, Tryz.ntmps4
  go_wp2_with (go_at_call 6; (with_reducible refine (HAL.out _ HX.out).mono ?_); rintro e wz ⟨rfl, ho⟩; (replace HX := Lib.hid (on_new HX.out ho)); clear ho)
  go_ret
  exact ⟨rfl, HX.out⟩
set_option maxRecDepth 100000 in
set_option maxHeartbeats 25600000 in
theorem preads_main (w : World) (hG : Gens w) (A : Option Addr) (n c : Nat) (xs : Bytes) (id many : Int) (hs : Src w (.slice A n c) xs) (hne : n = xs.length) (hn : ¬ 10240 < n) (hid : I64v id) (hmany : I64v many) : Calls Tryz.prog 4 #[.slice A n c, .int .i64 id, .int .i64 many] w (Told w (.bool true)) := by
  obtain ⟨Lc, hLc⟩ : ∃ z, z = Dk.cut 160 := ⟨_, rfl⟩
  obtain ⟨bn, hbn⟩ : ∃ z, z = (Dk.Dsk.load xs 160).dur.length := ⟨_, rfl⟩
  obtain ⟨N, hN⟩ : ∃ z, z = (Dk.Dsk.load xs 160).n := ⟨_, rfl⟩
  obtain ⟨B, hB⟩ : ∃ z, z = (Dk.Dsk.load xs 160).dur := ⟨_, rfl⟩
  have hwl := Dk.Dsk.WF.load xs 160
  have HKL : Hid (∀ W, Only (w.heap.size ≤ ·) w W → Calls Tryz.prog 8 #[.slice A n c, .int .i64 160] W fun e w' => ∃ KA kc, e = .returned (.agg #[.int .i64 (Lc : Nat), .slice KA bn kc, .slice none 0 0, .int .i64 0, .int .i64 (-1), .bool false]) ∧ Src w' (.slice KA bn kc) B ∧ Only (W.heap.size ≤ ·) W w') := Lib.hid (fun W hW => by
    have h := kLoad_c W A n c xs 160 (hs.later hW) hne.symm (by omega)
    unfold GaveK at h
    have e : Dk.pad (xs.take (Dk.cut 160 * 64)) = (Dk.Dsk.load xs 160).dur := rfl
    rw [e, ← hLc, ← hbn, ← hB] at h
    exact h)
  have HBN : Hid (B.length = bn ∧ bn = N * 64 ∧ N ≤ 65536) := Lib.hid ⟨by rw [hB, hbn], by rw [hbn, hN]; exact hwl.len, by rw [hN]; exact Nat.le_trans hwl.nl hwl.lim⟩
  have HSW := Lib.hid (fun W (hW : Only (w.heap.size ≤ ·) w W) => hs.later hW)
  have HGW := Lib.hid (fun W (hW : Only (w.heap.size ≤ ·) w W) => hG.later hW)
  have h1 : ¬ 10240 < (n : Int) := by omega
  obtain ⟨N7, hN7⟩ : ∃ z, z = (mdC (kpg0 B) (kpg1 B)).N := ⟨_, rfl⟩
  obtain ⟨X7, hX7⟩ : ∃ z, z = (mdC (kpg0 B) (kpg1 B)).X := ⟨_, rfl⟩
  obtain ⟨k7, hk7⟩ : ∃ z, z = (mdC (kpg0 B) (kpg1 B)).at_ := ⟨_, rfl⟩
  obtain ⟨y7, hy7⟩ : ∃ z, z = whyZ (mdC (kpg0 B) (kpg1 B)) := ⟨_, rfl⟩
  have HNW : Hid ((nwP (Dk.Dsk.load xs 160)).N = N7 ∧ (nwP (Dk.Dsk.load xs 160)).X = X7 ∧ (nwP (Dk.Dsk.load xs 160)).at_ = k7 ∧ whyZ (nwP (Dk.Dsk.load xs 160)) = y7) := Lib.hid (by
    have hsm : nwP (Dk.Dsk.load xs 160) = mdC (kpg0 B) (kpg1 B) := by
      unfold nwP
      rw [if_neg (by show ¬ (false = true); decide), (pg_same xs 160).1, (pg_same xs 160).2, hB]
    rw [hsm]
    exact ⟨hN7.symm, hX7.symm, hk7.symm, hy7.symm⟩)
  have HDC := Lib.hid (show (docC (mdM (kpg0 B)) (mdM (kpg1 B)) (mdX (kpg0 B)) (mdX (kpg1 B)) (mdE (kpg0 B)) (mdE (kpg1 B))).N = N7 ∧ (docC (mdM (kpg0 B)) (mdM (kpg1 B)) (mdX (kpg0 B)) (mdX (kpg1 B)) (mdE (kpg0 B)) (mdE (kpg1 B))).X = X7 ∧ (docC (mdM (kpg0 B)) (mdM (kpg1 B)) (mdX (kpg0 B)) (mdX (kpg1 B)) (mdE (kpg0 B)) (mdE (kpg1 B))).at_ = k7 ∧ whyZ (docC (mdM (kpg0 B)) (mdM (kpg1 B)) (mdX (kpg0 B)) (mdX (kpg1 B)) (mdE (kpg0 B)) (mdE (kpg1 B))) = y7 by
    have h := doc_choose (kpg0 B) (kpg1 B)
    rw [hN7, hX7, hk7, hy7]
    exact ⟨h.1.symm, h.2.1.symm, h.2.2.1.symm, h.2.2.2.symm⟩)
  have HRK : Hid (∀ m : Int, ¬ (id < 0 ∨ m < 1 ∨ 32768 < max id m) → rdP (Dk.Dsk.load xs 160) id m = rdK N B (4 * id) (4 * m)) := Lib.hid (fun m hm => by rw [hN, hB]; exact rdP_same xs 160 id m hm)
  have HBAD : Hid ((id < 0 ∨ many < 1 ∨ 32768 < max id many) → rdP (Dk.Dsk.load xs 160) id many = ([], 1)) := Lib.hid (fun h => if_pos h)
  clear hs hG hne hn hLc hbn hN hB hwl hN7 hX7 hk7 hy7
  have HX0 : Hid (Only (w.heap.size ≤ ·) w w) := Lib.hid (Only.refl _ w)
  go_enter Tryz.func4, Tryz.ntmps4
  go_upto_region 4 with (first
    | (go_at_call 7; (with_reducible refine (DLoad_d w A n c xs (HSW.out _ HX0.out) 160).mono ?_); rintro e w2 ⟨dp, D, rfl, hd, h0, ho⟩; have HD2 := Lib.hid hd; have HO2 := Lib.hid ho; clear hd h0 ho)
    | (go_at_call 8; (with_reducible refine (HKL.out _ HO2.out).mono ?_); rintro e w3 ⟨KA, kc, rfl, hks, ho⟩; have HKS := Lib.hid hks; have HO3 := Lib.hid ho; clear hks ho))
  obtain ⟨w8, hw8⟩ : ∃ W0, W0 = w3.alloc (.cells #[.int .i64 (Lc : Nat), .slice KA bn kc, .slice none 0 0, .int .i64 0, .int .i64 (-1), .bool false] 34) := ⟨_, rfl⟩
  have HO8 : Hid (Only (w3.heap.size ≤ ·) w3 w8) := Lib.hid (by rw [hw8]; exact (Only.refl _ w3).alloc (fun _ h => h) _)
  have HB8 : Hid (Blk w8 w3.heap.size 34 [.int .i64 (Lc : Nat), .slice KA bn kc, .slice none 0 0, .int .i64 0, .int .i64 (-1), .bool false]) := Lib.hid (by rw [hw8]; exact Blk.new w3 _ _)
  have HD8 := Lib.hid ((HD2.out.later HO3.out).later HO8.out)
  have HS8 := Lib.hid (HKS.out.later HO8.out)
  have HOW := Lib.hid (on_new HO2.out (on_new HO3.out HO8.out))
  rw [← hw8]
  generalize hb8 : w3.heap.size = b8 at HB8 HO8 ⊢
  clear hw8 hb8 HO8 HKS HD2 HX0 HO2 HO3
  have HG8 := Lib.hid (HGW.out _ HOW.out)
  have HAL : Hid (∀ W, Only (w8.heap.size ≤ ·) w8 W → Calls Tryz.prog 6 #[] W (Told W (.bool true))) := Lib.hid fun W hW => Pgalive_c W (HG8.out.later hW)
  have HNK : Hid (∀ W, Only (w8.heap.size ≤ ·) w8 W → Calls Tryz.prog 27 #[.agg #[.int .i64 (Lc : Nat), .slice KA bn kc, .slice none 0 0, .int .i64 0, .int .i64 (-1), .bool false]] W (GaveS W N7 X7 k7 y7)) := Lib.hid (fun W hW => (kNewest_c W Lc KA bn kc none 0 0 0 (-1) B [] N (HS8.out.later hW) HBN.out.1 HBN.out.2.1 HBN.out.2.2 (Rw.nil_ W) (fun e he => nomatch he) (by omega)).mono fun e w' hg => gs_of_rc HDC.out hg)
  have HDO : Hid (∀ m : Int, I64v (4 * id) → 1 ≤ m → ∀ W, Only (w8.heap.size ≤ ·) w8 W → Calls Tryz.prog 11 #[.agg #[.int .i64 (Lc : Nat), .slice KA bn kc, .slice none 0 0, .int .i64 0, .int .i64 (-1), .bool false], .agg #[.int .i64 1, .int .i64 (4 * id), .int .i64 m, .slice none 0 0, .slice none 0 0]] W (GaveDo W (.agg #[.int .i64 (Lc : Nat), .slice KA bn kc, .slice none 0 0, .int .i64 0, .int .i64 (-1), .bool false]) (rdK N B (4 * id) m))) := Lib.hid (fun m h9 hm W hW => kDo_read W Lc KA bn kc none 0 0 0 (-1) B [] N (HS8.out.later hW) HBN.out.1 HBN.out.2.1 HBN.out.2.2 (Rw.nil_ W) (fun e he => nomatch he) (by omega) (4 * id) m h9 hm)
  have HX : Hid (Only (w8.heap.size ≤ ·) w8 w8) := Lib.hid (Only.refl _ w8)
  obtain ⟨x1, y1, hs1⟩ : ∃ x y, rdP (Dk.Dsk.load xs 160) id many = (x, y) := ⟨_, _, rfl⟩
  obtain ⟨x2, y2, hs2⟩ : ∃ x y, rdP (Dk.Dsk.load xs 160) id 1 = (x, y) := ⟨_, _, rfl⟩
  have HS1 := Lib.hid hs1
  have HS2 := Lib.hid hs2
  clear hs1 hs2
  go_upto_region 7 with (go_at_call 9; (with_reducible refine (PgNew_c _ dp _ D HD8.out).mono ?_); rintro e w9 ⟨q, rfl, hp, ho⟩; have HP := Lib.hid hp; (replace HX := Lib.hid (on_new HX.out ho)); clear hp ho)
  go_upto_region 8 with (go_at_call 24; (with_reducible refine (PgSome_c _ q dp _ D HP.out id many).mono ?_); rintro e w10 hg; (obtain ⟨A1, n1, d1, rfl, hn, hs, ho⟩ := by_at HS1.out hg); have HV1 := Lib.hid hs; have HL1 := Lib.hid hn; (replace HX := Lib.hid (on_new HX.out ho)); (replace HP := Lib.hid (HP.out.later ho)); clear hn hs ho hg)
  go_upto_region 9 with (go_at_call 25; (with_reducible refine (PgPage_c _ q dp _ D HP.out id).mono ?_); rintro e w11 hg; (obtain ⟨A2, n2, d2, rfl, hn, hs, ho⟩ := by_at HS2.out hg); have HV2 := Lib.hid hs; (replace HX := Lib.hid (on_new HX.out ho)); (replace HP := Lib.hid (HP.out.later ho)); (replace HV1 := Lib.hid (HV1.out.later ho)); clear hn hs ho hg)
  go_upto_region 10 with (go_at_call 26; (with_reducible refine (PgNewest_c _ q dp _ D HP.out (HG8.out.later HX.out)).mono ?_); rintro e w12 hg; (obtain ⟨g, ph, t, x, r, p, l, MA, mn, mc, hN, hn, rfl, hs, ho⟩ := gs_of_c HNW.out hg); have HNL := Lib.hid hN; have HNX := Lib.hid hn; have HMS := Lib.hid hs; (replace HX := Lib.hid (on_new HX.out ho)); (replace HV1 := Lib.hid (HV1.out.later ho)); (replace HV2 := Lib.hid (HV2.out.later ho)); clear hN hn hs ho hg)
  clear HP
  obtain ⟨w13, hw13⟩ : ∃ W0, W0 = w12.alloc (.cells #[.int .i64 g, .int .i64 ph, .int .i64 t, .int .i64 x, .int .i64 r, .int .i64 p, .int .i64 l, .slice MA mn mc] 45) := ⟨_, rfl⟩
  have HO13 : Hid (Only (w12.heap.size ≤ ·) w12 w13) := Lib.hid (by rw [hw13]; exact (Only.refl _ w12).alloc (fun _ h => h) _)
  have HB14 : Hid (Blk w13 w12.heap.size 45 [.int .i64 g, .int .i64 ph, .int .i64 t, .int .i64 x, .int .i64 r, .int .i64 p, .int .i64 l, .slice MA mn mc]) := Lib.hid (by rw [hw13]; exact Blk.new w12 _ _)
  replace HX := Lib.hid (on_new HX.out HO13.out)
  replace HV1 := Lib.hid (HV1.out.later HO13.out)
  replace HV2 := Lib.hid (HV2.out.later HO13.out)
  replace HMS := Lib.hid (HMS.out.later HO13.out)
  clear HO13
  rw [← hw13]
  generalize hb14 : w12.heap.size = b14 at HB14 ⊢
  clear hw13 hb14
  obtain ⟨k0, k1, k2, k3, k4, k5⟩ := blk_six (HB8.out.only HX.out (Nat.not_le.2 HB8.out.lt))
  go_upto_region 11 with (go_at_call 27; (with_reducible refine (HNK.out _ HX.out).mono ?_); rintro e w15 ⟨g', ph', t', x', r', p', l', NA, nn, nc, hN, hn, rfl, hs, ho⟩; have HNM := Lib.hid hN; have HNY := Lib.hid hn; have HRS := Lib.hid hs; (replace HX := Lib.hid (on_new HX.out ho)); (replace HV1 := Lib.hid (HV1.out.later ho)); (replace HV2 := Lib.hid (HV2.out.later ho)); (replace HMS := Lib.hid (HMS.out.later ho)); (replace HB14 := Lib.hid (HB14.out.only ho (Nat.not_le.2 HB14.out.lt))); clear hN hn hs ho k0 k1 k2 k3 k4 k5)
  obtain ⟨rfl, rfl, rfl, rfl, rfl, rfl, rfl⟩ : g = g' ∧ ph = ph' ∧ t = t' ∧ x = x' ∧ r = r' ∧ p = p' ∧ l = l' := by
    have hq := HNL.out.symm.trans HNM.out
    simpa only [List.cons.injEq, and_true] using hq
  clear HNM
  obtain rfl : mn = nn := HNX.out.trans HNY.out.symm
  clear HNX HNY
  obtain ⟨w16, hw16⟩ : ∃ W0, W0 = w15.alloc (.cells #[.int .i64 g, .int .i64 ph, .int .i64 t, .int .i64 x, .int .i64 r, .int .i64 p, .int .i64 l, .slice NA mn nc] 25) := ⟨_, rfl⟩
  have HO16 : Hid (Only (w15.heap.size ≤ ·) w15 w16) := Lib.hid (by rw [hw16]; exact (Only.refl _ w15).alloc (fun _ h => h) _)
  have HB17 : Hid (Blk w16 w15.heap.size 25 [.int .i64 g, .int .i64 ph, .int .i64 t, .int .i64 x, .int .i64 r, .int .i64 p, .int .i64 l, .slice NA mn nc]) := Lib.hid (by rw [hw16]; exact Blk.new w15 _ _)
  replace HX := Lib.hid (on_new HX.out HO16.out)
  replace HV1 := Lib.hid (HV1.out.later HO16.out)
  replace HV2 := Lib.hid (HV2.out.later HO16.out)
  replace HMS := Lib.hid (HMS.out.later HO16.out)
  replace HRS := Lib.hid (HRS.out.later HO16.out)
  replace HB14 := Lib.hid (HB14.out.only HO16.out (Nat.not_le.2 HB14.out.lt))
  clear HO16
  rw [← hw16]
  generalize hb17 : w15.heap.size = b17 at HB17 ⊢
  clear hw16 hb17
  obtain ⟨r0, r1, r2, r3, r4, r5, r6, r7⟩ := HB14.out.eight
  obtain ⟨u0, u1, u2, u3, u4, u5, u6, u7⟩ := HB17.out.eight
  go_upto_region 13 with (go_at_call 28; (with_reducible refine (rmSame_eq _ g ph t x r p l MA NA mn mc nc X7 HMS.out HRS.out).mono ?_); rintro e w17 ⟨rfl, ho⟩; (replace HX := Lib.hid (on_new HX.out ho)); (replace HV1 := Lib.hid (HV1.out.later ho)); (replace HV2 := Lib.hid (HV2.out.later ho)); clear ho r0 r1 r2 r3 r4 r5 r6 r7 u0 u1 u2 u3 u4 u5 u6 u7)
  clear HMS HRS HB14 HB17
  by_cases c1 : id < 0
  · obtain ⟨hz1, hz2⟩ : n1 = 0 ∧ y1 = 1 := by
      have e := HS1.out.symm.trans (HBAD.out (Or.inl c1))
      have e2 := HL1.out
      simp only [Prod.mk.injEq] at e
      obtain ⟨rfl, rfl⟩ := e
      exact ⟨e2, rfl⟩
    have hz : (n1 : Int) = 0 := by omega
    subst hz2
    go_wp2_with (go_at_call 6; (with_reducible refine (HAL.out _ HX.out).mono ?_); rintro e wz ⟨rfl, ho⟩; (replace HX := Lib.hid (on_new HX.out ho)); clear ho)
    go_ret
    exact ⟨rfl, on_new HOW.out HX.out⟩
  by_cases c2 : many < 1
  · obtain ⟨hz1, hz2⟩ : n1 = 0 ∧ y1 = 1 := by
      have e := HS1.out.symm.trans (HBAD.out (Or.inr (Or.inl c2)))
      have e2 := HL1.out
      simp only [Prod.mk.injEq] at e
      obtain ⟨rfl, rfl⟩ := e
      exact ⟨e2, rfl⟩
    have hz : (n1 : Int) = 0 := by omega
    subst hz2
    go_wp2_with (go_at_call 6; (with_reducible refine (HAL.out _ HX.out).mono ?_); rintro e wz ⟨rfl, ho⟩; (replace HX := Lib.hid (on_new HX.out ho)); clear ho)
    go_ret
    exact ⟨rfl, on_new HOW.out HX.out⟩
  by_cases c3 : 32768 < id
  · obtain ⟨hz1, hz2⟩ : n1 = 0 ∧ y1 = 1 := by
      have e := HS1.out.symm.trans (HBAD.out (Or.inr (Or.inr (by omega))))
      have e2 := HL1.out
      simp only [Prod.mk.injEq] at e
      obtain ⟨rfl, rfl⟩ := e
      exact ⟨e2, rfl⟩
    have hz : (n1 : Int) = 0 := by omega
    subst hz2
    go_wp2_with (go_at_call 6; (with_reducible refine (HAL.out _ HX.out).mono ?_); rintro e wz ⟨rfl, ho⟩; (replace HX := Lib.hid (on_new HX.out ho)); clear ho)
    go_ret
    exact ⟨rfl, on_new HOW.out HX.out⟩
  by_cases c4 : 32768 < many
  · obtain ⟨hz1, hz2⟩ : n1 = 0 ∧ y1 = 1 := by
      have e := HS1.out.symm.trans (HBAD.out (Or.inr (Or.inr (by omega))))
      have e2 := HL1.out
      simp only [Prod.mk.injEq] at e
      obtain ⟨rfl, rfl⟩ := e
      exact ⟨e2, rfl⟩
    have hz : (n1 : Int) = 0 := by omega
    subst hz2
    go_wp2_with (go_at_call 6; (with_reducible refine (HAL.out _ HX.out).mono ?_); rintro e wz ⟨rfl, ho⟩; (replace HX := Lib.hid (on_new HX.out ho)); clear ho)
    go_ret
    exact ⟨rfl, on_new HOW.out HX.out⟩
  have HR1 : Hid (rdK N B (4 * id) (4 * many) = (x1, y1)) := Lib.hid ((HRK.out many (by omega)).symm.trans HS1.out)
  have HR2 : Hid (rdK N B (4 * id) 4 = (x2, y2)) := Lib.hid ((HRK.out 1 (by omega)).symm.trans HS2.out)
  obtain ⟨a4, ha4⟩ : ∃ z, z = 4 * id := ⟨_, rfl⟩
  obtain ⟨m4, hm4⟩ : ∃ z, z = 4 * many := ⟨_, rfl⟩
  have i4 : I64v (4 * id) := by unfold I64v; omega
  have HD1 : Hid (∀ W, Only (w8.heap.size ≤ ·) w8 W → Calls Tryz.prog 11 #[.agg #[.int .i64 (Lc : Nat), .slice KA bn kc, .slice none 0 0, .int .i64 0, .int .i64 (-1), .bool false], .agg #[.int .i64 1, .int .i64 a4, .int .i64 m4, .slice none 0 0, .slice none 0 0]] W (GaveDv W (.agg #[.int .i64 (Lc : Nat), .slice KA bn kc, .slice none 0 0, .int .i64 0, .int .i64 (-1), .bool false]) x1 y1)) := Lib.hid (fun W hW => by
    rw [ha4, hm4]
    exact (HDO.out (4 * many) i4 (by omega) W hW).mono fun e w' hg => do_at HR1.out hg)
  have HD2 : Hid (∀ W, Only (w8.heap.size ≤ ·) w8 W → Calls Tryz.prog 11 #[.agg #[.int .i64 (Lc : Nat), .slice KA bn kc, .slice none 0 0, .int .i64 0, .int .i64 (-1), .bool false], .agg #[.int .i64 1, .int .i64 a4, .int .i64 4, .slice none 0 0, .slice none 0 0]] W (GaveDv W (.agg #[.int .i64 (Lc : Nat), .slice KA bn kc, .slice none 0 0, .int .i64 0, .int .i64 (-1), .bool false]) x2 y2)) := Lib.hid (fun W hW => by
    rw [ha4]
    exact (HDO.out 4 i4 (by omega) W hW).mono fun e w' hg => do_at HR2.out hg)
  have e1 : IntKind.i64.wrap (4 * id) = a4 := by rw [ha4]; exact IntWalk.i64_in _ (by omega)
  have e2 : IntKind.i64.wrap (4 * many) = m4 := by rw [hm4]; exact IntWalk.i64_in _ (by omega)
  clear i4 ha4 hm4 HDO HR1 HR2
  go_upto_region 15 with (fail)
  clear c1 c2 c3 c4
  obtain ⟨k0, k1, k2, k3, k4, k5⟩ := blk_six (HB8.out.only HX.out (Nat.not_le.2 HB8.out.lt))
  go_upto_region 16 with (go_at_call 11; (with_reducible refine (HD1.out _ HX.out).mono ?_); rintro e w20 ⟨A3, n3, d3, rfl, hn, hs, ho⟩; have HE1 := Lib.hid hs; (replace HX := Lib.hid (on_new HX.out ho)); (replace HV1 := Lib.hid (HV1.out.later ho)); (replace HV2 := Lib.hid (HV2.out.later ho)); clear hn hs ho k0 k1 k2 k3 k4 k5)
  obtain ⟨w21, hw21⟩ : ∃ W0, W0 = w20.alloc (.cells #[.int .i64 (Lc : Nat), .slice KA bn kc, .slice none 0 0, .int .i64 0, .int .i64 (-1), .bool false] 34) := ⟨_, rfl⟩
  have HO21 : Hid (Only (w20.heap.size ≤ ·) w20 w21) := Lib.hid (by rw [hw21]; exact (Only.refl _ w20).alloc (fun _ h => h) _)
  replace HX := Lib.hid (on_new HX.out HO21.out)
  replace HV1 := Lib.hid (HV1.out.later HO21.out)
  replace HV2 := Lib.hid (HV2.out.later HO21.out)
  replace HE1 := Lib.hid (HE1.out.later HO21.out)
  clear HO21
  rw [← hw21]
  generalize hb21 : w20.heap.size = b21
  clear hw21 hb21
  obtain ⟨k0, k1, k2, k3, k4, k5⟩ := blk_six (HB8.out.only HX.out (Nat.not_le.2 HB8.out.lt))
  go_upto_region 17 with (go_at_call 11; (with_reducible refine (HD2.out _ HX.out).mono ?_); rintro e w22 ⟨A4, n4, d4, rfl, hn, hs, ho⟩; have HE2 := Lib.hid hs; (replace HX := Lib.hid (on_new HX.out ho)); (replace HV1 := Lib.hid (HV1.out.later ho)); (replace HV2 := Lib.hid (HV2.out.later ho)); (replace HE1 := Lib.hid (HE1.out.later ho)); clear hn hs ho k0 k1 k2 k3 k4 k5)
  obtain ⟨w23, hw23⟩ : ∃ W0, W0 = w22.alloc (.cells #[.int .i64 (Lc : Nat), .slice KA bn kc, .slice none 0 0, .int .i64 0, .int .i64 (-1), .bool false] 34) := ⟨_, rfl⟩
  have HO23 : Hid (Only (w22.heap.size ≤ ·) w22 w23) := Lib.hid (by rw [hw23]; exact (Only.refl _ w22).alloc (fun _ h => h) _)
  replace HX := Lib.hid (on_new HX.out HO23.out)
  replace HV1 := Lib.hid (HV1.out.later HO23.out)
  replace HV2 := Lib.hid (HV2.out.later HO23.out)
  replace HE1 := Lib.hid (HE1.out.later HO23.out)
  replace HE2 := Lib.hid (HE2.out.later HO23.out)
  clear HO23
  rw [← hw23]
  generalize hb23 : w22.heap.size = b23
  clear hw23 hb23
  go_wp2_with (first
    | (go_at_call 6; (with_reducible refine (HAL.out _ HX.out).mono ?_); rintro e wz ⟨rfl, ho⟩; (replace HX := Lib.hid (on_new HX.out ho)); (replace HV1 := Lib.hid (HV1.out.later ho)); (replace HV2 := Lib.hid (HV2.out.later ho)); (replace HE1 := Lib.hid (HE1.out.later ho)); (replace HE2 := Lib.hid (HE2.out.later ho)); clear ho)
    | (go_at_call 29; (with_reducible refine (Equal_b _ _ _ x1 x1 true HV1.out HE1.out (decide_eq_true rfl)).mono ?_); rintro ee w' ⟨rfl, rfl⟩)
    | (go_at_call 29; (with_reducible refine (Equal_b _ _ _ x2 x2 true HV2.out HE2.out (decide_eq_true rfl)).mono ?_); rintro ee w' ⟨rfl, rfl⟩))
  go_ret
  exact ⟨rfl, on_new HOW.out HX.out⟩
theorem preads_c (w : World) (hG : Gens w) (A : Option Addr) (n c : Nat) (xs : Bytes) (id many : Int) (hs : Src w (.slice A n c) xs) (hne : n = xs.length) (hid : I64v id) (hmany : I64v many) : Calls Tryz.prog 4 #[.slice A n c, .int .i64 id, .int .i64 many] w (Told w (.bool true)) := by
  by_cases hn : 10240 < n
  · exact preads_early w hG A n c id many hn
  · exact preads_main w hG A n c xs id many hs hne hn hid hmany
end Go.Proofs.YtopaponemjaenaaGreatDoor
