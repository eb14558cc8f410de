/-
  Metas: the document's Encode.
-/
import Derived.Test.YtbpldkhgiddmlaaGreatDoorMrf
import Derived.Test.YtbpldkhgiddmlaaGreatDoorGm
set_option linter.unusedVariables false
namespace Go.Proofs.YtbpldkhgiddmlaaGreatDoor
open Go.RowKit

theorem rSeal_t (w : World) (v : Value) (xs : Bytes) (h : Src w v xs) (hn : xs.length ≤ 65536) : Calls Tryz.prog 69 #[v, .int .i64 252] w (GaveB w (sealB xs 252)) := by
  obtain ⟨A, c, rfl, ht, hA, hc, hm⟩ := h
  refine (refSeal_c w A xs.length c xs ht (fun e => ⟨by have := hA e; omega, hA e⟩) (by omega) hc hm 252 (by decide) (by decide)).mono ?_
  rintro e w' ⟨v', rfl, hb⟩
  exact ⟨v', rfl, hb.gave⟩
def tail8 : Bytes := [85, 65, 71, 82, 0, 0, 0, 0]
theorem src_tail8 (w : World) : Src (w.alloc (.cells #[.int .u8 85, .int .u8 65, .int .u8 71, .int .u8 82, .int .u8 0, .int .u8 0, .int .u8 0, .int .u8 0] 5)) (.slice (some ⟨w.heap.size, 0, none⟩) 8 8) tail8 :=
  ⟨_, _, rfl, Txt.blk (xs := tail8) (rest := []) (Blk.new w 5 [.int .u8 85, .int .u8 65, .int .u8 71, .int .u8 82, .int .u8 0, .int .u8 0, .int .u8 0, .int .u8 0]) 0 8 (by decide) (fun _ => rfl), (fun e => by cases e), Nat.le_refl _, by decide⟩
def msl : Value → Nat
  | .slice _ n _ => n
  | _ => 0
theorem le_byte (z : Nat) (h : z < 256) : le z 1 = [UInt8.ofNat z] ∧ ((UInt8.ofNat z).toNat : Int) = (z : Int) := by
  refine ⟨?_, ?_⟩
  · rw [le_cons, Nat.mod_eq_of_lt h]
    rfl
  · rw [UInt8.toNat_ofNat']
    omega
theorem u8_wrap (z : Nat) (h : z < 256) : IntKind.u8.wrap (z : Int) = (z : Int) := by
  unfold IntKind.wrap
  simp [IntKind.signed, IntKind.bits]
  omega
def t0 (G PH T n : Nat) : Bytes := mark4 ++ (le G 1 ++ (le PH 1 ++ (le T 1 ++ le n 1)))
theorem t0_len (G PH T n : Nat) : (t0 G PH T n).length = 8 := by
  unfold t0 mark4
  simp only [List.length_append, le_length, List.length_cons, List.length_nil]
theorem t0_own (W : World) (G PH T n : Nat) (h1 : G < 256) (h2 : PH < 256) (h3 : T < 256) (h4 : n < 256) : OwnF (W.heap.size ≤ ·) W.heap.size W (W.alloc (.cells #[.int .u8 82, .int .u8 71, .int .u8 65, .int .u8 85, .int .u8 (G : Nat), .int .u8 (PH : Nat), .int .u8 (T : Nat), .int .u8 (n : Nat)] 5)) (.slice (some ⟨W.heap.size, 0, none⟩) 8 8) (t0 G PH T n) := by
  have e : (cb (t0 G PH T n)).toArray = #[.int .u8 82, .int .u8 71, .int .u8 65, .int .u8 85, .int .u8 (G : Nat), .int .u8 (PH : Nat), .int .u8 (T : Nat), .int .u8 (n : Nat)] := by
    unfold t0
    rw [(le_byte G h1).1, (le_byte PH h2).1, (le_byte T h3).1, (le_byte n h4).1]
    unfold cb mark4
    simp only [List.cons_append, List.nil_append, List.map_cons, List.map_nil, (le_byte G h1).2, (le_byte PH h2).2, (le_byte T h3).2, (le_byte n h4).2]
    rfl
  have h := own_lit W W.heap.size (t0 G PH T n) (Nat.le_refl _) (by rw [t0_len]; decide)
  rw [e, t0_len] at h
  refine ⟨by rw [t0_len]; exact h, fun j hj => ?_, (Only.refl _ W).alloc (fun _ h => h) _, by simp, fun j hj => hj⟩
  cases hj
  exact Nat.le_refl _
section
variable (w : World) (A : Option Addr) (n c : Nat)
set_option maxRecDepth 100000 in
set_option maxHeartbeats 3200000 in
theorem rmEnc_no (g ph t x r p l : Int) (hok : okM g ph t x r p l n = false) : Calls Tryz.prog 48 #[.agg #[.int .i64 g, .int .i64 ph, .int .i64 t, .int .i64 x, .int .i64 r, .int .i64 p, .int .i64 l, .slice A n c]] w (GaveBE w [] 92) := by
  have HO : Hid (Only (w.heap.size ≤ ·) w (w.alloc (.cells #[.int .i64 g, .int .i64 ph, .int .i64 t, .int .i64 x, .int .i64 r, .int .i64 p, .int .i64 l, .slice A n c] 25))) := Lib.hid ((Only.refl _ w).alloc (fun _ h => h) _)
  have HR : Hid (∀ W, Calls Tryz.prog 47 #[.agg #[.int .i64 g, .int .i64 ph, .int .i64 t, .int .i64 x, .int .i64 r, .int .i64 p, .int .i64 l, .slice A n c]] W (Told W (.bool false))) := Lib.hid fun W => by have h := rmRight_c W g ph t x r p l A n c; rwa [hok] at h
  clear hok
  go_enter Tryz.func48, Tryz.ntmps48
  go_wp2_with (go_at_call 47; (with_reducible refine (HR.out _).mono ?_); rintro ee w2 ⟨rfl, ho⟩; (replace HO := Lib.hid (on_new HO.out ho)); clear ho)
  go_ret2
  exact ⟨_, rfl, Src.nil_ _, HO.out⟩
set_option maxRecDepth 100000 in
set_option maxHeartbeats 12800000 in
theorem rmEnc_go {G PH T X R P L k : Nat} (xs : Bytes) (h : Nats G PH T X R P L k xs) (hok : okM (G : Int) PH T X R P L n = true) (hs : Src w (.slice A n c) xs) (hn : n = xs.length) : Calls Tryz.prog 48 #[.agg #[.int .i64 (G : Nat), .int .i64 (PH : Nat), .int .i64 (T : Nat), .int .i64 (X : Nat), .int .i64 (R : Nat), .int .i64 (P : Nat), .int .i64 (L : Nat), .slice A n c]] w (GaveBE w (sealB (metaR (metaH G PH T X R P L k xs)) 252) 0) := by
  obtain ⟨w1, hw1⟩ : ∃ W0, W0 = w.alloc (.cells #[.int .i64 (G : Nat), .int .i64 (PH : Nat), .int .i64 (T : Nat), .int .i64 (X : Nat), .int .i64 (R : Nat), .int .i64 (P : Nat), .int .i64 (L : Nat), .slice A n c] 25) := ⟨_, rfl⟩
  have HO : Hid (Only (w.heap.size ≤ ·) w w1) := Lib.hid (by rw [hw1]; exact (Only.refl _ w).alloc (fun _ h => h) _)
  have HA : Hid (Blk w1 w.heap.size 25 [.int .i64 (G : Nat), .int .i64 (PH : Nat), .int .i64 (T : Nat), .int .i64 (X : Nat), .int .i64 (R : Nat), .int .i64 (P : Nat), .int .i64 (L : Nat), .slice A n c]) := Lib.hid (by rw [hw1]; exact Blk.new w 25 _)
  have HR : Hid (∀ W, Calls Tryz.prog 47 #[.agg #[.int .i64 (G : Nat), .int .i64 (PH : Nat), .int .i64 (T : Nat), .int .i64 (X : Nat), .int .i64 (R : Nat), .int .i64 (P : Nat), .int .i64 (L : Nat), .slice A n c]] W (Told W (.bool true))) := Lib.hid fun W => by have h := rmRight_c W (G : Int) PH T X R P L A n c; rwa [hok] at h
  have HIW : Hid (∀ W, Calls Tryz.prog 67 #[.int .i64 (G : Nat)] W fun e w' => e = .returned (.int .i64 (k : Nat)) ∧ W = w') := Lib.hid fun W => by have h2 := rIdWidth_c W (G : Int); rwa [h.hk] at h2
  have HSC : Hid (∀ W, Only (w.heap.size ≤ ·) w W → Src W (.slice A n c) xs) := Lib.hid fun W hW => hs.later hW
  have hk48 := h.k48
  have hx24 := h.hx
  have hG3 := h.hG
  have hPH1 := h.hPH
  have hT3 := h.hT
  have hb1 := h.hX
  have hb2 := h.hP
  have hb3 := h.hR
  have hb4 := h.hL
  have wG := u8_wrap G (by omega)
  have wPH := u8_wrap PH (by omega)
  have wT := u8_wrap T (by omega)
  have wn := u8_wrap n (by omega)
  have HT0 : Hid (∀ W, OwnF (W.heap.size ≤ ·) W.heap.size W (W.alloc (.cells #[.int .u8 82, .int .u8 71, .int .u8 65, .int .u8 85, .int .u8 (G : Nat), .int .u8 (PH : Nat), .int .u8 (T : Nat), .int .u8 (n : Nat)] 5)) (.slice (some ⟨W.heap.size, 0, none⟩) 8 8) (t0 G PH T n)) := Lib.hid fun W => t0_own W G PH T n (by omega) (by omega) (by omega) (by omega)
  obtain ⟨q0, hq0⟩ : ∃ q, q = t0 G PH T n := ⟨_, rfl⟩
  rw [← hq0] at HT0
  have HL0 : q0.length = 8 := by rw [hq0, t0_len]
  have HL1 : Hid (q0.length + k ≤ 65536) := Lib.hid (by omega)
  have HL2 : Hid ((q0 ++ le X k).length + k ≤ 65536) := Lib.hid (by rw [List.length_append, le_length]; omega)
  have HL3 : Hid ((q0 ++ le X k ++ le R k).length + k ≤ 65536) := Lib.hid (by rw [List.length_append, List.length_append, le_length, le_length]; omega)
  have HL4 : Hid ((q0 ++ le X k ++ le R k ++ le P k).length + k ≤ 65536) := Lib.hid (by rw [List.length_append, List.length_append, List.length_append, le_length, le_length, le_length]; omega)
  have HX : Hid (X < 9223372036854775808) := Lib.hid (by omega)
  have HRR : Hid (R < 9223372036854775808) := Lib.hid (by omega)
  have HP : Hid (P < 9223372036854775808) := Lib.hid (by omega)
  have HLL : Hid (L < 9223372036854775808) := Lib.hid (by omega)
  have HY : Hid (q0 ++ le X k ++ le R k ++ le P k ++ le L k ++ xs = metaH G PH T X R P L k xs) := Lib.hid (by rw [hq0, hn]; unfold t0 metaH; simp only [List.append_assoc])
  obtain ⟨Y, hY⟩ : ∃ Y, Y = metaH G PH T X R P L k xs := ⟨_, rfl⟩
  rw [← hY] at HY
  have HYE := Lib.hid hY
  obtain ⟨ny, hny⟩ : ∃ ny, ny = Y.length := ⟨_, rfl⟩
  have hnyl : ny ≤ 64 := by rw [hny, hY, metaH_len]; omega
  have HNY := Lib.hid hny
  have HL5 : Hid ((q0 ++ le X k ++ le R k ++ le P k ++ le L k).length + xs.length ≤ 65536) := Lib.hid (by rw [List.length_append, List.length_append, List.length_append, List.length_append, le_length, le_length, le_length, le_length]; omega)
  clear h hok hs hn hk48 hx24 hG3 hPH1 hT3 hb1 hb2 hb3 hb4 hq0 HL0 hY hny
  obtain ⟨i0, i1, i2, i3, i4, i5, i6, i7⟩ := HA.out.eight
  go_enter Tryz.func48, Tryz.ntmps48
  go_upto_region 1 with (fail)
  rw [← hw1]
  clear hw1
  go_upto_region 3 with (go_at_call 47; (with_reducible refine (HR.out _).mono ?_); rintro ee w2 ⟨rfl, ho⟩; (replace HA := Lib.hid (HA.out.later ho)); (replace HO := Lib.hid (on_new HO.out ho)); clear ho i0 i1 i2 i3 i4 i5 i6 i7)
  obtain ⟨i0, i1, i2, i3, i4, i5, i6, i7⟩ := HA.out.eight
  go_upto_region 5 with (go_at_call 67; (with_reducible refine (HIW.out _).mono ?_); rintro ee w' ⟨rfl, rfl⟩)
  clear i0 i1 i2 i3 i4 i5 i6 i7 wG wPH wT wn
  have HM : Hid (OwnF (w2.heap.size ≤ ·) w2.heap.size w2 (w2.alloc (.cells #[.int .u8 82, .int .u8 71, .int .u8 65, .int .u8 85, .int .u8 (G : Nat), .int .u8 (PH : Nat), .int .u8 (T : Nat), .int .u8 (n : Nat)] 5)) (.slice (some ⟨w2.heap.size, 0, none⟩) 8 8) q0) := Lib.hid (HT0.out w2)
  have KC : Hid (∀ W, Only (w2.heap.size ≤ ·) w2 W → W.cell? ⟨w.heap.size, 0, none⟩ = some (.int .i64 (G : Nat)) ∧ W.cell? ⟨w.heap.size, 1, none⟩ = some (.int .i64 (PH : Nat)) ∧ W.cell? ⟨w.heap.size, 2, none⟩ = some (.int .i64 (T : Nat)) ∧ W.cell? ⟨w.heap.size, 3, none⟩ = some (.int .i64 (X : Nat)) ∧ W.cell? ⟨w.heap.size, 4, none⟩ = some (.int .i64 (R : Nat)) ∧ W.cell? ⟨w.heap.size, 5, none⟩ = some (.int .i64 (P : Nat)) ∧ W.cell? ⟨w.heap.size, 6, none⟩ = some (.int .i64 (L : Nat)) ∧ W.cell? ⟨w.heap.size, 7, none⟩ = some (.slice A n c)) := Lib.hid fun W hW => (HA.out.later hW).eight
  have HON : Hid (∀ W, Only (w2.heap.size ≤ ·) w2 W → Only (w.heap.size ≤ ·) w W) := Lib.hid fun W hW => on_new HO.out hW
  replace HM := Lib.hid HM.out.drew
  refine wp_region_list (B := [false, false, false, false, false, false, false, false, false, false, false, false, false, false, false, false, false, false]) (S := (fun W => W.cell? ⟨w.heap.size, 0, none⟩ = some (.int .i64 (G : Nat)) ∧ W.cell? ⟨w.heap.size, 1, none⟩ = some (.int .i64 (PH : Nat)) ∧ W.cell? ⟨w.heap.size, 2, none⟩ = some (.int .i64 (T : Nat)) ∧ W.cell? ⟨w.heap.size, 3, none⟩ = some (.int .i64 (X : Nat)) ∧ W.cell? ⟨w.heap.size, 4, none⟩ = some (.int .i64 (R : Nat)) ∧ W.cell? ⟨w.heap.size, 5, none⟩ = some (.int .i64 (P : Nat)) ∧ W.cell? ⟨w.heap.size, 6, none⟩ = some (.int .i64 (L : Nat)) ∧ W.cell? ⟨w.heap.size, 7, none⟩ = some (.slice A n c))) (by kernel_rfl) (by kernel_rfl) (by kernel_rfl) (KC.out _ HM.out.2.2.1) (fun hsel hHeld => ?_)
  generalize hwz : World.drew _ = wz at HM hHeld ⊢
  clear hwz
  refine oneA 0 26 hsel (h := ?_)
  simp only [Act.put, lsa, lsz, lss]
  refine oneA 1 27 hsel (h := ?_)
  simp only [Act.put, lsa, lsz, lss]
  refine oneA 2 28 hsel (h := ?_)
  simp only [Act.put, lsa, lsz, lss]
  refine oneA 3 29 hsel (h := ?_)
  simp only [Act.put, lsa, lsz, lss]
  refine oneA 5 31 hsel (h := ?_)
  simp only [Act.put, lsa, lsz, lss]
  refine oneA 6 32 hsel (h := ?_)
  simp only [Act.put, lsa, lsz, lss]
  refine oneA 7 33 hsel (h := ?_)
  simp only [Act.put, lsa, lsz, lss]
  refine oneA 9 35 hsel (h := ?_)
  simp only [Act.put, lsa, lsz, lss]
  refine oneA 10 36 hsel (h := ?_)
  simp only [Act.put, lsa, lsz, lss]
  refine oneA 11 37 hsel (h := ?_)
  simp only [Act.put, lsa, lsz, lss]
  refine oneA 13 39 hsel (h := ?_)
  simp only [Act.put, lsa, lsz, lss]
  refine oneA 14 40 hsel (h := ?_)
  simp only [Act.put, lsa, lsz, lss]
  refine oneA 15 41 hsel (h := ?_)
  simp only [Act.put, lsa, lsz, lss]
  refine wpAnyL_ready (rs := [4]) (by kernel_rfl) (by kernel_rfl) (by simp) ?_
  refine AllReadyL.cons (o := ?_) ?_ (fun K hK => ?_) AllReadyL.nil
  case refine_2 => (simp only [List.getElem?_cons_succ, List.getElem?_cons_zero]; rfl)
  go_simp
  (go_at_call 68; (with_reducible refine (rmput_f _ _ _ _ _ _ X k HM.out HL1.out HX.out).mono ?_); rintro ee w5 ⟨v5, rfl, hm⟩; (replace HM := Lib.hid hm); clear hm)
  go_wp2_with (fail)
  clear hHeld
  refine hK.out _ _ (KC.out _ HM.out.2.2.1) (fun hHeld => ?_)
  clear hK K
  try simp only [List.set_cons_zero, List.set_cons_succ]
  refine wpAnyL_ready (rs := [8]) (by kernel_rfl) (by kernel_rfl) (by simp) ?_
  refine AllReadyL.cons (o := ?_) ?_ (fun K hK => ?_) AllReadyL.nil
  case refine_2 => (simp only [List.getElem?_cons_succ, List.getElem?_cons_zero]; rfl)
  go_simp
  (go_at_call 68; (with_reducible refine (rmput_f _ _ _ _ _ _ R k HM.out HL2.out HRR.out).mono ?_); rintro ee w5 ⟨v5, rfl, hm⟩; (replace HM := Lib.hid hm); clear hm)
  go_wp2_with (fail)
  clear hHeld
  refine hK.out _ _ (KC.out _ HM.out.2.2.1) (fun hHeld => ?_)
  clear hK K
  try simp only [List.set_cons_zero, List.set_cons_succ]
  refine wpAnyL_ready (rs := [12]) (by kernel_rfl) (by kernel_rfl) (by simp) ?_
  refine AllReadyL.cons (o := ?_) ?_ (fun K hK => ?_) AllReadyL.nil
  case refine_2 => (simp only [List.getElem?_cons_succ, List.getElem?_cons_zero]; rfl)
  go_simp
  (go_at_call 68; (with_reducible refine (rmput_f _ _ _ _ _ _ P k HM.out HL3.out HP.out).mono ?_); rintro ee w5 ⟨v5, rfl, hm⟩; (replace HM := Lib.hid hm); clear hm)
  go_wp2_with (fail)
  clear hHeld
  refine hK.out _ _ (KC.out _ HM.out.2.2.1) (fun hHeld => ?_)
  clear hK K
  try simp only [List.set_cons_zero, List.set_cons_succ]
  refine wpAnyL_ready (rs := [16]) (by kernel_rfl) (by kernel_rfl) (by simp) ?_
  refine AllReadyL.cons (o := ?_) ?_ (fun K hK => ?_) AllReadyL.nil
  case refine_2 => (simp only [List.getElem?_cons_succ, List.getElem?_cons_zero]; rfl)
  go_simp
  (go_at_call 68; (with_reducible refine (rmput_f _ _ _ _ _ _ L k HM.out HL4.out HLL.out).mono ?_); rintro ee w5 ⟨v5, rfl, hm⟩; (replace HM := Lib.hid hm); clear hm)
  go_wp2_with (fail)
  clear hHeld
  refine hK.out _ _ (KC.out _ HM.out.2.2.1) (fun hHeld => ?_)
  clear hK K
  try simp only [List.set_cons_zero, List.set_cons_succ]
  refine oneA 17 5 hsel (h := ?_)
  simp only [Act.put, lsa, lsz, lss]
  refine wpAnyL_done (by kernel_rfl) (by kernel_rfl) ?_ _
  clear hsel hHeld
  obtain ⟨i0, i1, i2, i3, i4, i5, i6, i7⟩ := KC.out _ HM.out.2.2.1
  go_upto_region 7 with (at_builtin; refine wpList_append_f rfl (.tmp 43) (.tmp 45) rfl _ _ rfl HM.out rfl (HSC.out _ (HON.out _ HM.out.2.2.1)) HL5.out ?_; intro v' w' ho'; have HM6 := Lib.hid ho'; clear ho')
  rw [HY.out] at HM6
  obtain ⟨R0, cc, hv⟩ := HM6.out.raw
  subst hv
  go_loopw [5] (fun bv wr => ∃ (t : Nat) (R : Option Addr) (cc : Nat), ny + t ≤ 248 ∧ bv = .slice R (ny + t) cc ∧ Hid (OwnF (w2.heap.size ≤ ·) w2.heap.size w2 wr (.slice R (ny + t) cc) (Y ++ List.replicate t 0))) (fun bv _ => 248 - (msl bv))
  case atStart => exact ⟨0, R0, cc, by omega, by rw [HNY.out]; rfl, Lib.hid (by have h := HM6.out; rw [← HNY.out] at h; simpa using h)⟩
  case round =>
    obtain ⟨t, Ra, ca, ht, rfl, HW⟩ := hrel
    clear i0 i1 i2 i3 i4 i5 i6 i7
    by_cases hlt : ny + t < 248
    · have hli : ((ny + t : Nat) : Int) < 248 := by omega
      have hli2 : (ny : Int) + (t : Int) < 248 := by omega
      have HLN : Hid ((Y ++ List.replicate t 0).length + [(0 : UInt8)].length ≤ 65536) := Lib.hid (by rw [List.length_append, List.length_replicate, ← HNY.out]; simp; omega)
      have HLE : Hid ((Y ++ List.replicate t 0 ++ [(0 : UInt8)]).length = ny + (t + 1)) := Lib.hid (by rw [List.length_append, List.length_append, List.length_replicate, ← HNY.out]; simp; omega)
      go_wp2_with (at_builtin; refine wpList_append_f rfl (.tmp 50) (.tmp 51) rfl _ _ rfl (HW.out.alloc _) rfl (src_one wr 0 0 rfl) HLN.out ?_; intro v' w' ho'; obtain ⟨R2, c2, hv2⟩ := ho'.raw; rw [HLE.out] at hv2; subst hv2; have HX := Lib.hid ho'; clear ho')
      go_roundw
      case rel => exact ⟨t + 1, R2, c2, by omega, rfl, by rw [List.replicate_succ', ← List.append_assoc]; exact HX⟩
      case measure => simp [msl]; omega
    · have hli : ¬ ((ny + t : Nat) : Int) < 248 := by omega
      have hli2 : ¬ (ny : Int) + (t : Int) < 248 := by omega
      have HT : Hid (t = 248 - ny) := Lib.hid (by omega)
      have HLN : Hid ((Y ++ List.replicate t 0).length + tail8.length ≤ 65536) := Lib.hid (by rw [List.length_append, List.length_replicate, ← HNY.out]; show ny + t + 8 ≤ 65536; omega)
      have HLX : Hid ((Y ++ List.replicate t 0 ++ tail8).length ≤ 65536) := Lib.hid (by rw [List.length_append]; exact HLN.out)
      go_wp2_with (first
        | (at_builtin; refine wpList_append_f rfl (.tmp 53) (.tmp 54) rfl _ _ rfl (HW.out.alloc _) rfl (src_tail8 wr) HLN.out ?_; intro v' w' ho'; have HX := Lib.hid ho'; clear ho')
        | (go_at_call 69; (with_reducible refine (rSeal_t _ _ _ HX.out.src HLX.out).mono ?_); rintro ee w9 ⟨v9, rfl, hs9, ho9⟩; have HS9 := Lib.hid hs9; have HO9 := Lib.hid (on_new HX.out.2.2.1 ho9); clear hs9 ho9))
      go_ret2
      refine ⟨v9, rfl, ?_, HON.out _ HO9.out⟩
      have e : metaR (metaH G PH T X R P L k xs) = Y ++ List.replicate t 0 ++ tail8 := by
        rw [← HYE.out, HT.out, HNY.out]
        rfl
      rw [e]
      exact HS9.out
end
theorem rmEncode_l (W : World) (g ph t x r p l : Int) (A : Option Addr) (n c : Nat) (xs : Bytes) (hs : Src W (.slice A n c) xs) (hn : n = xs.length) :
    Calls Tryz.prog 48 #[.agg #[.int .i64 g, .int .i64 ph, .int .i64 t, .int .i64 x, .int .i64 r, .int .i64 p, .int .i64 l, .slice A n c]] W (GaveBE W (if okL [g, ph, t, x, r, p, l] xs.length = true then encB [g, ph, t, x, r, p, l] xs else []) (if okL [g, ph, t, x, r, p, l] xs.length = true then 0 else 92)) := by
  by_cases h : okL [g, ph, t, x, r, p, l] xs.length = true
  · rw [if_pos h, if_pos h]
    have hp : okP g ph t x r p l xs.length := of_decide_eq_true h
    obtain ⟨G, PH, T, X, R, P, L, k, rfl, rfl, rfl, rfl, rfl, rfl, rfl, hN⟩ := nats_of hp
    have h2 := rmEnc_go W A n c xs hN (by rw [hn]; exact h) hs hn
    have e : sealB (metaR (metaH G PH T X R P L k xs)) 252 = encB [(G : Int), PH, T, X, R, P, L] xs := by
      rw [encB_eq hN]
      unfold sealB
      rw [if_pos (by rw [metaR_len hN]; rfl)]
      rfl
    rwa [e] at h2
  · rw [if_neg h, if_neg h]
    exact rmEnc_no W A n c g ph t x r p l (by rw [hn]; simpa [okL] using h)
end Go.Proofs.YtbpldkhgiddmlaaGreatDoor
