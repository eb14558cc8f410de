/-
  Several texts, as one.
-/
import Derived.Test.YtbgnfocfnjlabaaDoorPfo
import Derived.Lib.SliceRun
import Derived.Test.YtbgnfocfnjlabaaDoorLnk
import Derived.Test.YtbgnfocfnjlabaaDoorRwr
import Derived.Test.YtbgnfocfnjlabaaDoorOtr
import Derived.Test.YtbgnfocfnjlabaaDoorGb
import Derived.Test.YtbgnfocfnjlabaaDoorOen
/-
  clearSum: four bytes of a row of the call's own become zeros.
-/
set_option linter.unusedVariables false
namespace Go.Proofs.YtbgnfocfnjlabaaDoor
open Go.RowKit

/-- Bytes 4 to 7 are zeros. -/
def clrB (xs : Bytes) : Bytes := xs.take 4 ++ ([0, 0, 0, 0] ++ xs.drop 8)
theorem clrB_len (xs : Bytes) (h : 8 ≤ xs.length) : (clrB xs).length = xs.length := by simp [clrB]; omega
theorem cb_zeros4 : cb [0, 0, 0, 0] = [z8, z8, z8, z8] := by rfl
set_option maxRecDepth 100000 in
set_option maxHeartbeats 3200000 in
theorem OclearSum_c (w : World) (b : Nat) (v : Value) (xs : Bytes) (h : Row8 w b v xs) (hn : 8 ≤ xs.length) (hm : xs.length ≤ 65536) :
    Calls Tryd.prog 67 #[v] w fun e w' => (∃ r, e = .returned r) ∧ Row8 w' b v (clrB xs) ∧ Only (fun k => v.ownBlock = some k) w w' := by
  have hll := clrB_len xs hn
  rcases h.2 with ⟨_, h0⟩ | ⟨g, cap, cur, rfl, hbg, hg, hnc, hcpm, hcs, htake⟩
  · omega
  have hB : Blk w g 5 cur.toList := hg
  have hcl : cur.toList.length = cap := by rw [Array.length_toList, hcs, Nat.mul_one]
  have hc : ∀ ty c, (Builtin.clear_ #[27] ty #[.slice (some ⟨g, 4, none⟩) 4 c]).run Tryd.prog w = .ok (.tuple #[]) (w.setCells g 4 [z8, z8, z8, z8]) := fun ty c =>
    Lib.run_clear_slice w 27 5 ty z8 Tryd.underlying27 (fun W => Tryd.zeroValue5 W) rfl rfl g 4 4 c (by omega) (fun j hj => by rw [hB.cell, List.getElem?_eq_getElem (by omega)]; rfl) (fun j hj => hB.frozen _)
  have hB2 : Blk (w.setCells g 4 [z8, z8, z8, z8]) g 5 (over cur.toList 4 [z8, z8, z8, z8]) := hB.setN [z8, z8, z8, z8] 4 (by simp only [List.length_cons, List.length_nil]; omega)
  have ho : Only (fun k => (Value.slice (some ⟨g, 0, none⟩) xs.length cap).ownBlock = some k) w (w.setCells g 4 [z8, z8, z8, z8]) := (Only.refl _ w).setCells _ _ _ rfl
  have hR : Row8 (w.setCells g 4 [z8, z8, z8, z8]) b (.slice (some ⟨g, 0, none⟩) xs.length cap) (clrB xs) := by
    refine ⟨by rw [cb_length, hll, Nat.mul_one], .inr ⟨g, cap, (over cur.toList 4 [z8, z8, z8, z8]).toArray, by rw [hll], hbg, hB2, by rw [hll]; exact hnc, hcpm, ?_, ?_⟩⟩
    · rw [List.size_toArray, over_length _ _ _ (by simp only [List.length_cons, List.length_nil]; omega), hcl, Nat.mul_one]
    · have e1 : cur.toList = cb xs ++ cur.toList.drop xs.length := by
        rw [← htake, Nat.mul_one]
        exact (List.take_append_drop _ _).symm
      have e2 : over (cb xs) 4 [z8, z8, z8, z8] = cb (clrB xs) := by
        unfold over clrB
        rw [cb_append, cb_append, cb_zeros4]
        simp [cb, List.map_take, List.map_drop]
      rw [hll, Nat.mul_one]
      show (over cur.toList 4 [z8, z8, z8, z8]).take xs.length = _
      rw [e1, over_append _ _ _ _ (by rw [cb_length]; simp only [List.length_cons, List.length_nil]; omega), e2]
      exact List.take_left' (by rw [cb_length, hll])
  have H := Lib.hid (And.intro hR ho)
  obtain ⟨n, hxn⟩ : ∃ n, n = xs.length := ⟨_, rfl⟩
  rw [← hxn] at H hn hm hnc ⊢
  have c1 : ¬ cap = 4 := by omega
  have c2 : (8 : Int) ≤ (cap : Int) := by omega
  clear h hll hg hcs htake hcl hB hB2 ho hR hxn
  go_enter Tryd.func67, Tryd.ntmps67
  go_wp2
  go_end0
  exact ⟨⟨_, rfl⟩, H.out⟩
end Go.Proofs.YtbgnfocfnjlabaaDoor

/-
  bare: an extent without its sum.
-/
set_option linter.unusedVariables false
namespace Go.Proofs.YtbgnfocfnjlabaaDoor
open Go.RowKit

/-- An extent's bodies: the value, and zeros. -/
def bodX (v : Bytes) (L : Nat) : Bytes := v ++ List.replicate (L - v.length) 0
/-- Its first page, with a sum of its own. -/
def wrX (v : Bytes) (M : Nat) : Bytes := wrapB 79 3 (M : Int) (v.length : Int) ((bodX v (M * 256 - 16)).take 240)
def bareB (v : Bytes) (M : Nat) : Bytes := clrB (wrX v M ++ (bodX v (M * 256 - 16)).drop 240)
theorem bodX_len {v : Bytes} {L : Nat} (h : v.length ≤ L) : (bodX v L).length = L := by simp [bodX]; omega
theorem wrX_len {v : Bytes} {M : Nat} (h0 : 1 ≤ M) (h1 : M ≤ 7) (hv : v.length ≤ 1600) (hb : v.length ≤ M * 256 - 16) : (wrX v M).length = 256 := by
  have hl : ((bodX v (M * 256 - 16)).take 240).length = 240 := by rw [List.length_take, bodX_len hb]; omega
  unfold wrX
  have hk : (kindOk (79 : Nat) && gen (3 : Nat)) = true := by kernel_rfl
  have h2 := wrap_good (k := 79) (g := 3) (n := M) (x := v.length) (body := (bodX v (M * 256 - 16)).take 240) hk (by unfold rwBad; rw [hl]; simp [tr]; omega) (by omega)
  have h3 := wrapP_shape (k := 79) (g := 3) (n := M) (x := v.length) (body := (bodX v (M * 256 - 16)).take 240) (by kernel_rfl) (by kernel_rfl) (by omega) (by omega) (by simp [tr]; omega) (by rw [hl]; simp [tr])
  obtain ⟨⟨⟨G, hG, e⟩, _, _, _, _, _, hT⟩, _⟩ := h3
  have e2 : wrapB 79 3 (M : Int) (v.length : Int) ((bodX v (M * 256 - 16)).take 240) = _ := h2.2.trans e
  rw [e2]
  simp only [List.length_cons, List.length_append, le_length, hG, hT]
  simp [tr, gap]
theorem manyP_ext {n M : Nat} (h : manyP 3 (n : Int) = (M : Int)) (h0 : 1 ≤ M) : 33 ≤ n ∧ n ≤ 1600 ∧ M ≤ 7 ∧ n + 16 ≤ M * 256 ∧ (M - 1) * 256 < n + 16 := by
  by_cases hm : (n : Int) ≤ 32 ∨ tr 3 400 800 1600 < (n : Int)
  · rw [manyP_no hm] at h; omega
  · have e := manyP_of hm
    simp only [tr, reduceIte, Int.reduceEq] at hm e
    omega
theorem wp_bytes {w : World} {o : Oper} {a : Act} {K : Act → World → Prop} {Q : Exit → Act → World → Prop} (s x : Operand)
    (ho : o.op = .call { callee := .builtin .append, args := #[s, x], argTypes := #[27, 27] }) (base : Nat) (v u : Value) (xs ys : Bytes) (hs : a.eval s = v) (hown : Row8 w base v xs) (hx : a.eval x = u) (hy : Src w u ys) (hl : xs.length + ys.length ≤ 100000000) (hbase : base ≤ w.heap.size)
    (hne : ∀ A c n, u = .slice A n c → A ≠ none)
    (h : ∀ v' w', Row8 w' base v' (xs ++ ys) → w.grownBy w' v.ownBlock → (v'.ownBlock = v.ownBlock ∨ v'.ownBlock = some w.heap.size) → K (a.put o.dst v') w') : o.wp Tryd.prog a w K Q := by
  obtain ⟨i0, hi0, hz0, hz1, hz2⟩ := info_parts info8
  obtain ⟨A, c, rfl, ht, hA, hc, hm⟩ := hy
  cases A with
  | some ad =>
    exact wp_append_at s x 27 ho base 5 i0 _ 1 1 Tryd.underlying27 hi0 hz0 hz1 hz2 (by rfl) (by omega) v xs.length (cb xs) hs hown ad ys.length c (cb ys) hx (by rw [cb_length, Nat.mul_one]) (fun j y hy => ht.src ad rfl j y hy) (cb_one _) (by simp only [maxLen]; omega) (by omega) hbase fun v' w' h1 h2 h3 => h v' w' (by unfold Row8; rw [List.length_append, cb_append]; exact h1) h2 h3
  | none => exact absurd rfl (hne none c ys.length rfl)
set_option maxRecDepth 100000 in
set_option maxHeartbeats 6400000 in
theorem Obare_c (w : World) (A : Option Addr) (c n M : Nat) (v : Bytes) (hG : Gens w) (hv : Src w (.slice A n c) v) (hM : manyP 3 (n : Int) = (M : Int)) (h0 : 1 ≤ M) :
    Calls Tryd.prog 37 #[.int .i64 3, .slice A n c] w (GaveQ w (bareB v M)) := by
  obtain ⟨e1, e2, e3, e4, e5⟩ := manyP_ext hM h0
  obtain ⟨b, off, rfl, hnv, hcn, hcm, hvb⟩ := src_form hv (by omega)
  obtain ⟨N, hN⟩ : ∃ N, N = M * 256 - 16 := ⟨_, rfl⟩
  have hNI : (M : Int) * 256 - 16 = (N : Int) := by omega
  have hN1 : 240 ≤ N := by omega
  have hN2 : N ≤ 1776 := by omega
  have hnN : n ≤ N := by omega
  have HBL : Hid ((bodX v N).length = N) := Lib.hid (bodX_len (by omega))
  have HWL : Hid ((wrX v M).length = 256) := Lib.hid (wrX_len h0 e3 (by omega) (by omega))
  have HMY : Hid (∀ W, Gens W → Calls Tryd.prog 7 #[.int .i64 3, .int .i64 (n : Nat)] W (Told W (.int .i64 (M : Nat)))) := Lib.hid fun W hW => by rw [← hM]; exact OMany_c W 3 n hW
  have HHD : Hid (∀ W, Gens W → Calls Tryd.prog 22 #[.int .i64 3] W (Told W (.int .i64 16))) := Lib.hid fun W hW => by have := Head_c W 3 hW; simpa [tr] using this
  have HCP : Hid (∀ W, Gens W → Calls Tryd.prog 21 #[.int .i64 3] W (Told W (.int .i64 240))) := Lib.hid fun W hW => by have := Cap_c W 3 hW; simpa [tr] using this
  have HV := Lib.hid hv
  have HG := Lib.hid hG
  have HNV := Lib.hid hnv
  have HNN := Lib.hid hN
  obtain ⟨ZZ, hZZ⟩ : ∃ ZZ, ZZ = List.replicate N z8 := ⟨_, rfl⟩
  have hmk : ∀ W : World, (Instr.makeSlice 27 (.int .i64 (N : Nat)) (.int .i64 (N : Nat))).run Tryd.prog W = .ok (.slice (some ⟨W.heap.size, 0, none⟩) N N) (W.alloc (.cells ZZ.toArray 5)) := fun W => by rw [hZZ]; exact run_make8 N (by omega) W
  have HZZ := Lib.hid hZZ
  have HE1 := Lib.hid (And.intro e1 (And.intro e2 (And.intro e3 (And.intro e4 e5))))
  have HHC := Lib.hid (And.intro hcn hcm)
  clear hZZ hG hv hnv hM h0 hN e1 e2 e3 e4 e5 hcn hcm
  go_enter Tryd.func37, Tryd.ntmps37
  go_upto_region 3 with (first | (go_at_call 7; refine (HMY.out _ HG.out).mono ?_; rintro ee w1 ⟨rfl, ho⟩; have HO := Lib.hid ho; clear ho) | (go_at_call 22; refine (HHD.out _ (HG.out.later HO.out)).mono ?_; rintro ee w2 ⟨rfl, ho⟩; (replace HO := Lib.hid (on_new HO.out ho)); clear ho))
  obtain ⟨w3, hw3⟩ : ∃ W, W = w2.alloc (.cells ZZ.toArray 5) := ⟨_, rfl⟩
  have HO3 : Hid (Only (w2.heap.size ≤ ·) w2 w3) := Lib.hid (by rw [hw3]; exact (Only.refl _ w2).alloc (fun _ h => h) _)
  have HB3 : Hid (Blk w3 w2.heap.size 5 ZZ) := Lib.hid (by rw [hw3]; exact Blk.new w2 5 _)
  rw [← hw3]
  clear hw3 hmk
  obtain ⟨g, hg⟩ : ∃ g, g = w2.heap.size := ⟨_, rfl⟩
  have HGG : Hid (w.heap.size ≤ g) := Lib.hid (by rw [hg]; exact HO.out.size)
  replace HO := Lib.hid (on_new HO.out HO3.out)
  rw [← hg] at HB3 ⊢
  clear hg HO3 w2 w1
  have HLEN : Hid ((cb v).length = Nat.min n N) := Lib.hid (by rw [cb_length, HNV.out, ← HNV.out]; exact (Nat.min_eq_left hnN).symm)
  have HSC : Hid (∀ j u, (cb v)[j]? = some u → w3.cell? ((⟨b, off, none⟩ : Addr).add j) = some u) := Lib.hid (by
    obtain ⟨A', c', e, ht, _⟩ := HV.out.later HO.out
    simp only [Value.slice.injEq] at e
    obtain ⟨rfl, _, _⟩ := e
    exact fun j u hu => ht.src _ rfl j u hu)
  have HFIT : Hid (0 + (cb v).length ≤ ZZ.length) := Lib.hid (by rw [cb_length, HZZ.out, List.length_replicate, ← HNV.out]; omega)
  go_upto_region 5 with (first
    | (refine wpList_copy_splice rfl (.tmp 19) (.tmp 20) 27 27 rfl 5 Tryd.underlying27 size8 (some ⟨g, 0, none⟩) (some ⟨b, off, none⟩) N N n c (by simp [Act.eval]) (by simp [Act.eval]) g 0 ZZ 5 HB3.out (cb v) HLEN.out (fun _ => ⟨rfl, _, rfl, HSC.out⟩) HFIT.out (cb_one _) w.heap.size w (HO.out.toBelow fun _ h => h) HGG.out ?_; intro w4 HB4 hb4; (replace HO := Lib.hid (Only.below hb4)); clear hb4)
    | (go_at_call 21; refine (HCP.out _ (HG.out.later HO.out)).mono ?_; rintro ee w5 ⟨rfl, ho⟩; have HB5 := Lib.hid (Blk.later HB4.out ho); (replace HO := Lib.hid (on_new HO.out ho)); clear ho))
  have hsp : splice ZZ 0 (cb v) = cb (bodX v N) := by
    rw [HZZ.out]
    unfold splice bodX
    rw [cb_append]
    simp [cb, ← HNV.out]
    exact .inr rfl
  rw [hsp] at HB5
  have HBB : Hid (Blk w5 g 5 (cb (bodX v N) ++ [])) := Lib.hid (by rw [List.append_nil]; exact HB5.out)
  have HD1 : Hid (Src w5 (.slice (some ⟨g, 0, none⟩) 240 N) ((bodX v N).take 240)) := Lib.hid (by
    have h1 := Txt.blk (A := some ⟨g, 0, none⟩) HBB.out 0 240 (by rw [HBL.out]; omega) (fun _ => rfl)
    rw [List.drop_zero] at h1
    exact ⟨_, N, by rw [h1.1], by rw [h1.1]; exact h1, (fun e => by cases e), by rw [h1.1]; omega, by omega⟩)
  have HCS : Hid (∀ W r, Row8 W w5.drew.heap.size r (wrX v M ++ (bodX v N).drop 240) → Calls Tryd.prog 67 #[r] W fun e W' => (∃ r, e = .returned r) ∧ Row8 W' w.heap.size r (clrB (wrX v M ++ (bodX v N).drop 240)) ∧ Only (w.heap.size ≤ ·) W W') := Lib.hid fun W r hr =>
    (OclearSum_c W w.heap.size r _ (hr.mono HO.out.size) (by rw [List.length_append, HWL.out]; omega) (by rw [List.length_append, HWL.out, List.length_drop, HBL.out]; omega)).mono fun e W' ⟨h1, h2, h3⟩ => ⟨h1, h2, h3.mono fun k hk => (World.ownsRow.lt (hr.mono HO.out.size) k hk).1⟩
  have HWR : Hid (∀ W, Only (w5.heap.size ≤ ·) w5 W → Calls Tryd.prog 64 #[.int .i64 3, .int .i64 (M : Nat), .int .i64 (n : Nat), .slice (some ⟨g, 0, none⟩) 240 N] W (GaveQ W (wrX v M))) := Lib.hid fun W hW => by
    have h1 := HE1.out
    unfold wrX
    rw [← HNV.out, ← HNN.out]
    exact Owrap_r W 3 _ _ _ _ (HG.out.later (on_new HO.out hW)) (HD1.out.later hW) (by unfold I64; omega) (by unfold I64; omega) (by unfold I64; omega)
  have i1 : (240 : Int) ≤ (N : Int) := by omega
  clear hsp HB4 HB3 HSC HLEN HFIT w4 w3
  by_cases hq : N = 240
  · subst hq
    have HD2 : Hid (Src w5 (.slice (some ⟨g, 0, none⟩) 0 0) ((bodX v 240).drop 240)) := Lib.hid (by
      rw [List.drop_eq_nil_of_le (by rw [HBL.out]; exact Nat.le_refl _)]
      exact ⟨_, 0, rfl, ⟨rfl, fun h => by cases h⟩, (fun e => by cases e), Nat.le_refl _, by omega⟩)
    refine wp_region_list (B := [false, false, false, false, false, false, false, false, false, false, false, false, false]) (S := (fun _ => True)) (by kernel_rfl) (by kernel_rfl) (by kernel_rfl) trivial (fun hsel hHeld => ?_)
    refine oneA 0 24 hsel (h := ?_)
    simp only [Act.put, List.setIfInBounds_toArray, List.set_cons_zero, List.set_cons_succ]
    refine oneA 1 25 hsel (h := ?_)
    simp only [Act.put, List.setIfInBounds_toArray, List.set_cons_zero, List.set_cons_succ]
    refine oneA 2 26 hsel (h := ?_)
    simp only [Act.put, List.setIfInBounds_toArray, List.set_cons_zero, List.set_cons_succ]
    refine oneA 3 27 hsel (h := ?_)
    simp only [Act.put, List.setIfInBounds_toArray, List.set_cons_zero, List.set_cons_succ]
    refine oneA 4 28 hsel (h := ?_)
    simp only [Act.put, List.setIfInBounds_toArray, List.set_cons_zero, List.set_cons_succ]
    refine oneA 5 29 hsel (h := ?_)
    simp only [Act.put, List.setIfInBounds_toArray, List.set_cons_zero, List.set_cons_succ]
    refine oneA 6 30 hsel (h := ?_)
    simp only [Act.put, List.setIfInBounds_toArray, List.set_cons_zero, List.set_cons_succ]
    refine oneA 8 32 hsel (h := ?_)
    simp only [Act.put, List.setIfInBounds_toArray, List.set_cons_zero, List.set_cons_succ]
    refine oneA 9 33 hsel (h := ?_)
    simp only [Act.put, List.setIfInBounds_toArray, List.set_cons_zero, List.set_cons_succ]
    refine oneA 10 34 hsel (h := ?_)
    simp only [Act.put, List.setIfInBounds_toArray, List.set_cons_zero, List.set_cons_succ]
    refine wpAnyL_ready (rs := [7]) (by kernel_rfl) (by kernel_rfl) (by simp) ?_
    refine AllReadyL.cons (o := ?_) ?_ (fun K hK => ?_) AllReadyL.nil
    case refine_2 => (simp only [List.getElem?_cons_succ, List.getElem?_cons_zero]; rfl)
    go_simp
    (go_at_call 64; (with_reducible refine (HWR.out _ (Only.refl _ _).drew).mono ?_); rintro ee w6 ⟨r, rfl, hr, ho⟩; have HR := Lib.hid hr; have HOR := Lib.hid ho; clear hr ho)
    go_wp2_with (fail)
    clear hHeld
    refine hK.out _ _ trivial (fun hHeld => ?_)
    clear hK K
    try simp only [List.set_cons_zero, List.set_cons_succ]
    refine wpAnyL_ready (rs := [11]) (by kernel_rfl) (by kernel_rfl) (by simp) ?_
    refine AllReadyL.cons (o := ?_) ?_ (fun K hK => ?_) AllReadyL.nil
    case refine_2 => (simp only [List.getElem?_cons_succ, List.getElem?_cons_zero]; rfl)
    rw [if_pos (by kernel_rfl)]
    refine wp_bytes (.tmp 31) (.tmp 34) rfl w5.drew.heap.size r _ (wrX v M) ((bodX v 240).drop 240) rfl HR.out rfl (HD2.out.later (on_new (Only.refl _ _).drew HOR.out)) (by rw [HWL.out, List.length_drop, HBL.out]; omega) HOR.out.size (fun _ _ _ e => by cases e; simp) ?_
    intro v' w7 ho' hg' _
    have HR7 := Lib.hid ho'
    have HOR7 := Lib.hid (HOR.out.grown hg' (fun _ h => h) (fun k hk => (World.ownsRow.lt HR.out k hk).1))
    clear ho' hg'
    clear hHeld
    refine hK.out _ _ trivial (fun hHeld => ?_)
    clear hK K
    try simp only [Act.put, List.setIfInBounds_toArray, List.set_cons_zero, List.set_cons_succ]
    refine oneA 12 8 hsel (h := ?_)
    simp only [Act.put, List.setIfInBounds_toArray, List.set_cons_zero, List.set_cons_succ]
    refine wpAnyL_done (by kernel_rfl) (by kernel_rfl) ?_ _
    clear hsel hHeld
    go_wp2_with (go_at_call 67; (with_reducible refine (HCS.out w7 v' HR7.out).mono ?_); rintro ee w8 ⟨⟨_, rfl⟩, h8, ho8⟩; have H8 := Lib.hid h8; have HO8 := Lib.hid ho8; clear h8 ho8)
    go_ret
    refine ⟨v', rfl, ?_, (on_new (HO.out.drew) HOR7.out).trans HO8.out⟩
    unfold bareB
    rw [← HNN.out]
    exact H8.out
  · have HD2 : Hid (Src w5 (.slice (some ⟨g, 240, none⟩) (N - 240) (N - 240)) ((bodX v N).drop 240)) := Lib.hid (by
      have h1 := Txt.blk (A := some ⟨g, 240, none⟩) HBB.out 240 (N - 240) (by rw [HBL.out]; omega) (fun _ => rfl)
      rw [List.take_of_length_le (by rw [List.length_drop, HBL.out]; exact Nat.le_refl _)] at h1
      exact ⟨_, N - 240, by rw [h1.1], by rw [h1.1]; exact h1, (fun e => by cases e), by rw [h1.1]; exact Nat.le_refl _, by omega⟩)
    refine wp_region_list (B := [false, false, false, false, false, false, false, false, false, false, false, false, false]) (S := (fun _ => True)) (by kernel_rfl) (by kernel_rfl) (by kernel_rfl) trivial (fun hsel hHeld => ?_)
    refine oneA 0 24 hsel (h := ?_)
    simp only [Act.put, List.setIfInBounds_toArray, List.set_cons_zero, List.set_cons_succ]
    refine oneA 1 25 hsel (h := ?_)
    simp only [Act.put, List.setIfInBounds_toArray, List.set_cons_zero, List.set_cons_succ]
    refine oneA 2 26 hsel (h := ?_)
    simp only [Act.put, List.setIfInBounds_toArray, List.set_cons_zero, List.set_cons_succ]
    refine oneA 3 27 hsel (h := ?_)
    simp only [Act.put, List.setIfInBounds_toArray, List.set_cons_zero, List.set_cons_succ]
    refine oneA 4 28 hsel (h := ?_)
    simp only [Act.put, List.setIfInBounds_toArray, List.set_cons_zero, List.set_cons_succ]
    refine oneA 5 29 hsel (h := ?_)
    simp only [Act.put, List.setIfInBounds_toArray, List.set_cons_zero, List.set_cons_succ]
    refine oneA 6 30 hsel (h := ?_)
    simp only [Act.put, List.setIfInBounds_toArray, List.set_cons_zero, List.set_cons_succ]
    refine oneA 8 32 hsel (h := ?_)
    simp only [Act.put, List.setIfInBounds_toArray, List.set_cons_zero, List.set_cons_succ]
    refine oneA 9 33 hsel (h := ?_)
    simp only [Act.put, List.setIfInBounds_toArray, List.set_cons_zero, List.set_cons_succ]
    refine oneA 10 34 hsel (h := ?_)
    simp only [Act.put, List.setIfInBounds_toArray, List.set_cons_zero, List.set_cons_succ]
    refine wpAnyL_ready (rs := [7]) (by kernel_rfl) (by kernel_rfl) (by simp) ?_
    refine AllReadyL.cons (o := ?_) ?_ (fun K hK => ?_) AllReadyL.nil
    case refine_2 => (simp only [List.getElem?_cons_succ, List.getElem?_cons_zero]; rfl)
    go_simp
    (go_at_call 64; (with_reducible refine (HWR.out _ (Only.refl _ _).drew).mono ?_); rintro ee w6 ⟨r, rfl, hr, ho⟩; have HR := Lib.hid hr; have HOR := Lib.hid ho; clear hr ho)
    go_wp2_with (fail)
    clear hHeld
    refine hK.out _ _ trivial (fun hHeld => ?_)
    clear hK K
    try simp only [List.set_cons_zero, List.set_cons_succ]
    refine wpAnyL_ready (rs := [11]) (by kernel_rfl) (by kernel_rfl) (by simp) ?_
    refine AllReadyL.cons (o := ?_) ?_ (fun K hK => ?_) AllReadyL.nil
    case refine_2 => (simp only [List.getElem?_cons_succ, List.getElem?_cons_zero]; rfl)
    rw [if_pos (by kernel_rfl)]
    refine wp_bytes (.tmp 31) (.tmp 34) rfl w5.drew.heap.size r _ (wrX v M) ((bodX v N).drop 240) rfl HR.out rfl (HD2.out.later (on_new (Only.refl _ _).drew HOR.out)) (by rw [HWL.out, List.length_drop, HBL.out]; omega) HOR.out.size (fun _ _ _ e => by cases e; simp) ?_
    intro v' w7 ho' hg' _
    have HR7 := Lib.hid ho'
    have HOR7 := Lib.hid (HOR.out.grown hg' (fun _ h => h) (fun k hk => (World.ownsRow.lt HR.out k hk).1))
    clear ho' hg'
    clear hHeld
    refine hK.out _ _ trivial (fun hHeld => ?_)
    clear hK K
    try simp only [Act.put, List.setIfInBounds_toArray, List.set_cons_zero, List.set_cons_succ]
    refine oneA 12 8 hsel (h := ?_)
    simp only [Act.put, List.setIfInBounds_toArray, List.set_cons_zero, List.set_cons_succ]
    refine wpAnyL_done (by kernel_rfl) (by kernel_rfl) ?_ _
    clear hsel hHeld
    go_wp2_with (go_at_call 67; (with_reducible refine (HCS.out w7 v' HR7.out).mono ?_); rintro ee w8 ⟨⟨_, rfl⟩, h8, ho8⟩; have H8 := Lib.hid h8; have HO8 := Lib.hid ho8; clear h8 ho8)
    go_ret
    refine ⟨v', rfl, ?_, (on_new (HO.out.drew) HOR7.out).trans HO8.out⟩
    unfold bareB
    rw [← HNN.out]
    exact H8.out
end Go.Proofs.YtbgnfocfnjlabaaDoor

/-
  slices.Collect of slices.Chunk: the pieces of a slice of bytes.
-/
set_option linter.unusedVariables false
namespace Go.Proofs.YtbgnfocfnjlabaaDoor
open Go.RowKit Go.Shelf

attribute [local go_sem] Oper.semAt_some

set_option maxRecDepth 100000 in
set_option maxHeartbeats 3200000 in
theorem SAppendSeq_c (w : World) (b off n cap Bs Bm q : Nat) (hn2 : n ≤ 100000) (hcap : n ≤ cap) (hcap2 : cap ≤ 9223372036854775807) (hBs : Blk w Bs 27 [.slice (some ⟨b, off, none⟩) n cap]) (hBm : Blk w Bm 3 [.int .i64 (256 : Nat)]) (hq : q = (n + 256 - 1) / 256) :
    Calls Tryd.prog 68 #[.slice none 0 0, .func (.func 69) #[] #[.pointer (some ⟨Bs, 0, none⟩), .pointer (some ⟨Bm, 0, none⟩)]] w fun e W' => ∃ v, e = .returned v ∧ W'.ownsRow w.heap.size 27 1 v q ((List.range q).map (cv b off n 256)) ∧ Only (w.heap.size ≤ ·) w W' := by
  obtain ⟨iB, hiB, hiB0, hiB1, hiB2⟩ := info_parts info_B
  have hb1 : Bs < w.heap.size := hBs.lt
  have hb2 : Bm < w.heap.size := hBm.lt
  have HQ := Lib.hid hq
  have hqn : q ≤ 100000 := by omega
  clear hq
  refine (callsIn_wide (n := 3)).1 ?_
  refine callsIn_of_wp_marks Tryd.func68 rfl trivial ?_ rfl
  simp only [Tryd.ntmps68, List.size_toArray, List.length_cons, List.length_nil, Nat.reduceAdd, Nat.reduceSub, Array.replicate_succ, Array.replicate_zero, List.push_toArray, List.append_toArray, List.nil_append, List.cons_append]
  gi_wp2
  have bO := Boxed.new w 43 (.slice none 0 0)
  have hB0 : Only (w.heap.size ≤ ·) w (w.alloc (.cells #[.slice none 0 0] 43)) := (Only.refl _ w).alloc (fun _ h => h) _
  refine wpIn_rangeFunc_ownG rfl (by omega) (gf := 69) (lb := #[.pointer (some ⟨Bs, 0, none⟩), .pointer (some ⟨Bm, 0, none⟩)]) rfl trivial (enters_of Tryd.func69 (by kernel_rfl) rfl)
    (chunk_stops 2 n 256 (by omega) (by omega) (by omega) (by omega) Bs Bm b off cap (w.heap.size ≤ ·) hcap hcap2 (by omega) (by omega) _ (hBs.later hB0) (hBm.later hB0))
    (fun h k => h.trans k) (fun W l o o' hl _ _ _ => only_putObj (Only.refl _ _) (by simp at hl; omega) _) (Below.refl _ _) (fun _ => rfl)
    (fun (pre : List (Ck n 256)) W => (∃ v, Boxed W w.heap.size 43 v ∧ W.ownsRow w.heap.size 27 1 v pre.length ((idxs pre).map (cv b off n 256)) ∧ True) ∧ Only (w.heap.size ≤ ·) w W)
    (fun _ _ _ => False)
    (OwnFrom.and (Own.from (holdsRow_own w.heap.size w.heap.size 43 27 1 (fun pre : List (Ck n 256) => pre.length) (fun pre : List (Ck n 256) => (idxs pre).map (cv b off n 256)) (fun (pre : List (Ck n 256)) v => True)) _) (ownFrom_only (fun _ h => h) (fun _ h => by simp at h; omega)))
    (fun _ _ _ _ _ hs _ _ => hs)
    ⟨⟨_, bO, World.ownsRow_nil _ _ _ _, trivial⟩, hB0⟩
    (fun x => { tmps := #[.slice none 0 0, .func (.func 69) #[] #[.pointer (some ⟨Bs, 0, none⟩), .pointer (some ⟨Bm, 0, none⟩)], .pointer (some ⟨w.heap.size, 0, none⟩), undef, .slice none 0 0, cv b off n 256 x.1, .func (.func 69) #[] #[.pointer (some ⟨Bs, 0, none⟩), .pointer (some ⟨Bm, 0, none⟩)], cv b off n 256 x.1, undef, undef, undef, undef, undef], defers := [] }) ?assign ?body ?done ?stop
  case assign =>
    intro l x W K hK
    gi_wp2
    exact hK
  case body =>
    rintro l pre ⟨x, hx⟩ W ⟨⟨v, hv, hrow, _⟩, hB⟩ hlt
    have hc := hv.cell
    have HLT := Lib.hid hlt
    have HLN : Hid (pre.length ≤ 100000) := Lib.hid (by have := HLT.out; rw [← HQ.out] at this; omega)
    obtain ⟨o2, l2, hcc⟩ : ∃ o l, Value.slice (some ⟨b, o, none⟩) l l = cv b off n 256 x := ⟨_, _, rfl⟩
    have HCC := Lib.hid hcc
    rw [← hcc]
    clear hcc hlt
    gi_wp2_with (gi_at_builtin; refine wpListIn_append_own _ rfl _ _ 43 rfl w.heap.size 27 iB zB 1 24 Tryd.underlying43 hiB hiB0 hiB1 hiB2 rfl (by decide) _ _ _ rfl (hrow.alloc _) ⟨W.heap.size, 0, none⟩ 1 1 [.slice (some ⟨b, o2, none⟩) l2 l2] rfl rfl (cell_one_new _ _ _) (by simp [Value.oneCell']) (by have := HLN.out; simp only [maxLen]; omega) (by have := HLN.out; omega) (by have := hB.size; simp; omega) ?_; intro v' w1 hown' hgrow _; obtain ⟨g', cap', rfl⟩ := ownsRow_succ hown'; obtain ⟨hv1, hv2, hr2, hk2, hb2⟩ := hv.appended (by decide) hrow hB.size (Nat.le_refl _) hown' hgrow; have hc1 := hv1.cell; have hf1 := hv1.frozen)
    refine ⟨hk2.from _, Only.below hb2, ⟨_, hv2, ?_, trivial⟩, hB.trans (Only.below hb2)⟩
    rw [idxs_snoc, List.map_append, List.length_append]
    rw [HCC.out] at hr2
    exact hr2
  case done =>
    rintro D ys W hD hys ⟨⟨v, hv, hrow, _⟩, hB⟩ hK
    have hc := hv.cell
    have HYS := Lib.hid hys
    have HRW := Lib.hid hrow
    clear hys hrow
    gi_wp2
    refine ⟨by simp, .inl ⟨_, _, rfl, run_takeDeferred hK, ?_⟩⟩
    refine ⟨_, results_tmp rfl _ _ _, v, rfl, ?_, ?_⟩
    · have h1 := HRW.out
      rw [← idxs_len, HYS.out, ← HQ.out, List.length_range] at h1
      exact ownsRow_putObj h1 _ hK rfl
    · exact only_putObj hB (by simp at hD; omega) _
  case stop =>
    rintro D c pre W _ _ h _
    exact h.elim
end Go.Proofs.YtbgnfocfnjlabaaDoor

/-
  Encode: of an extent.
-/
set_option linter.unusedVariables false
namespace Go.Proofs.YtbgnfocfnjlabaaDoor
open Go.RowKit

theorem SCollect_c (w : World) (b off n cap Bs Bm q : Nat) (hn2 : n ≤ 100000) (hcap : n ≤ cap) (hcap2 : cap ≤ 9223372036854775807) (hBs : Blk w Bs 27 [.slice (some ⟨b, off, none⟩) n cap]) (hBm : Blk w Bm 3 [.int .i64 (256 : Nat)]) (hq : q = (n + 256 - 1) / 256) :
    Calls Tryd.prog 38 #[.func (.func 69) #[] #[.pointer (some ⟨Bs, 0, none⟩), .pointer (some ⟨Bm, 0, none⟩)]] w fun e W' => ∃ v, e = .returned v ∧ W'.ownsRow w.heap.size 27 1 v q ((List.range q).map (cv b off n 256)) ∧ Only (w.heap.size ≤ ·) w W' := by
  have H := Lib.hid (SAppendSeq_c w b off n cap Bs Bm q hn2 hcap hcap2 hBs hBm hq)
  clear hBs hBm hq
  go_enter Tryd.func38, Tryd.ntmps38
  go_wp2_with (go_at_call 68; refine H.out.mono ?_; rintro e w1 ⟨v, rfl, hv, hb⟩; have HV := Lib.hid hv; have HB := Lib.hid hb; clear hv hb)
  go_ret
  exact ⟨v, rfl, HV.out, HB.out⟩
/-- An extent's pages. -/
def extB (v : Bytes) (M : Nat) : List Bytes := (List.range M).map (chunkB (sealB (bareB v M) 4) 256)
theorem bareB_len {v : Bytes} {M : Nat} (h0 : 1 ≤ M) (h1 : M ≤ 7) (hv : v.length ≤ 1600) (hb : v.length + 16 ≤ M * 256) : (bareB v M).length = M * 256 := by
  have h2 := wrX_len h0 h1 hv (by omega)
  have h3 := bodX_len (v := v) (L := M * 256 - 16) (by omega)
  unfold bareB
  rw [clrB_len _ (by rw [List.length_append, h2]; omega), List.length_append, h2, List.length_drop, h3]
  omega
theorem den_map {α β : Type} {At : α → List Value → Prop} {f : β → α} {u : β → Value} : ∀ (l : List β), (∀ k ∈ l, At (f k) [u k]) → Den At (l.map f) (l.map u)
  | [], _ => rfl
  | k :: l, h => ⟨[u k], l.map u, rfl, h k (by simp), den_map l fun j hj => h j (by simp [hj])⟩
theorem pgs_chunks {w w' : World} {B g n cap q : Nat} {s : Bytes} {r : Value} (hs : Src w' (.slice (some ⟨g, 0, none⟩) n cap) s) (hn : n = s.length) (hq : n = q * 256) (hg : B ≤ g) (hg2 : g < w.heap.size) (hw : w.heap.size ≤ w'.heap.size) (hB : B ≤ w.heap.size)
    (hr : w'.ownsRow w.heap.size 27 1 r q ((List.range q).map (cv g 0 n 256))) : Pgs B w' r ((List.range q).map (chunkB s 256)) := by
  refine ⟨(List.range q).map (cv g 0 n 256), by rw [List.length_map, List.length_range]; exact own_low hr hB, den_map _ fun k hk => ?_⟩
  have hk2 : k < q := List.mem_range.1 hk
  have hkn : k * 256 < n := by omega
  obtain ⟨A, c, e, ht, h3, h4, h5⟩ := chunk_src hs hn hkn
  refine ⟨A, c, by rw [e], ⟨A, c, rfl, ht, h3, h4, h5, ?_⟩, ?_⟩
  · intro ad hA
    subst hA
    unfold cv at e
    simp only [Value.slice.injEq, Option.some.injEq] at e
    obtain ⟨rfl, _, _⟩ := e
    exact ⟨hg, by simp only; omega⟩
  · intro ad hA he
    subst hA
    unfold cv at e
    simp only [Value.slice.injEq, Option.some.injEq] at e
    obtain ⟨rfl, _, _⟩ := e
    rcases hr.2 with ⟨rfl, _⟩ | ⟨g', cap', cur, rfl, hb, _⟩
    · simp [Value.ownBlock] at he
    · simp [Value.ownBlock] at he
      omega
section
variable (w : World) (A UA : Option Addr) (n c q uc : Nat) (v : Bytes) (l : List Int)
set_option maxRecDepth 100000 in
set_option maxHeartbeats 1600000 in
theorem OEncode_ext (hG : Gens w) (hv : Src w (.slice A n c) v) (hu : Ints w (.slice UA q uc) l) (h : encOk 3 n l = true) :
    Calls Tryd.prog 17 #[.int .i64 3, .slice A n c, .slice UA q uc] w fun e w' => ∃ r, e = .returned (.tuple #[r, .int .i64 0]) ∧ Pgs w.heap.size w' r (extB v q) ∧ Only (w.heap.size ≤ ·) w w' := by
  have hql := hu.len
  obtain ⟨z, hz⟩ : ∃ z, z = manyP 3 n := ⟨_, rfl⟩
  have HM : Hid (∀ W, Gens W → Calls Tryd.prog 7 #[.int .i64 3, .int .i64 (n : Nat)] W (Told W (.int .i64 z))) := Lib.hid fun W hW => by rw [hz]; exact OMany_c W 3 n hW
  have HG := Lib.hid hG
  have HZ : Hid (z ≤ 100000) := Lib.hid (by rw [hz]; exact manyP_le _ _)
  unfold encOk at h
  rw [← hz, ← hql] at h
  simp only [Bool.and_eq_true, decide_eq_true_eq] at h
  obtain ⟨⟨h1, h2⟩, h3⟩ := h
  subst h2
  have hq0 : 1 ≤ q := by omega
  have hb := manyP_ext hz.symm hq0
  have hvn : n = v.length := by
    obtain ⟨_, _, _, h, _⟩ := src_form hv (by omega)
    exact h
  have hbl : (bareB v q).length = q * 256 := bareB_len hq0 (by omega) (by omega) (by omega)
  have HB : Hid (∀ W, Only (w.heap.size ≤ ·) w W → Calls Tryd.prog 34 #[.int .i64 3, .slice UA q uc] W (Told W (.bool true))) := Lib.hid fun W hW => by
    have := OmayBe_c W 3 _ l (hu.later hW) (by rw [← hql]; have := HZ.out; omega)
    rwa [h3] at this
  have HS : Hid (∀ W, Calls Tryd.prog 9 #[.int .i64 3] W fun e w' => e = .returned (.bool false) ∧ W = w') := Lib.hid fun W => by
    have := OSingle_c W 3
    rwa [show sgl 3 = false from by decide] at this
  have HBR : Hid (∀ W, Only (w.heap.size ≤ ·) w W → Calls Tryd.prog 37 #[.int .i64 3, .slice A n c] W (GaveQ W (bareB v q))) := Lib.hid fun W hW => Obare_c W A c n q v (hG.later hW) (hv.later hW) hz.symm hq0
  have b1 : ((q : Int) == 0) = false := by rw [beq_eq_false_iff_ne]; exact h1
  have HBL := Lib.hid hbl
  have HQ7 : Hid (q ≤ 7) := Lib.hid (by omega)
  clear hz hG hu hv h1 h3 hb hql hvn hbl
  go_enter Tryd.func17, Tryd.ntmps17
  go_upto_region 7 with (first
    | (go_at_call 7; refine (HM.out _ HG.out).mono ?_; rintro e w1 ⟨rfl, ho⟩; have HO := Lib.hid ho; clear ho) | (go_at_call 34; refine (HB.out _ HO.out).mono ?_; rintro e w2 ⟨rfl, ho⟩; (replace HO := Lib.hid (on_new HO.out ho)); clear ho) | (go_at_call 9; refine (HS.out _).mono ?_; rintro e w3 ⟨rfl, rfl⟩)
    | (go_at_call 37; refine (HBR.out _ HO.out).mono ?_; rintro e w4 ⟨r, rfl, hp, ho⟩; have HP := Lib.hid hp.src; (replace HO := Lib.hid (on_new HO.out ho)); clear ho hp)
    | (go_at_call 36; refine (Seal_r w4 r _ HP.out (by rw [HBL.out]; have := HQ7.out; omega)).mono ?_; rintro e w5 ⟨r5, rfl, hp, ho⟩; have HR5 := Lib.hid (hp.mono HO.out.size); (replace HO := Lib.hid (on_new HO.out ho)); clear ho hp))
  obtain ⟨s, hs⟩ : ∃ s, s = sealB (bareB v q) 4 := ⟨_, rfl⟩
  have hsl : s.length = q * 256 := by rw [hs, sealB_length]; exact HBL.out
  rw [← hs] at HR5
  have HSS := Lib.hid hs
  clear hs
  have hq7 := HQ7.out
  rcases HR5.out.2 with ⟨_, h0⟩ | ⟨g, cap, cur, rfl, hbg, hg, hnc, hcpm, hcs, htake⟩
  · omega
  have HSR := Lib.hid HR5.out.src
  have hg5 : g < w5.heap.size := (Array.getElem?_eq_some_iff.1 hg).1
  obtain ⟨N, hN⟩ : ∃ N, N = s.length := ⟨_, rfl⟩
  rw [← hN] at HSR hnc hsl ⊢
  obtain ⟨w6, hw6⟩ : ∃ W, W = (w5.alloc (.cells #[.slice (some ⟨g, 0, none⟩) N cap] 27)).alloc (.cells #[.int .i64 256] 3) := ⟨_, rfl⟩
  have h65 : w6.heap.size = w5.heap.size + 2 := by rw [hw6]; simp
  have HO6 : Hid (Only (w5.heap.size ≤ ·) w5 w6) := Lib.hid (by rw [hw6]; exact ((Only.refl _ w5).alloc (fun _ h => h) _).alloc (fun _ h => h) _)
  have HB1 : Blk w6 w5.heap.size 27 [.slice (some ⟨g, 0, none⟩) N cap] := by rw [hw6]; exact (Blk.new w5 27 _).alloc _
  have HB2 : Blk w6 (w5.heap.size + 1) 3 [.int .i64 (256 : Nat)] := by
    rw [hw6]
    have := Blk.new (w5.alloc (.cells #[.slice (some ⟨g, 0, none⟩) N cap] 27)) 3 [.int .i64 256]
    simpa using this
  have HCL := Lib.hid (SCollect_c w6 g 0 N cap w5.heap.size (w5.heap.size + 1) q (by omega) hnc hcpm HB1 HB2 (by omega))
  have HGF := Lib.hid (And.intro hbg (And.intro hg5 (And.intro h65 (And.intro hsl hN))))
  clear HB1 HB2 hbg hg5 h65 hsl hN htake hcs hg hnc hcpm HR5 hq7
  go_wp2_with (first
    | (go_at_call 39; refine (SChunk_c w5 (some ⟨g, 0, none⟩) N cap 256 (by omega)).mono ?_; rintro e w7 ⟨rfl, rfl⟩; rw [← hw6]; clear hw6)
    | (go_at_call 38; refine HCL.out.mono ?_; rintro e w8 ⟨r8, rfl, h8, ho⟩; have H8 := Lib.hid h8; have HO8 := Lib.hid ho; clear h8 ho))
  go_ret2
  refine ⟨r8, rfl, ?_, on_new (on_new HO.out HO6.out) HO8.out⟩
  obtain ⟨hbg, hg5, h65, hsl, hN⟩ := HGF.out
  unfold extB
  rw [← HSS.out]
  exact pgs_chunks ((HSR.out.later HO6.out).later HO8.out) hN hsl hbg (by omega) HO8.out.size (Nat.le_trans HO.out.size HO6.out.size) H8.out
end
end Go.Proofs.YtbgnfocfnjlabaaDoor

