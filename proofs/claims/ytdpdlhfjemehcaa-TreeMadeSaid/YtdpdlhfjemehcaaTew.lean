/-
  TreeEdges.
-/
import Derived.Test.YtdpdlhfjemehcaaTtv
import Derived.Test.YtdpdlhfjemehcaaTpw
import Derived.RegionTactic
import Derived.BigRegion
set_option linter.unusedVariables false
namespace Go.Proofs.Ytdpdlhfjemehcaa
open Go.RowKit

/-- Two items of two rows that are one. -/
theorem item_pair {w : World} {A A2 : Option Addr} {n c n2 c2 i j : Nat} {l l2 : List It} (h : Its w (.slice A n c) l) (h2 : Its w (.slice A2 n2 c2) l2) (hi : i < n) (hj : j < n2) (he : l[i]? = l2[j]?) : ∃ (b off b2 off2 : Nat) (P Q P2 Q2 : Option Addr) (t p e q p2 q2 : Nat) (s r : Int), A = some ⟨b, off, none⟩ ∧ A2 = some ⟨b2, off2, none⟩ ∧
    (∀ W, Only (w.heap.size ≤ ·) w W → W.cell? ⟨b, off + i * 4, none⟩ = some (.slice P t p) ∧ W.cell? ⟨b, off + i * 4 + 1, none⟩ = some (.slice Q e q) ∧ W.cell? ⟨b, off + i * 4 + 2, none⟩ = some (.int .i64 s) ∧ W.cell? ⟨b, off + i * 4 + 3, none⟩ = some (.int .i64 r) ∧
      W.cell? ⟨b2, off2 + j * 4, none⟩ = some (.slice P2 t p2) ∧ W.cell? ⟨b2, off2 + j * 4 + 1, none⟩ = some (.slice Q2 e q2) ∧ W.cell? ⟨b2, off2 + j * 4 + 2, none⟩ = some (.int .i64 s) ∧ W.cell? ⟨b2, off2 + j * 4 + 3, none⟩ = some (.int .i64 r)) ∧
    (∀ W, Only (w.heap.size ≤ ·) w W → Calls Try.prog 18 #[.agg #[.slice P t p, .slice Q e q, .int .i64 s, .int .i64 r], .agg #[.slice P2 t p2, .slice Q2 e q2, .int .i64 s, .int .i64 r]] W (Told W (.bool true))) := by
  obtain ⟨b, off, y, P, Q, p, q, e1, hb, hy, q0, q1, q2, q3, s1, s2⟩ := its_at h hi
  obtain ⟨b2, off2, y2, P2, Q2, p2, q2', e2, hb2, hy2, r0, r1, r2, r3, t1, t2⟩ := its_at h2 hj
  obtain rfl : y = y2 := Option.some.inj (hy.symm.trans (he.trans hy2))
  obtain ⟨xs, ys, s, r⟩ := y
  exact ⟨b, off, b2, off2, P, Q, P2, Q2, xs.length, p, ys.length, q, p2, q2', s, r, e1, e2, fun W hW => ⟨cell_later q0 hW, cell_later q1 hW, cell_later q2 hW, cell_later q3 hW, cell_later r0 hW, cell_later r1 hW, cell_later r2 hW, cell_later r3 hW⟩,
    fun W hW => rSame_c W P Q P2 Q2 _ p _ q _ p2 _ q2' s r s r xs ys xs ys true (s1.later hW) (s2.later hW) (t1.later hW) (t2.later hW) (decide_eq_true ⟨rfl, rfl, rfl, rfl⟩)⟩
set_option maxRecDepth 100000 in
set_option maxHeartbeats 25600000 in
theorem edges_walk (HM : MeetC) (w : World) (A : Option Addr) (n c : Nat) (root : Int) (l : List Nm) (h : Nms w (.slice A n c) l) (hok : ∀ x ∈ l, OkN x) (hrt : -9223372036854775808 ≤ root ∧ root ≤ 9223372036854775807) :
    Calls Try.prog 7 #[.slice A n c, .int .i64 root] w (Told w (.bool true)) := by
  have HN := Lib.hid h
  have HOK := Lib.hid hok
  have HRT : Hid ((Lit.int .i64 root).wf = true) := Lib.hid (by simp [Lit.wf, IntKind.min, IntKind.max, IntKind.signed, IntKind.bits]; omega)
  have hcap := h.cap
  have HFW := Lib.hid (few_w w A n c l h (okN_len hok))
  clear h hok
  have HO : Hid (Only (w.heap.size ≤ ·) w w) := Lib.hid (Only.refl _ _)
  obtain ⟨fb, hfb⟩ : ∃ b, b = fewB l := ⟨_, rfl⟩
  rw [← hfb] at HFW
  have HFB := Lib.hid hfb
  clear hfb
  go_enter Try.func7, Try.ntmps7
  cases fb with
  | false =>
    go_wp2_with (first
      | (go_at_call 8; (with_reducible refine HFW.out.mono ?_); rintro e w1 ⟨rfl, ho⟩; replace HO := Lib.hid ho; clear ho)
      | (go_at_call 9; (with_reducible refine (talive_c HM _).mono ?_); rintro e w9 ⟨rfl, ho⟩; have HOF := Lib.hid (on_new HO.out ho); clear ho))
    go_ret
    exact ⟨rfl, HOF.out⟩
  | true =>
    have HF := Lib.hid (few_FewN HOK.out HFB.out.symm)
    obtain ⟨R, hR⟩ : ∃ R, R = allP l root := ⟨_, rfl⟩
    obtain ⟨er, S⟩ := R
    have HR := Lib.hid hR
    obtain ⟨Z, hZ⟩ : ∃ Z, Z = okS (er, S) := ⟨_, rfl⟩
    have HZ := Lib.hid hZ
    obtain ⟨dz, hdz⟩ : ∃ d, d = Z.dep := ⟨_, rfl⟩
    obtain ⟨nI, hnI⟩ : ∃ d, d = Z.its.length := ⟨_, rfl⟩
    have HDZ := Lib.hid hdz
    have HNI := Lib.hid hnI
    clear hR hZ hdz hnI
    go_upto_region 4 with (first
      | (go_at_call 8; (with_reducible refine HFW.out.mono ?_); rintro e w1 ⟨rfl, ho⟩; replace HO := Lib.hid ho; clear ho)
      | (go_at_call 12; (with_reducible refine (Source_c _ A n c).mono ?_); rintro e w4 ⟨⟨bl, rfl, _, hbl⟩, ho⟩; replace HN := Lib.hid (Rw.later HN.out (on_new HO.out ho)); replace HO := Lib.hid (on_new HO.out ho); have HBL := Lib.hid hbl; clear hbl ho)
      | (go_at_call 16; have hc := All_c HM _ bl A n c root l HBL.out HN.out HF.out HRT.out; rw [← HR.out] at hc; unfold AllSays at hc; rw [← HZ.out, ← HDZ.out] at hc; (with_reducible refine hc.mono ?_); rintro e w5 ⟨⟨IA, ni, ic, RA, nr, rc, rfl, hi, hr⟩, ho⟩; have HNX : Hid (ni = nI) := Lib.hid (hi.len.trans HNI.out.symm); have HI := Lib.hid hi; replace HN := Lib.hid (Rw.later HN.out ho); replace HO := Lib.hid (on_new HO.out ho); clear hi hr ho hc))
    obtain rfl := HNX.out
    clear HBL HNX
    obtain ⟨w6, hw6⟩ : ∃ z9, z9 = w5.alloc (.cells #[.slice IA ni ic, .slice RA nr rc, .int .i64 (dz : Int)] 49) := ⟨_, rfl⟩
    obtain ⟨b5, hb5⟩ : ∃ z9, z9 = w5.heap.size := ⟨_, rfl⟩
    have Hb5 : Hid (Blk w6 b5 49 [.slice IA ni ic, .slice RA nr rc, .int .i64 (dz : Int)]) := Lib.hid (by rw [hw6, hb5]; exact Blk.new w5 _ [.slice IA ni ic, .slice RA nr rc, .int .i64 (dz : Int)])
    have HXb5 : Hid (Only (w5.heap.size ≤ ·) w5 w6) := Lib.hid (by rw [hw6]; exact (Only.refl _ w5).alloc (fun _ h => h) _)
    have HEQb5 : Hid (w6 = w5.alloc (.cells #[.slice IA ni ic, .slice RA nr rc, .int .i64 (dz : Int)] 49) ∧ b5 = w5.heap.size) := Lib.hid ⟨hw6, hb5⟩
    clear hw6 hb5
    rw [← HEQb5.out.1, ← HEQb5.out.2]
    replace HN := Lib.hid (Rw.later HN.out HXb5.out)
    replace HI := Lib.hid (Rw.later HI.out HXb5.out)
    replace HO := Lib.hid (on_new HO.out HXb5.out)
    have HB5 := Hb5
    clear HEQb5 HXb5 Hb5
    obtain ⟨c0, c1, c2⟩ := HB5.out.tri
    by_cases her : er = 0
    · subst her
      have HZS : Hid (Z = S) := Lib.hid HZ.out
      by_cases hn0 : ni = 0
      · subst hn0
        go_wp2_with ((go_at_call 9; (with_reducible refine (talive_c HM _).mono ?_); rintro e w9 ⟨rfl, ho⟩; have HOF := Lib.hid (on_new HO.out ho); clear ho))
        go_ret
        exact ⟨rfl, HOF.out⟩
      · have hn0' : ¬ (ni : Int) = 0 := by omega
        have hni : 0 < ni := by omega
        obtain ⟨hh, refs, T1, _, T2, T3, T4⟩ := all_sub HR.out.symm
        have hne : S.its ≠ [] := fun e => by have h1 := HNI.out; rw [HZS.out, e] at h1; exact hn0 h1
        have T5 := T1.weak hne
        obtain ⟨pa, sa, A1, A2, A3, A4, A5, A6⟩ := T5.edge false T4
        obtain ⟨pb, sb, B1, B2, B3, B4, B5, B6⟩ := T5.edge true T4
        have hdh : dz = hh := by rw [HDZ.out, HZS.out]; exact T2
        subst hdh
        have HD1 : Hid (downP l (chE false) 12 root = (0, pa) ∧ pa.length = dz) := Lib.hid ⟨A1, A2⟩
        have HD2 : Hid (downP l (chE true) 12 root = (0, pb) ∧ pb.length = dz) := Lib.hid ⟨B1, B2⟩
        obtain ⟨kd1, hkd1⟩ : ∃ z9, z9 = dz - 1 := ⟨_, rfl⟩
        obtain ⟨kn1, hkn1⟩ : ∃ z9, z9 = ni - 1 := ⟨_, rfl⟩
        obtain ⟨ja, hja⟩ : ∃ z9, z9 = 0 := ⟨_, rfl⟩
        obtain ⟨jb, hjb⟩ : ∃ z9, z9 = sb.2.1.its.length - 1 := ⟨_, rfl⟩
        have HSA : Hid (pa[kd1]? = some sa ∧ sa.2.2 = (ja : Int) ∧ ja < sa.2.1.its.length ∧ sa.2.1.its[ja]? = Z.its[0]?) := Lib.hid ⟨by rw [hkd1, ← A2, ← List.getLast?_eq_getElem?]; exact A3, by rw [hja]; exact A4, by rw [hja]; exact List.length_pos_iff.2 A5, by rw [if_neg (by decide)] at A6; rw [hja, HZS.out, ← List.head?_eq_getElem?, ← List.head?_eq_getElem?]; exact A6⟩
        have HSB : Hid (pb[kd1]? = some sb ∧ sb.2.2 = (jb : Int) ∧ jb < sb.2.1.its.length ∧ sb.2.1.its[jb]? = Z.its[kn1]?) := Lib.hid ⟨by rw [hkd1, ← B2, ← List.getLast?_eq_getElem?]; exact B3, by rw [hjb]; exact B4, by have := List.length_pos_iff.2 B5; omega, by rw [if_pos rfl] at B6; rw [hjb, hkn1, HNI.out, HZS.out, ← List.getLast?_eq_getElem?, ← List.getLast?_eq_getElem?]; exact B6⟩
        have hdz2 : dz ≤ 12 := T4
        have HKD : Hid ((dz : Int) - 1 = (kd1 : Int) ∧ kd1 < dz) := Lib.hid (by omega)
        have HKN : Hid ((ni : Int) - 1 = (kn1 : Int) ∧ kn1 < ni) := Lib.hid (by omega)
        have hdz1 : ¬ (dz : Int) < 1 := by omega
        clear A1 A2 A3 A4 A5 A6 B1 B2 B3 B4 B5 B6 T1 T2 T3 T4 T5 hne hkd1 hkn1 hja hjb hn0
        go_upto_region 6 with (fail)
        clear c0 c1 c2
        go_upto_region 7 with (first
          | (go_at_call 12; (with_reducible refine (Source_c _ A n c).mono ?_); rintro e w4a ⟨⟨bl, rfl, _, hbl⟩, ho⟩; replace HN := Lib.hid (Rw.later HN.out ho); replace HI := Lib.hid (Rw.later HI.out ho); replace HO := Lib.hid (on_new HO.out ho); replace HB5 := Lib.hid (HB5.out.later ho); have HBL := Lib.hid hbl; clear hbl ho)
          | (go_at_call 14; have hc := Edge_c _ bl A n c root l false HBL.out HN.out HF.out; rw [HD1.out.1] at hc; (with_reducible refine hc.mono ?_); rintro e w7 ⟨⟨E1, e1, f1, er', path', rfl, hp, hsp⟩, ho⟩; cases hp; replace HN := Lib.hid (Rw.later HN.out ho); replace HI := Lib.hid (Rw.later HI.out ho); replace HO := Lib.hid (on_new HO.out ho); replace HB5 := Lib.hid (HB5.out.later ho); have HNX : Hid (e1 = dz) := Lib.hid (hsp.len.trans HD1.out.2); have HP1 := Lib.hid hsp; clear hsp hc ho))
        obtain rfl := HNX.out.symm
        clear HBL HNX
        go_upto_region 8 with (first
          | (go_at_call 12; (with_reducible refine (Source_c _ A n c).mono ?_); rintro e w4b ⟨⟨bl, rfl, _, hbl⟩, ho⟩; replace HN := Lib.hid (Rw.later HN.out ho); replace HI := Lib.hid (Rw.later HI.out ho); replace HO := Lib.hid (on_new HO.out ho); replace HB5 := Lib.hid (HB5.out.later ho); replace HP1 := Lib.hid (Rw.later HP1.out ho); have HBL := Lib.hid hbl; clear hbl ho)
          | (go_at_call 14; have hc := Edge_c _ bl A n c root l true HBL.out HN.out HF.out; rw [HD2.out.1] at hc; (with_reducible refine hc.mono ?_); rintro e w8 ⟨⟨E2, e2, f2, er', path', rfl, hp, hsp⟩, ho⟩; cases hp; replace HN := Lib.hid (Rw.later HN.out ho); replace HI := Lib.hid (Rw.later HI.out ho); replace HO := Lib.hid (on_new HO.out ho); replace HB5 := Lib.hid (HB5.out.later ho); replace HP1 := Lib.hid (Rw.later HP1.out ho); have HNX : Hid (e2 = dz) := Lib.hid (hsp.len.trans HD2.out.2); have HP2 := Lib.hid hsp; clear hsp hc ho))
        obtain rfl := HNX.out.symm
        clear HBL HNX
        obtain ⟨c0, c1, c2⟩ := HB5.out.tri
        go_upto_region 10 with (fail)
        clear c0 c1 c2
        obtain ⟨ab, ao, sa', Qa, Ra, ma, qa, ta, ra, hEA, _, hsa, a0, a1, a2, a3, a4, hnda⟩ := sps_at HP1.out HKD.out.2
        obtain rfl : sa' = sa := Option.some.inj (hsa.symm.trans HSA.out.1)
        obtain ⟨bb, bo, sb', Qb, Rb, mb, qb, tb, rb, hEB, _, hsb, b0, b1, b2, b3, b4, hndb⟩ := sps_at HP2.out HKD.out.2
        obtain rfl : sb' = sb := Option.some.inj (hsb.symm.trans HSB.out.1)
        rw [HSA.out.2.1] at a4
        rw [HSB.out.2.1] at b4
        have HNA := Lib.hid hnda.2.1
        have HNB := Lib.hid hndb.2.1
        have HMA : Hid (ma = sa'.2.1.its.length ∧ mb = sb'.2.1.its.length) := Lib.hid ⟨hnda.2.1.len, hndb.2.1.len⟩
        have hla : (ja : Int) < (ma : Int) := by have h1 := HSA.out.2.2.1; have h2 := HMA.out.1; omega
        have hlb : (jb : Int) < (mb : Int) := by have h1 := HSB.out.2.2.1; have h2 := HMA.out.2; omega
        obtain ⟨ra1, hra1⟩ : ∃ z9, z9 = sa'.1 := ⟨_, rfl⟩
        obtain ⟨rb1, hrb1⟩ : ∃ z9, z9 = sb'.1 := ⟨_, rfl⟩
        obtain ⟨la1, hla1⟩ : ∃ z9, z9 = sa'.2.1.leaf := ⟨_, rfl⟩
        obtain ⟨lb1, hlb1⟩ : ∃ z9, z9 = sb'.2.1.leaf := ⟨_, rfl⟩
        rw [← hra1] at a0
        rw [← hla1] at a1
        rw [← hrb1] at b0
        rw [← hlb1] at b1
        subst hEA hEB
        clear hsa hsb hnda hndb hra1 hrb1 hla1 hlb1
        have hdw : IntKind.i64.wrap (kd1 : Int) = (kd1 : Int) := IntWalk.i64_in _ (by have h0 := HKD.out; omega)
        have hd0 : (0 : Int) ≤ (kd1 : Int) := by omega
        have hd1 : (kd1 : Int) < (dz : Int) := by have := HKD.out; omega
        have hd2 := HKD.out.1
        obtain ⟨c0, c1, c2⟩ := HB5.out.tri
        go_cut [11, 12] from 72 to 132 (fun y11 y12 wz => ∃ g1 g2 : Nat, y11 = .pointer (some ⟨g1, 0, none⟩) ∧ y12 = .pointer (some ⟨g2, 0, none⟩) ∧ Hid (Blk wz g1 72 [.int .i64 ra1, .bool la1, .slice Qa ma qa, .slice Ra ta ra, .int .i64 (ja : Int)]) ∧ Hid (Blk wz g2 72 [.int .i64 rb1, .bool lb1, .slice Qb mb qb, .slice Rb tb rb, .int .i64 (jb : Int)]) ∧ Hid (Only (w8.heap.size ≤ ·) w8 wz))
        case first =>
          have HW0 : Hid (Only (w8.heap.size ≤ ·) w8 w8.drew) := Lib.hid ((Only.refl _ w8).drew)
          have KP : Hid (∀ W : World, Only (w8.heap.size ≤ ·) w8 W → (fun W : World => W.cell? ⟨b5, 2, none⟩ = some (.int .i64 (dz : Int)) ∧ W.cell? ⟨ab, ao + kd1 * 5, none⟩ = some (.int .i64 ra1) ∧ W.cell? ⟨ab, ao + kd1 * 5 + 1, none⟩ = some (.bool la1) ∧ W.cell? ⟨ab, ao + kd1 * 5 + 2, none⟩ = some (.slice Qa ma qa) ∧ W.cell? ⟨ab, ao + kd1 * 5 + 3, none⟩ = some (.slice Ra ta ra) ∧ W.cell? ⟨ab, ao + kd1 * 5 + 4, none⟩ = some (.int .i64 (ja : Int)) ∧ W.cell? ⟨bb, bo + kd1 * 5, none⟩ = some (.int .i64 rb1) ∧ W.cell? ⟨bb, bo + kd1 * 5 + 1, none⟩ = some (.bool lb1) ∧ W.cell? ⟨bb, bo + kd1 * 5 + 2, none⟩ = some (.slice Qb mb qb) ∧ W.cell? ⟨bb, bo + kd1 * 5 + 3, none⟩ = some (.slice Rb tb rb) ∧ W.cell? ⟨bb, bo + kd1 * 5 + 4, none⟩ = some (.int .i64 (jb : Int))) W) := Lib.hid (fun W hW => ⟨cell_later c2 hW, cell_later a0 hW, cell_later a1 hW, cell_later a2 hW, cell_later a3 hW, cell_later a4 hW, cell_later b0 hW, cell_later b1 hW, cell_later b2 hW, cell_later b3 hW, cell_later b4 hW⟩)
          have HSX := Lib.hid (KP.out _ HW0.out)
          clear c0 c1 c2 a0 a1 a2 a3 a4 b0 b1 b2 b3 b4
          refine wp_region_list (B := [false, false, false, false, false, false, false, false, false, false, false, false, false, false, false, false]) (S := (fun W : World => W.cell? ⟨b5, 2, none⟩ = some (.int .i64 (dz : Int)) ∧ W.cell? ⟨ab, ao + kd1 * 5, none⟩ = some (.int .i64 ra1) ∧ W.cell? ⟨ab, ao + kd1 * 5 + 1, none⟩ = some (.bool la1) ∧ W.cell? ⟨ab, ao + kd1 * 5 + 2, none⟩ = some (.slice Qa ma qa) ∧ W.cell? ⟨ab, ao + kd1 * 5 + 3, none⟩ = some (.slice Ra ta ra) ∧ W.cell? ⟨ab, ao + kd1 * 5 + 4, none⟩ = some (.int .i64 (ja : Int)) ∧ W.cell? ⟨bb, bo + kd1 * 5, none⟩ = some (.int .i64 rb1) ∧ W.cell? ⟨bb, bo + kd1 * 5 + 1, none⟩ = some (.bool lb1) ∧ W.cell? ⟨bb, bo + kd1 * 5 + 2, none⟩ = some (.slice Qb mb qb) ∧ W.cell? ⟨bb, bo + kd1 * 5 + 3, none⟩ = some (.slice Rb tb rb) ∧ W.cell? ⟨bb, bo + kd1 * 5 + 4, none⟩ = some (.int .i64 (jb : Int)))) (by kernel_rfl) (by kernel_rfl) (by kernel_rfl) HSX.out (fun hsel hHeld => ?_)
          generalize hwz : World.drew _ = wy0 at HW0 HSX hHeld ⊢
          clear hwz
          refine oneA 0 72 hsel (h := ?_)
          simp only [Act.put, List.setIfInBounds_toArray, List.set_cons_zero, List.set_cons_succ]
          refine oneA 1 73 hsel (h := ?_)
          simp only [Act.put, List.setIfInBounds_toArray, List.set_cons_zero, List.set_cons_succ]
          refine oneA 2 74 hsel (h := ?_)
          simp only [Act.put, List.setIfInBounds_toArray, List.set_cons_zero, List.set_cons_succ]
          refine oneA 3 75 hsel (h := ?_)
          simp only [Act.put, List.setIfInBounds_toArray, List.set_cons_zero, List.set_cons_succ]
          refine oneA 4 76 hsel (h := ?_)
          simp only [Act.put, List.setIfInBounds_toArray, List.set_cons_zero, List.set_cons_succ]
          refine oneA 5 77 hsel (h := ?_)
          simp only [Act.put, List.setIfInBounds_toArray, List.set_cons_zero, List.set_cons_succ]
          refine oneA 6 78 hsel (h := ?_)
          simp only [Act.put, List.setIfInBounds_toArray, List.set_cons_zero, List.set_cons_succ]
          refine oneA 7 79 hsel (h := ?_)
          simp only [Act.put, List.setIfInBounds_toArray, List.set_cons_zero, List.set_cons_succ]
          refine oneA 8 80 hsel (h := ?_)
          simp only [Act.put, List.setIfInBounds_toArray, List.set_cons_zero, List.set_cons_succ]
          refine oneA 9 81 hsel (h := ?_)
          simp only [Act.put, List.setIfInBounds_toArray, List.set_cons_zero, List.set_cons_succ]
          refine oneA 10 82 hsel (h := ?_)
          simp only [Act.put, List.setIfInBounds_toArray, List.set_cons_zero, List.set_cons_succ]
          refine oneA 11 83 hsel (h := ?_)
          simp only [Act.put, List.setIfInBounds_toArray, List.set_cons_zero, List.set_cons_succ]
          refine wpAnyL_ready (rs := [12, 13]) (by kernel_rfl) (by kernel_rfl) (by simp) ?_
          refine AllReadyL.cons (o := ?_) ?_ (fun K hK => ?_) (AllReadyL.cons (o := ?_) ?_ (fun K hK => ?_) AllReadyL.nil)
          case refine_2 => (simp only [List.getElem?_cons_succ, List.getElem?_cons_zero]; rfl)
          case refine_5 => (simp only [List.getElem?_cons_succ, List.getElem?_cons_zero]; rfl)
          case refine_3 =>
            go_simp
            have HW1 : Hid (Only (w8.heap.size ≤ ·) w8 (wy0.alloc (.cells #[.int .i64 0, .bool false, .slice none 0 0, .slice none 0 0, .int .i64 0] 72))) := Lib.hid (HW0.out.alloc (fun _ h => h) _)
            have HG11 : Hid (Blk (wy0.alloc (.cells #[.int .i64 0, .bool false, .slice none 0 0, .slice none 0 0, .int .i64 0] 72)) wy0.heap.size 72 [.int .i64 0, .bool false, .slice none 0 0, .slice none 0 0, .int .i64 0]) := Lib.hid (Blk.new wy0 _ _)
            have HL11 : Hid (w8.heap.size ≤ wy0.heap.size) := Lib.hid HW0.out.size
            clear hHeld
            refine hK.out _ _ (KP.out _ HW1.out) (fun hHeld => ?_)
            clear hK K
            try simp only [List.set_cons_zero, List.set_cons_succ]
            generalize hwz : (wy0.alloc (.cells #[.int .i64 0, .bool false, .slice none 0 0, .slice none 0 0, .int .i64 0] 72)) = wy1 at HW1 HG11 hHeld ⊢
            clear hwz
            generalize hgz : wy0.heap.size = g11 at HG11 HL11 ⊢
            clear hgz
            refine wpAnyL_ready (rs := [13]) (by kernel_rfl) (by kernel_rfl) (by simp) ?_
            refine AllReadyL.cons (o := ?_) ?_ (fun K hK => ?_) AllReadyL.nil
            case refine_2 => (simp only [List.getElem?_cons_succ, List.getElem?_cons_zero]; rfl)
            go_simp
            have HW2 : Hid (Only (w8.heap.size ≤ ·) w8 (wy1.alloc (.cells #[.int .i64 0, .bool false, .slice none 0 0, .slice none 0 0, .int .i64 0] 72))) := Lib.hid (HW1.out.alloc (fun _ h => h) _)
            have HG12 : Hid (Blk (wy1.alloc (.cells #[.int .i64 0, .bool false, .slice none 0 0, .slice none 0 0, .int .i64 0] 72)) wy1.heap.size 72 [.int .i64 0, .bool false, .slice none 0 0, .slice none 0 0, .int .i64 0]) := Lib.hid (Blk.new wy1 _ _)
            have HL12 : Hid (w8.heap.size ≤ wy1.heap.size) := Lib.hid HW1.out.size
            have HN12 : Hid (g11 ≠ wy1.heap.size) := Lib.hid (by have h1 := HG11.out.lt; omega)
            replace HG11 := Lib.hid (HG11.out.alloc (.cells #[.int .i64 0, .bool false, .slice none 0 0, .slice none 0 0, .int .i64 0] 72))
            clear hHeld
            refine hK.out _ _ (KP.out _ HW2.out) (fun hHeld => ?_)
            clear hK K
            try simp only [List.set_cons_zero, List.set_cons_succ]
            generalize hwz : (wy1.alloc (.cells #[.int .i64 0, .bool false, .slice none 0 0, .slice none 0 0, .int .i64 0] 72)) = wy2 at HW2 HG11 HG12 hHeld ⊢
            clear hwz
            generalize hgz : wy1.heap.size = g12 at HG12 HL12 HN12 ⊢
            clear hgz
            refine wpAnyL_ready (rs := [14]) (by kernel_rfl) (by kernel_rfl) (by simp) ?_
            refine AllReadyL.cons (o := ?_) ?_ (fun K hK => ?_) AllReadyL.nil
            case refine_2 => (simp only [List.getElem?_cons_succ, List.getElem?_cons_zero]; rfl)
            obtain ⟨z0, z1, z2, z3, z4⟩ := cells5 HG11.out
            have m0 := HG11.out.frozen 0
            have m1 := HG11.out.frozen 1
            have m2 := HG11.out.frozen 2
            have m3 := HG11.out.frozen 3
            have m4 := HG11.out.frozen 4
            go_simp
            clear z0 z1 z2 z3 z4 m0 m1 m2 m3 m4
            have HW3 : Hid (Only (w8.heap.size ≤ ·) w8 (((((wy2.setCell ⟨g11, 0, none⟩ (.int .i64 ra1)).setCell ⟨g11, 1, none⟩ (.bool la1)).setCell ⟨g11, 2, none⟩ (.slice Qa ma qa)).setCell ⟨g11, 3, none⟩ (.slice Ra ta ra)).setCell ⟨g11, 4, none⟩ (.int .i64 (ja : Int)))) := Lib.hid (((((HW2.out.setCell (p := ⟨g11, 0, none⟩) HL11.out (.int .i64 ra1)).setCell (p := ⟨g11, 1, none⟩) HL11.out (.bool la1)).setCell (p := ⟨g11, 2, none⟩) HL11.out (.slice Qa ma qa)).setCell (p := ⟨g11, 3, none⟩) HL11.out (.slice Ra ta ra)).setCell (p := ⟨g11, 4, none⟩) HL11.out (.int .i64 (ja : Int)))
            have HF11 : Hid (Blk (((((wy2.setCell ⟨g11, 0, none⟩ (.int .i64 ra1)).setCell ⟨g11, 1, none⟩ (.bool la1)).setCell ⟨g11, 2, none⟩ (.slice Qa ma qa)).setCell ⟨g11, 3, none⟩ (.slice Ra ta ra)).setCell ⟨g11, 4, none⟩ (.int .i64 (ja : Int))) g11 72 [.int .i64 ra1, .bool la1, .slice Qa ma qa, .slice Ra ta ra, .int .i64 (ja : Int)]) := Lib.hid (((((HG11.out.set_ 0 (.int .i64 ra1)).set_ 1 (.bool la1)).set_ 2 (.slice Qa ma qa)).set_ 3 (.slice Ra ta ra)).set_ 4 (.int .i64 (ja : Int)))
            clear HG11
            have HG11 := HF11
            clear HF11
            have HQ : g12 ≠ g11 := (Ne.symm HN12.out)
            replace HG12 := Lib.hid (((((HG12.out.far (p := ⟨g11, 0, none⟩) HQ (.int .i64 ra1)).far (p := ⟨g11, 1, none⟩) HQ (.bool la1)).far (p := ⟨g11, 2, none⟩) HQ (.slice Qa ma qa)).far (p := ⟨g11, 3, none⟩) HQ (.slice Ra ta ra)).far (p := ⟨g11, 4, none⟩) HQ (.int .i64 (ja : Int)))
            clear HQ
            clear hHeld
            refine hK.out _ _ (KP.out _ HW3.out) (fun hHeld => ?_)
            clear hK K
            try simp only [List.set_cons_zero, List.set_cons_succ]
            generalize hwz : (((((wy2.setCell ⟨g11, 0, none⟩ (.int .i64 ra1)).setCell ⟨g11, 1, none⟩ (.bool la1)).setCell ⟨g11, 2, none⟩ (.slice Qa ma qa)).setCell ⟨g11, 3, none⟩ (.slice Ra ta ra)).setCell ⟨g11, 4, none⟩ (.int .i64 (ja : Int))) = wy3 at HW3 HG11 HG12 hHeld ⊢
            clear hwz
            refine wpAnyL_ready (rs := [15]) (by kernel_rfl) (by kernel_rfl) (by simp) ?_
            refine AllReadyL.cons (o := ?_) ?_ (fun K hK => ?_) AllReadyL.nil
            case refine_2 => (simp only [List.getElem?_cons_succ, List.getElem?_cons_zero]; rfl)
            obtain ⟨z0, z1, z2, z3, z4⟩ := cells5 HG12.out
            have m0 := HG12.out.frozen 0
            have m1 := HG12.out.frozen 1
            have m2 := HG12.out.frozen 2
            have m3 := HG12.out.frozen 3
            have m4 := HG12.out.frozen 4
            go_simp
            clear z0 z1 z2 z3 z4 m0 m1 m2 m3 m4
            have HW4 : Hid (Only (w8.heap.size ≤ ·) w8 (((((wy3.setCell ⟨g12, 0, none⟩ (.int .i64 rb1)).setCell ⟨g12, 1, none⟩ (.bool lb1)).setCell ⟨g12, 2, none⟩ (.slice Qb mb qb)).setCell ⟨g12, 3, none⟩ (.slice Rb tb rb)).setCell ⟨g12, 4, none⟩ (.int .i64 (jb : Int)))) := Lib.hid (((((HW3.out.setCell (p := ⟨g12, 0, none⟩) HL12.out (.int .i64 rb1)).setCell (p := ⟨g12, 1, none⟩) HL12.out (.bool lb1)).setCell (p := ⟨g12, 2, none⟩) HL12.out (.slice Qb mb qb)).setCell (p := ⟨g12, 3, none⟩) HL12.out (.slice Rb tb rb)).setCell (p := ⟨g12, 4, none⟩) HL12.out (.int .i64 (jb : Int)))
            have HF12 : Hid (Blk (((((wy3.setCell ⟨g12, 0, none⟩ (.int .i64 rb1)).setCell ⟨g12, 1, none⟩ (.bool lb1)).setCell ⟨g12, 2, none⟩ (.slice Qb mb qb)).setCell ⟨g12, 3, none⟩ (.slice Rb tb rb)).setCell ⟨g12, 4, none⟩ (.int .i64 (jb : Int))) g12 72 [.int .i64 rb1, .bool lb1, .slice Qb mb qb, .slice Rb tb rb, .int .i64 (jb : Int)]) := Lib.hid (((((HG12.out.set_ 0 (.int .i64 rb1)).set_ 1 (.bool lb1)).set_ 2 (.slice Qb mb qb)).set_ 3 (.slice Rb tb rb)).set_ 4 (.int .i64 (jb : Int)))
            clear HG12
            have HG12 := HF12
            clear HF12
            have HQ : g11 ≠ g12 := HN12.out
            replace HG11 := Lib.hid (((((HG11.out.far (p := ⟨g12, 0, none⟩) HQ (.int .i64 rb1)).far (p := ⟨g12, 1, none⟩) HQ (.bool lb1)).far (p := ⟨g12, 2, none⟩) HQ (.slice Qb mb qb)).far (p := ⟨g12, 3, none⟩) HQ (.slice Rb tb rb)).far (p := ⟨g12, 4, none⟩) HQ (.int .i64 (jb : Int)))
            clear HQ
            clear hHeld
            refine hK.out _ _ (KP.out _ HW4.out) (fun hHeld => ?_)
            clear hK K
            try simp only [List.set_cons_zero, List.set_cons_succ]
            generalize hwz : (((((wy3.setCell ⟨g12, 0, none⟩ (.int .i64 rb1)).setCell ⟨g12, 1, none⟩ (.bool lb1)).setCell ⟨g12, 2, none⟩ (.slice Qb mb qb)).setCell ⟨g12, 3, none⟩ (.slice Rb tb rb)).setCell ⟨g12, 4, none⟩ (.int .i64 (jb : Int))) = wy4 at HW4 HG11 HG12 hHeld ⊢
            clear hwz
            refine wpAnyL_done (by kernel_rfl) (by kernel_rfl) ?_ _
            clear hsel hHeld
            go_wp2_with (fail)
            refine Met.intro ?_
            go_step
            (repeat apply Exists.intro)
            refine ⟨?rel12131415, rfl⟩
            exact ⟨g11, g12, rfl, rfl, HG11, HG12, HW4⟩
          case refine_6 =>
            go_simp
            have HW1 : Hid (Only (w8.heap.size ≤ ·) w8 (wy0.alloc (.cells #[.int .i64 0, .bool false, .slice none 0 0, .slice none 0 0, .int .i64 0] 72))) := Lib.hid (HW0.out.alloc (fun _ h => h) _)
            have HG12 : Hid (Blk (wy0.alloc (.cells #[.int .i64 0, .bool false, .slice none 0 0, .slice none 0 0, .int .i64 0] 72)) wy0.heap.size 72 [.int .i64 0, .bool false, .slice none 0 0, .slice none 0 0, .int .i64 0]) := Lib.hid (Blk.new wy0 _ _)
            have HL12 : Hid (w8.heap.size ≤ wy0.heap.size) := Lib.hid HW0.out.size
            clear hHeld
            refine hK.out _ _ (KP.out _ HW1.out) (fun hHeld => ?_)
            clear hK K
            try simp only [List.set_cons_zero, List.set_cons_succ]
            generalize hwz : (wy0.alloc (.cells #[.int .i64 0, .bool false, .slice none 0 0, .slice none 0 0, .int .i64 0] 72)) = wy1 at HW1 HG12 hHeld ⊢
            clear hwz
            generalize hgz : wy0.heap.size = g12 at HG12 HL12 ⊢
            clear hgz
            refine wpAnyL_ready (rs := [12]) (by kernel_rfl) (by kernel_rfl) (by simp) ?_
            refine AllReadyL.cons (o := ?_) ?_ (fun K hK => ?_) AllReadyL.nil
            case refine_2 => (simp only [List.getElem?_cons_succ, List.getElem?_cons_zero]; rfl)
            go_simp
            have HW2 : Hid (Only (w8.heap.size ≤ ·) w8 (wy1.alloc (.cells #[.int .i64 0, .bool false, .slice none 0 0, .slice none 0 0, .int .i64 0] 72))) := Lib.hid (HW1.out.alloc (fun _ h => h) _)
            have HG11 : Hid (Blk (wy1.alloc (.cells #[.int .i64 0, .bool false, .slice none 0 0, .slice none 0 0, .int .i64 0] 72)) wy1.heap.size 72 [.int .i64 0, .bool false, .slice none 0 0, .slice none 0 0, .int .i64 0]) := Lib.hid (Blk.new wy1 _ _)
            have HL11 : Hid (w8.heap.size ≤ wy1.heap.size) := Lib.hid HW1.out.size
            have HN11 : Hid (g12 ≠ wy1.heap.size) := Lib.hid (by have h1 := HG12.out.lt; omega)
            replace HG12 := Lib.hid (HG12.out.alloc (.cells #[.int .i64 0, .bool false, .slice none 0 0, .slice none 0 0, .int .i64 0] 72))
            clear hHeld
            refine hK.out _ _ (KP.out _ HW2.out) (fun hHeld => ?_)
            clear hK K
            try simp only [List.set_cons_zero, List.set_cons_succ]
            generalize hwz : (wy1.alloc (.cells #[.int .i64 0, .bool false, .slice none 0 0, .slice none 0 0, .int .i64 0] 72)) = wy2 at HW2 HG12 HG11 hHeld ⊢
            clear hwz
            generalize hgz : wy1.heap.size = g11 at HG11 HL11 HN11 ⊢
            clear hgz
            refine wpAnyL_ready (rs := [14]) (by kernel_rfl) (by kernel_rfl) (by simp) ?_
            refine AllReadyL.cons (o := ?_) ?_ (fun K hK => ?_) AllReadyL.nil
            case refine_2 => (simp only [List.getElem?_cons_succ, List.getElem?_cons_zero]; rfl)
            obtain ⟨z0, z1, z2, z3, z4⟩ := cells5 HG11.out
            have m0 := HG11.out.frozen 0
            have m1 := HG11.out.frozen 1
            have m2 := HG11.out.frozen 2
            have m3 := HG11.out.frozen 3
            have m4 := HG11.out.frozen 4
            go_simp
            clear z0 z1 z2 z3 z4 m0 m1 m2 m3 m4
            have HW3 : Hid (Only (w8.heap.size ≤ ·) w8 (((((wy2.setCell ⟨g11, 0, none⟩ (.int .i64 ra1)).setCell ⟨g11, 1, none⟩ (.bool la1)).setCell ⟨g11, 2, none⟩ (.slice Qa ma qa)).setCell ⟨g11, 3, none⟩ (.slice Ra ta ra)).setCell ⟨g11, 4, none⟩ (.int .i64 (ja : Int)))) := Lib.hid (((((HW2.out.setCell (p := ⟨g11, 0, none⟩) HL11.out (.int .i64 ra1)).setCell (p := ⟨g11, 1, none⟩) HL11.out (.bool la1)).setCell (p := ⟨g11, 2, none⟩) HL11.out (.slice Qa ma qa)).setCell (p := ⟨g11, 3, none⟩) HL11.out (.slice Ra ta ra)).setCell (p := ⟨g11, 4, none⟩) HL11.out (.int .i64 (ja : Int)))
            have HF11 : Hid (Blk (((((wy2.setCell ⟨g11, 0, none⟩ (.int .i64 ra1)).setCell ⟨g11, 1, none⟩ (.bool la1)).setCell ⟨g11, 2, none⟩ (.slice Qa ma qa)).setCell ⟨g11, 3, none⟩ (.slice Ra ta ra)).setCell ⟨g11, 4, none⟩ (.int .i64 (ja : Int))) g11 72 [.int .i64 ra1, .bool la1, .slice Qa ma qa, .slice Ra ta ra, .int .i64 (ja : Int)]) := Lib.hid (((((HG11.out.set_ 0 (.int .i64 ra1)).set_ 1 (.bool la1)).set_ 2 (.slice Qa ma qa)).set_ 3 (.slice Ra ta ra)).set_ 4 (.int .i64 (ja : Int)))
            clear HG11
            have HG11 := HF11
            clear HF11
            have HQ : g12 ≠ g11 := HN11.out
            replace HG12 := Lib.hid (((((HG12.out.far (p := ⟨g11, 0, none⟩) HQ (.int .i64 ra1)).far (p := ⟨g11, 1, none⟩) HQ (.bool la1)).far (p := ⟨g11, 2, none⟩) HQ (.slice Qa ma qa)).far (p := ⟨g11, 3, none⟩) HQ (.slice Ra ta ra)).far (p := ⟨g11, 4, none⟩) HQ (.int .i64 (ja : Int)))
            clear HQ
            clear hHeld
            refine hK.out _ _ (KP.out _ HW3.out) (fun hHeld => ?_)
            clear hK K
            try simp only [List.set_cons_zero, List.set_cons_succ]
            generalize hwz : (((((wy2.setCell ⟨g11, 0, none⟩ (.int .i64 ra1)).setCell ⟨g11, 1, none⟩ (.bool la1)).setCell ⟨g11, 2, none⟩ (.slice Qa ma qa)).setCell ⟨g11, 3, none⟩ (.slice Ra ta ra)).setCell ⟨g11, 4, none⟩ (.int .i64 (ja : Int))) = wy3 at HW3 HG11 HG12 hHeld ⊢
            clear hwz
            refine wpAnyL_ready (rs := [15]) (by kernel_rfl) (by kernel_rfl) (by simp) ?_
            refine AllReadyL.cons (o := ?_) ?_ (fun K hK => ?_) AllReadyL.nil
            case refine_2 => (simp only [List.getElem?_cons_succ, List.getElem?_cons_zero]; rfl)
            obtain ⟨z0, z1, z2, z3, z4⟩ := cells5 HG12.out
            have m0 := HG12.out.frozen 0
            have m1 := HG12.out.frozen 1
            have m2 := HG12.out.frozen 2
            have m3 := HG12.out.frozen 3
            have m4 := HG12.out.frozen 4
            go_simp
            clear z0 z1 z2 z3 z4 m0 m1 m2 m3 m4
            have HW4 : Hid (Only (w8.heap.size ≤ ·) w8 (((((wy3.setCell ⟨g12, 0, none⟩ (.int .i64 rb1)).setCell ⟨g12, 1, none⟩ (.bool lb1)).setCell ⟨g12, 2, none⟩ (.slice Qb mb qb)).setCell ⟨g12, 3, none⟩ (.slice Rb tb rb)).setCell ⟨g12, 4, none⟩ (.int .i64 (jb : Int)))) := Lib.hid (((((HW3.out.setCell (p := ⟨g12, 0, none⟩) HL12.out (.int .i64 rb1)).setCell (p := ⟨g12, 1, none⟩) HL12.out (.bool lb1)).setCell (p := ⟨g12, 2, none⟩) HL12.out (.slice Qb mb qb)).setCell (p := ⟨g12, 3, none⟩) HL12.out (.slice Rb tb rb)).setCell (p := ⟨g12, 4, none⟩) HL12.out (.int .i64 (jb : Int)))
            have HF12 : Hid (Blk (((((wy3.setCell ⟨g12, 0, none⟩ (.int .i64 rb1)).setCell ⟨g12, 1, none⟩ (.bool lb1)).setCell ⟨g12, 2, none⟩ (.slice Qb mb qb)).setCell ⟨g12, 3, none⟩ (.slice Rb tb rb)).setCell ⟨g12, 4, none⟩ (.int .i64 (jb : Int))) g12 72 [.int .i64 rb1, .bool lb1, .slice Qb mb qb, .slice Rb tb rb, .int .i64 (jb : Int)]) := Lib.hid (((((HG12.out.set_ 0 (.int .i64 rb1)).set_ 1 (.bool lb1)).set_ 2 (.slice Qb mb qb)).set_ 3 (.slice Rb tb rb)).set_ 4 (.int .i64 (jb : Int)))
            clear HG12
            have HG12 := HF12
            clear HF12
            have HQ : g11 ≠ g12 := (Ne.symm HN11.out)
            replace HG11 := Lib.hid (((((HG11.out.far (p := ⟨g12, 0, none⟩) HQ (.int .i64 rb1)).far (p := ⟨g12, 1, none⟩) HQ (.bool lb1)).far (p := ⟨g12, 2, none⟩) HQ (.slice Qb mb qb)).far (p := ⟨g12, 3, none⟩) HQ (.slice Rb tb rb)).far (p := ⟨g12, 4, none⟩) HQ (.int .i64 (jb : Int)))
            clear HQ
            clear hHeld
            refine hK.out _ _ (KP.out _ HW4.out) (fun hHeld => ?_)
            clear hK K
            try simp only [List.set_cons_zero, List.set_cons_succ]
            generalize hwz : (((((wy3.setCell ⟨g12, 0, none⟩ (.int .i64 rb1)).setCell ⟨g12, 1, none⟩ (.bool lb1)).setCell ⟨g12, 2, none⟩ (.slice Qb mb qb)).setCell ⟨g12, 3, none⟩ (.slice Rb tb rb)).setCell ⟨g12, 4, none⟩ (.int .i64 (jb : Int))) = wy4 at HW4 HG11 HG12 hHeld ⊢
            clear hwz
            refine wpAnyL_done (by kernel_rfl) (by kernel_rfl) ?_ _
            clear hsel hHeld
            go_wp2_with (fail)
            refine Met.intro ?_
            go_step
            (repeat apply Exists.intro)
            refine ⟨?rel13121415, rfl⟩
            exact ⟨g11, g12, rfl, rfl, HG11, HG12, HW4⟩
        case rest =>
          obtain ⟨g1, g2, rfl, rfl, HG1, HG2, HX⟩ := hcut
          obtain ⟨ba, oa, ib, io, P1, Q1, P2, Q2, t1, p1, u1, q1, p2, q2, s1, r1, hQa, hIA, hc1, hl1⟩ := item_pair HNA.out HI.out (show ja < ma by omega) (show 0 < ni by omega) HSA.out.2.2.2
          obtain ⟨b3, o3, ib', io', P3, Q3, P4, Q4, t3, p3, u3, q3, p4, q4, s3, r3, hQb, hIB, hc2, hl2⟩ := item_pair HNB.out HI.out (show jb < mb by omega) HKN.out.2 HSB.out.2.2.2
          subst hQa hQb hIA
          cases hIB
          have HC1 := Lib.hid hl1
          have HC2 := Lib.hid hl2
          have HB5c := Lib.hid (HB5.out.later HX.out)
          have KP : Hid (∀ W : World, Only (wc.heap.size ≤ ·) wc W → (fun W : World => W.cell? ⟨g1, 2, none⟩ = some (.slice (some ⟨ba, oa, none⟩) ma qa) ∧ W.cell? ⟨g1, 4, none⟩ = some (.int .i64 (ja : Int)) ∧ W.cell? ⟨g2, 2, none⟩ = some (.slice (some ⟨b3, o3, none⟩) mb qb) ∧ W.cell? ⟨g2, 4, none⟩ = some (.int .i64 (jb : Int)) ∧ W.cell? ⟨b5, 0, none⟩ = some (.slice (some ⟨ib, io, none⟩) ni ic) ∧ W.cell? ⟨ba, oa + ja * 4, none⟩ = some (.slice P1 t1 p1) ∧ W.cell? ⟨ib, io, none⟩ = some (.slice P2 t1 p2) ∧ W.cell? ⟨b3, o3 + jb * 4, none⟩ = some (.slice P3 t3 p3) ∧ W.cell? ⟨ib, io + kn1 * 4, none⟩ = some (.slice P4 t3 p4) ∧ W.cell? ⟨ba, oa + ja * 4 + 1, none⟩ = some (.slice Q1 u1 q1) ∧ W.cell? ⟨ib, io + 1, none⟩ = some (.slice Q2 u1 q2) ∧ W.cell? ⟨b3, o3 + jb * 4 + 1, none⟩ = some (.slice Q3 u3 q3) ∧ W.cell? ⟨ib, io + kn1 * 4 + 1, none⟩ = some (.slice Q4 u3 q4) ∧ W.cell? ⟨ba, oa + ja * 4 + 2, none⟩ = some (.int .i64 s1) ∧ W.cell? ⟨ib, io + 2, none⟩ = some (.int .i64 s1) ∧ W.cell? ⟨b3, o3 + jb * 4 + 2, none⟩ = some (.int .i64 s3) ∧ W.cell? ⟨ib, io + kn1 * 4 + 2, none⟩ = some (.int .i64 s3) ∧ W.cell? ⟨ba, oa + ja * 4 + 3, none⟩ = some (.int .i64 r1) ∧ W.cell? ⟨ib, io + 3, none⟩ = some (.int .i64 r1) ∧ W.cell? ⟨b3, o3 + jb * 4 + 3, none⟩ = some (.int .i64 r3) ∧ W.cell? ⟨ib, io + kn1 * 4 + 3, none⟩ = some (.int .i64 r3)) W) := Lib.hid (fun W hW => by
            obtain ⟨a1, a2, a3, a4, a5, a6, a7, a8⟩ := hc1 W (on_new HX.out hW)
            obtain ⟨b1, b2, b3, b4, b5, b6, b7, b8⟩ := hc2 W (on_new HX.out hW)
            simp only [Nat.zero_mul, Nat.add_zero] at a5 a6 a7 a8
            exact ⟨(HG1.out.later hW).cell 2, (HG1.out.later hW).cell 4, (HG2.out.later hW).cell 2, (HG2.out.later hW).cell 4, (HB5c.out.later hW).cell 0, a1, a5, b1, b5, a2, a6, b2, b6, a3, a7, b3, b7, a4, a8, b4, b8⟩)
          clear hl1 hl2 hc1 hc2
          obtain ⟨d0, d1, d2, d3, d4⟩ := cells5 HG1.out
          obtain ⟨e0, e1, e2, e3, e4⟩ := cells5 HG2.out
          have hla2 : ¬ (ma : Int) ≤ (ja : Int) := by omega
          have hlb2 : ¬ (mb : Int) ≤ (jb : Int) := by omega
          go_upto_region 13 with (fail)
          clear d0 d1 d2 d3 d4 e0 e1 e2 e3 e4 hla2 hlb2
          have hja0 : (0 : Int) ≤ (ja : Int) := by omega
          have hjb0 : (0 : Int) ≤ (jb : Int) := by omega
          have hkw : IntKind.i64.wrap (kn1 : Int) = (kn1 : Int) := IntWalk.i64_in _ (by have h0 := HKN.out; have h1 := HI.out.cap; omega)
          have hk0 : (0 : Int) ≤ (kn1 : Int) := by omega
          have hk1 : (kn1 : Int) < (ni : Int) := by have h0 := HKN.out; omega
          have hk2 := HKN.out.1
          have hnz : (0 : Int) < (ni : Int) := by omega
          have HDX : Hid (Only (wc.heap.size ≤ ·) wc wc.drew) := Lib.hid ((Only.refl _ wc).drew)
          have HSX := Lib.hid (KP.out _ HDX.out)
          refine wp_region_list (B := [false, false, false, false, false, false, false, false, false, false, false, false, false, false, false, false, false, false, false, false, false, false, false, false, false, false, false, false, false, false, false, false, false, false]) (S := (fun W : World => W.cell? ⟨g1, 2, none⟩ = some (.slice (some ⟨ba, oa, none⟩) ma qa) ∧ W.cell? ⟨g1, 4, none⟩ = some (.int .i64 (ja : Int)) ∧ W.cell? ⟨g2, 2, none⟩ = some (.slice (some ⟨b3, o3, none⟩) mb qb) ∧ W.cell? ⟨g2, 4, none⟩ = some (.int .i64 (jb : Int)) ∧ W.cell? ⟨b5, 0, none⟩ = some (.slice (some ⟨ib, io, none⟩) ni ic) ∧ W.cell? ⟨ba, oa + ja * 4, none⟩ = some (.slice P1 t1 p1) ∧ W.cell? ⟨ib, io, none⟩ = some (.slice P2 t1 p2) ∧ W.cell? ⟨b3, o3 + jb * 4, none⟩ = some (.slice P3 t3 p3) ∧ W.cell? ⟨ib, io + kn1 * 4, none⟩ = some (.slice P4 t3 p4) ∧ W.cell? ⟨ba, oa + ja * 4 + 1, none⟩ = some (.slice Q1 u1 q1) ∧ W.cell? ⟨ib, io + 1, none⟩ = some (.slice Q2 u1 q2) ∧ W.cell? ⟨b3, o3 + jb * 4 + 1, none⟩ = some (.slice Q3 u3 q3) ∧ W.cell? ⟨ib, io + kn1 * 4 + 1, none⟩ = some (.slice Q4 u3 q4) ∧ W.cell? ⟨ba, oa + ja * 4 + 2, none⟩ = some (.int .i64 s1) ∧ W.cell? ⟨ib, io + 2, none⟩ = some (.int .i64 s1) ∧ W.cell? ⟨b3, o3 + jb * 4 + 2, none⟩ = some (.int .i64 s3) ∧ W.cell? ⟨ib, io + kn1 * 4 + 2, none⟩ = some (.int .i64 s3) ∧ W.cell? ⟨ba, oa + ja * 4 + 3, none⟩ = some (.int .i64 r1) ∧ W.cell? ⟨ib, io + 3, none⟩ = some (.int .i64 r1) ∧ W.cell? ⟨b3, o3 + jb * 4 + 3, none⟩ = some (.int .i64 r3) ∧ W.cell? ⟨ib, io + kn1 * 4 + 3, none⟩ = some (.int .i64 r3))) (by kernel_rfl) (by kernel_rfl) (by kernel_rfl) HSX.out (fun hsel hHeld => ?_)
          generalize hwz : World.drew _ = wx at HDX HSX hHeld ⊢
          clear hwz
          refine wpAnyL_ready (rs := [0]) (by kernel_rfl) (by kernel_rfl) (by simp) ?_
          refine AllReadyL.cons (o := ?_) ?_ (fun K hK => ?_) AllReadyL.nil
          case refine_2 => (simp only [List.getElem?_cons_zero]; rfl)
          go_simp
          (go_at_call 9; (with_reducible refine (talive_c HM _).mono ?_); rintro e wv0 ⟨rfl, ho⟩; have HV0 := Lib.hid (on_new HDX.out ho); clear ho)
          go_wp2_with (fail)
          clear hHeld
          refine hK.out _ _ (KP.out _ HV0.out) (fun hHeld => ?_)
          clear hK K
          try simp only [List.set_cons_zero]
          refine oneA 1 101 hsel (h := ?_)
          simp only [Act.put, List.setIfInBounds_toArray, List.set_cons_zero, List.set_cons_succ]
          refine oneA 2 102 hsel (h := ?_)
          simp only [Act.put, List.setIfInBounds_toArray, List.set_cons_zero, List.set_cons_succ]
          refine oneA 3 103 hsel (h := ?_)
          simp only [Act.put, List.setIfInBounds_toArray, List.set_cons_zero, List.set_cons_succ]
          refine oneA 4 104 hsel (h := ?_)
          simp only [Act.put, List.setIfInBounds_toArray, List.set_cons_zero, List.set_cons_succ]
          refine oneA 5 105 hsel (h := ?_)
          simp only [Act.put, List.setIfInBounds_toArray, List.set_cons_zero, List.set_cons_succ]
          refine oneA 6 106 hsel (h := ?_)
          simp only [Act.put, List.setIfInBounds_toArray, List.set_cons_zero, List.set_cons_succ]
          refine oneA 7 107 hsel (h := ?_)
          simp only [Act.put, List.setIfInBounds_toArray, List.set_cons_zero, List.set_cons_succ]
          refine oneA 8 108 hsel (h := ?_)
          simp only [Act.put, List.setIfInBounds_toArray, List.set_cons_zero, List.set_cons_succ]
          refine oneA 9 109 hsel (h := ?_)
          simp only [Act.put, List.setIfInBounds_toArray, List.set_cons_zero, List.set_cons_succ]
          refine oneA 10 110 hsel (h := ?_)
          simp only [Act.put, List.setIfInBounds_toArray, List.set_cons_zero, List.set_cons_succ]
          refine oneA 11 111 hsel (h := ?_)
          simp only [Act.put, List.setIfInBounds_toArray, List.set_cons_zero, List.set_cons_succ]
          refine oneA 12 112 hsel (h := ?_)
          simp only [Act.put, List.setIfInBounds_toArray, List.set_cons_zero, List.set_cons_succ]
          refine wpAnyL_ready (rs := [13]) (by kernel_rfl) (by kernel_rfl) (by simp) ?_
          refine AllReadyL.cons (o := ?_) ?_ (fun K hK => ?_) AllReadyL.nil
          case refine_2 => (simp only [List.getElem?_cons_succ, List.getElem?_cons_zero]; rfl)
          go_simp
          (go_at_call 18; (with_reducible refine (HC1.out _ (on_new HX.out HV0.out)).mono ?_); rintro e wv1 ⟨rfl, ho⟩; have HV1 := Lib.hid (on_new HV0.out ho); clear ho)
          go_wp2_with (fail)
          clear hHeld
          refine hK.out _ _ (KP.out _ HV1.out) (fun hHeld => ?_)
          clear hK K
          try simp only [List.set_cons_zero, List.set_cons_succ]
          refine oneA 14 114 hsel (h := ?_)
          simp only [Act.put, List.setIfInBounds_toArray, List.set_cons_zero, List.set_cons_succ]
          refine oneA 15 115 hsel (h := ?_)
          simp only [Act.put, List.setIfInBounds_toArray, List.set_cons_zero, List.set_cons_succ]
          refine oneA 16 116 hsel (h := ?_)
          simp only [Act.put, List.setIfInBounds_toArray, List.set_cons_zero, List.set_cons_succ]
          refine oneA 17 117 hsel (h := ?_)
          simp only [Act.put, List.setIfInBounds_toArray, List.set_cons_zero, List.set_cons_succ]
          refine oneA 18 118 hsel (h := ?_)
          simp only [Act.put, List.setIfInBounds_toArray, List.set_cons_zero, List.set_cons_succ]
          refine oneA 19 119 hsel (h := ?_)
          simp only [Act.put, List.setIfInBounds_toArray, List.set_cons_zero, List.set_cons_succ]
          refine oneA 20 120 hsel (h := ?_)
          simp only [Act.put, List.setIfInBounds_toArray, List.set_cons_zero, List.set_cons_succ]
          refine oneA 21 121 hsel (h := ?_)
          simp only [Act.put, List.setIfInBounds_toArray, List.set_cons_zero, List.set_cons_succ]
          refine oneA 22 122 hsel (h := ?_)
          simp only [Act.put, List.setIfInBounds_toArray, List.set_cons_zero, List.set_cons_succ]
          refine oneA 23 123 hsel (h := ?_)
          simp only [Act.put, List.setIfInBounds_toArray, List.set_cons_zero, List.set_cons_succ]
          refine oneA 24 124 hsel (h := ?_)
          simp only [Act.put, List.setIfInBounds_toArray, List.set_cons_zero, List.set_cons_succ]
          refine oneA 25 125 hsel (h := ?_)
          simp only [Act.put, List.setIfInBounds_toArray, List.set_cons_zero, List.set_cons_succ]
          refine oneA 26 126 hsel (h := ?_)
          simp only [Act.put, List.setIfInBounds_toArray, List.set_cons_zero, List.set_cons_succ]
          refine oneA 27 127 hsel (h := ?_)
          simp only [Act.put, List.setIfInBounds_toArray, List.set_cons_zero, List.set_cons_succ]
          refine oneA 28 128 hsel (h := ?_)
          simp only [Act.put, List.setIfInBounds_toArray, List.set_cons_zero, List.set_cons_succ]
          refine oneA 29 129 hsel (h := ?_)
          simp only [Act.put, List.setIfInBounds_toArray, List.set_cons_zero, List.set_cons_succ]
          refine oneA 30 130 hsel (h := ?_)
          simp only [Act.put, List.setIfInBounds_toArray, List.set_cons_zero, List.set_cons_succ]
          refine wpAnyL_ready (rs := [31]) (by kernel_rfl) (by kernel_rfl) (by simp) ?_
          refine AllReadyL.cons (o := ?_) ?_ (fun K hK => ?_) AllReadyL.nil
          case refine_2 => (simp only [List.getElem?_cons_succ, List.getElem?_cons_zero]; rfl)
          go_simp
          (go_at_call 18; (with_reducible refine (HC2.out _ (on_new HX.out HV1.out)).mono ?_); rintro e wv2 ⟨rfl, ho⟩; have HV2 := Lib.hid (on_new HV1.out ho); clear ho)
          go_wp2_with (fail)
          clear hHeld
          refine hK.out _ _ (KP.out _ HV2.out) (fun hHeld => ?_)
          clear hK K
          try simp only [List.set_cons_zero, List.set_cons_succ]
          refine oneA 32 132 hsel (h := ?_)
          simp only [Act.put, List.setIfInBounds_toArray, List.set_cons_zero, List.set_cons_succ]
          refine oneA 33 4 hsel (h := ?_)
          simp only [Act.put, List.setIfInBounds_toArray, List.set_cons_zero, List.set_cons_succ]
          refine wpAnyL_done (by kernel_rfl) (by kernel_rfl) ?_ _
          clear hsel hHeld
          go_wp2_with (fail)
          go_ret
          exact ⟨rfl, on_new HO.out (on_new HX.out HV2.out)⟩
    · have her' : ¬ er = 0 := her
      go_wp2_with ((go_at_call 9; (with_reducible refine (talive_c HM _).mono ?_); rintro e w9 ⟨rfl, ho⟩; have HOF := Lib.hid (on_new HO.out ho); clear ho))
      go_ret
      exact ⟨rfl, HOF.out⟩
end Go.Proofs.Ytdpdlhfjemehcaa
