/-
  TreeAll.
-/
import Derived.Test.YtdpdlhfjemehcaaTab
import Derived.Test.YtdpdlhfjemehcaaTpw
set_option linter.unusedVariables false
namespace Go.Proofs.Ytdpdlhfjemehcaa
open Go.RowKit

set_option maxRecDepth 100000 in
set_option maxHeartbeats 25600000 in
theorem all_walk (HM : MeetC) (w : World) (A : Option Addr) (n c : Nat) (root : Int) (l : List Nm) (h : Nms w (.slice A n c) l) (hok : ∀ x ∈ l, OkN x) (hrt : -9223372036854775808 ≤ root ∧ root ≤ 9223372036854775807) :
    Calls Try.prog 4 #[.slice A n c, .int .i64 root] w (Told w (.bool true)) := by
  have HN := Lib.hid h
  have HOK := Lib.hid hok
  have HRT : Hid ((Lit.int .i64 root).wf = true) := Lib.hid (by simp [Lit.wf, IntKind.min, IntKind.max, IntKind.signed, IntKind.bits]; omega)
  have hcap := h.cap
  have HFW := Lib.hid (few_w w A n c l h (okN_len hok))
  clear h hok
  have HO : Hid (Only (w.heap.size ≤ ·) w w) := Lib.hid (Only.refl _ _)
  obtain ⟨fb, hfb⟩ : ∃ b, b = fewB l := ⟨_, rfl⟩
  rw [← hfb] at HFW
  have HFB := Lib.hid hfb
  clear hfb
  go_enter Try.func4, Try.ntmps4
  cases fb with
  | false =>
    go_wp2_with (first
      | (go_at_call 8; (with_reducible refine HFW.out.mono ?_); rintro e w1 ⟨rfl, ho⟩; replace HO := Lib.hid ho; clear ho)
      | (go_at_call 9; (with_reducible refine (talive_c HM _).mono ?_); rintro e w9 ⟨rfl, ho⟩; have HOF := Lib.hid (on_new HO.out ho); clear ho))
    go_ret
    exact ⟨rfl, HOF.out⟩
  | true =>
    have HF := Lib.hid (few_FewN HOK.out HFB.out.symm)
    obtain ⟨R, hR⟩ : ∃ R, R = allP l root := ⟨_, rfl⟩
    obtain ⟨er, S⟩ := R
    have HR := Lib.hid hR
    obtain ⟨Z, hZ⟩ : ∃ Z, Z = okS (er, S) := ⟨_, rfl⟩
    have HZ := Lib.hid hZ
    obtain ⟨dz, hdz⟩ : ∃ d, d = Z.dep := ⟨_, rfl⟩
    obtain ⟨nI, hnI⟩ : ∃ d, d = Z.its.length := ⟨_, rfl⟩
    obtain ⟨nR, hnR⟩ : ∃ d, d = Z.refs.length := ⟨_, rfl⟩
    have HDZ := Lib.hid hdz
    have HNI := Lib.hid hnI
    have HNR := Lib.hid hnR
    clear hR hZ hdz hnI hnR
    go_upto_region 4 with (first
      | (go_at_call 8; (with_reducible refine HFW.out.mono ?_); rintro e w1 ⟨rfl, ho⟩; replace HO := Lib.hid ho; clear ho)
      | (go_at_call 12; (with_reducible refine (Source_c _ A n c).mono ?_); rintro e w4 ⟨⟨bl, rfl, _, hbl⟩, ho⟩; replace HN := Lib.hid (Rw.later HN.out (on_new HO.out ho)); replace HO := Lib.hid (on_new HO.out ho); have HBL := Lib.hid hbl; clear hbl ho)
      | (go_at_call 16; have hc := All_c HM _ bl A n c root l HBL.out HN.out HF.out HRT.out; rw [← HR.out] at hc; unfold AllSays at hc; rw [← HZ.out, ← HDZ.out] at hc; (with_reducible refine hc.mono ?_); rintro e w5 ⟨⟨IA, ni, ic, RA, nr, rc, rfl, hi, hr⟩, ho⟩; have HNX : Hid (ni = nI ∧ nr = nR) := Lib.hid ⟨hi.len.trans HNI.out.symm, hr.len.trans HNR.out.symm⟩; have HI := Lib.hid hi; have HP := Lib.hid hr; replace HN := Lib.hid (Rw.later HN.out ho); replace HO := Lib.hid (on_new HO.out ho); clear hi hr ho hc))
    obtain ⟨rfl, rfl⟩ := HNX.out
    clear HBL HNX
    obtain ⟨w6, hw6⟩ : ∃ z9, z9 = w5.alloc (.cells #[.slice IA ni ic, .slice RA nr rc, .int .i64 (dz : Int)] 49) := ⟨_, rfl⟩
    obtain ⟨b5, hb5⟩ : ∃ z9, z9 = w5.heap.size := ⟨_, rfl⟩
    have Hb5 : Hid (Blk w6 b5 49 [.slice IA ni ic, .slice RA nr rc, .int .i64 (dz : Int)]) := Lib.hid (by rw [hw6, hb5]; exact Blk.new w5 _ [.slice IA ni ic, .slice RA nr rc, .int .i64 (dz : Int)])
    have HXb5 : Hid (Only (w5.heap.size ≤ ·) w5 w6) := Lib.hid (by rw [hw6]; exact (Only.refl _ w5).alloc (fun _ h => h) _)
    have HEQb5 : Hid (w6 = w5.alloc (.cells #[.slice IA ni ic, .slice RA nr rc, .int .i64 (dz : Int)] 49) ∧ b5 = w5.heap.size) := Lib.hid ⟨hw6, hb5⟩
    clear hw6 hb5
    rw [← HEQb5.out.1, ← HEQb5.out.2]
    replace HN := Lib.hid (Rw.later HN.out HXb5.out)
    replace HI := Lib.hid (Rw.later HI.out HXb5.out)
    replace HP := Lib.hid (Rw.later HP.out HXb5.out)
    replace HO := Lib.hid (on_new HO.out HXb5.out)
    clear HEQb5 HXb5
    have HRC : Hid (Calls Try.prog 17 #[.slice A n c, .int .i64 root, .int .i64 1, .agg #[.bool false, .slice none 0 0], .agg #[.bool false, .slice none 0 0], .agg #[.slice none 0 0, .slice none 0 0, .int .i64 0, .int .i64 0]] w6 (AllR w6 w6 l (er, S))) := Lib.hid (by
      have h1 := rAll_c l HF.out w6 A n c HN.out 12 (Nat.le_refl _) w6 (Only.refl _ _) root 1 rfl false false none none 0 0 0 0 none none rfl (Src.nil_ _) rfl (Src.nil_ _) none none 0 0 0 0 0 ⟨[], [], 0⟩ ⟨⟨[], World.ownsRow_nil _ _ _ _, rfl⟩, World.ownsRow_nil _ _ _ _⟩ rfl ⟨List.nodup_nil, (fun r hr => nomatch hr), Nat.zero_le _⟩
      have h2 : visitP l 12 root ((none : Option Bytes).getD [], none) ⟨[], [], 0⟩ = (er, S) := HR.out.symm
      rw [h2] at h1
      exact h1)
    go_upto_region 5 with (go_at_call 17; (with_reducible refine HRC.out.mono ?_); rintro e w7 ⟨⟨vI, vR, rfl, hai⟩, ho⟩; rw [← HZ.out] at hai; (obtain ⟨JA, jc, KA, kc, rfl, rfl⟩ := hai.form); rw [← HZ.out, ← HDZ.out, ← HNI.out, ← HNR.out]; rw [← HNI.out, ← HNR.out] at hai; have HAI := Lib.hid hai; have HX7 := Lib.hid ho; clear hai ho)
    have HJ : Hid (Its w7 (.slice JA ni jc) Z.its) := Lib.hid (by
      obtain ⟨CI, h1, h2⟩ := HAI.out.i
      exact rw_of_own h1 (by rfl) (h2.mono fun _ _ hx => itE.later hx HX7.out))
    have HQ : Hid (Ins w7 (.slice KA nr kc) Z.refs) := Lib.hid (rw_of_own HAI.out.r rfl (den_ins _ _))
    obtain ⟨w8, hw8⟩ : ∃ z9, z9 = w7.alloc (.cells #[.slice JA ni jc, .slice KA nr kc, .int .i64 (dz : Int), .int .i64 er] 53) := ⟨_, rfl⟩
    obtain ⟨b7, hb7⟩ : ∃ z9, z9 = w7.heap.size := ⟨_, rfl⟩
    have Hb7 : Hid (Blk w8 b7 53 [.slice JA ni jc, .slice KA nr kc, .int .i64 (dz : Int), .int .i64 er]) := Lib.hid (by rw [hw8, hb7]; exact Blk.new w7 _ [.slice JA ni jc, .slice KA nr kc, .int .i64 (dz : Int), .int .i64 er])
    have HXb7 : Hid (Only (w7.heap.size ≤ ·) w7 w8) := Lib.hid (by rw [hw8]; exact (Only.refl _ w7).alloc (fun _ h => h) _)
    have HEQb7 : Hid (w8 = w7.alloc (.cells #[.slice JA ni jc, .slice KA nr kc, .int .i64 (dz : Int), .int .i64 er] 53) ∧ b7 = w7.heap.size) := Lib.hid ⟨hw8, hb7⟩
    clear hw8 hb7
    rw [← HEQb7.out.1, ← HEQb7.out.2]
    have HX8 := Lib.hid (on_new HX7.out HXb7.out)
    replace HI := Lib.hid (Rw.later HI.out HX8.out)
    replace HP := Lib.hid (Rw.later HP.out HX8.out)
    replace HJ := Lib.hid (Rw.later HJ.out HXb7.out)
    replace HQ := Lib.hid (Rw.later HQ.out HXb7.out)
    replace HO := Lib.hid (on_new HO.out HX8.out)
    have HB5 := Lib.hid (Hb5.out.later HX8.out)
    clear HEQb7 HXb7 HX7 HX8 HAI HRC Hb5
    have hci := HI.out.cap
    have hcj := HJ.out.cap
    have hcp := HP.out.cap
    have hcq := HQ.out.cap
    obtain ⟨c0, c1, c2⟩ := HB5.out.tri
    obtain ⟨d0, d1, d2, d3⟩ := Hb7.out.cell4
    go_upto_region 8 with (fail)
    clear c0 c1 c2 d0 d1 d2 d3
    have HIT := Lib.hid (its_both HI.out HJ.out)
    go_loopg [59] ni (fun gk i wr => ∃ k : Nat, gk = ni - k ∧ k ≤ ni ∧ i = .int .i64 (k : Int) ∧ Hid (Only (w8.heap.size ≤ ·) w8 wr))
    case atStart => exact ⟨0, rfl, Nat.zero_le _, rfl, Lib.hid (Only.refl _ _)⟩
    case round =>
      obtain ⟨k, rfl, hk, rfl, HOL⟩ := hrel
      by_cases hlt : k < ni
      · obtain ⟨b, off, b2, off2, P, Q, P2, Q2, t, p, e, q, p2, q2, s, r, rfl, rfl, hcells, hcall⟩ := HIT.out k hlt
        have HCL := Lib.hid hcall
        have HCS := Lib.hid hcells
        clear hcall hcells
        have KP : Hid (∀ W : World, Only (w8.heap.size ≤ ·) w8 W → (fun W : World => W.cell? ⟨b5, 0, none⟩ = some (.slice (some ⟨b, off, none⟩) ni ic) ∧ W.cell? ⟨b7, 0, none⟩ = some (.slice (some ⟨b2, off2, none⟩) ni jc) ∧ W.cell? ⟨b, off + k * 4, none⟩ = some (.slice P t p) ∧ W.cell? ⟨b, off + k * 4 + 1, none⟩ = some (.slice Q e q) ∧ W.cell? ⟨b, off + k * 4 + 2, none⟩ = some (.int .i64 s) ∧ W.cell? ⟨b, off + k * 4 + 3, none⟩ = some (.int .i64 r) ∧ W.cell? ⟨b2, off2 + k * 4, none⟩ = some (.slice P2 t p2) ∧ W.cell? ⟨b2, off2 + k * 4 + 1, none⟩ = some (.slice Q2 e q2) ∧ W.cell? ⟨b2, off2 + k * 4 + 2, none⟩ = some (.int .i64 s) ∧ W.cell? ⟨b2, off2 + k * 4 + 3, none⟩ = some (.int .i64 r)) W) := Lib.hid (fun W hW => ⟨(HB5.out.later hW).cell 0, (Hb7.out.later hW).cell 0, HCS.out W hW⟩)
        have hk0 : (0 : Int) ≤ (k : Int) := by omega
        have hlt' : (k : Int) < (ni : Int) := by omega
        go_upto_region 10 with (fail)
        have HDX : Hid (Only (w8.heap.size ≤ ·) w8 wr.drew) := Lib.hid HOL.out.drew
        have HSX := Lib.hid (KP.out _ HDX.out)
        refine wp_region_list (B := [false, false, false, false, false, false, false, false, false, false, false, false]) (S := (fun W : World => W.cell? ⟨b5, 0, none⟩ = some (.slice (some ⟨b, off, none⟩) ni ic) ∧ W.cell? ⟨b7, 0, none⟩ = some (.slice (some ⟨b2, off2, none⟩) ni jc) ∧ W.cell? ⟨b, off + k * 4, none⟩ = some (.slice P t p) ∧ W.cell? ⟨b, off + k * 4 + 1, none⟩ = some (.slice Q e q) ∧ W.cell? ⟨b, off + k * 4 + 2, none⟩ = some (.int .i64 s) ∧ W.cell? ⟨b, off + k * 4 + 3, none⟩ = some (.int .i64 r) ∧ W.cell? ⟨b2, off2 + k * 4, none⟩ = some (.slice P2 t p2) ∧ W.cell? ⟨b2, off2 + k * 4 + 1, none⟩ = some (.slice Q2 e q2) ∧ W.cell? ⟨b2, off2 + k * 4 + 2, none⟩ = some (.int .i64 s) ∧ W.cell? ⟨b2, off2 + k * 4 + 3, none⟩ = some (.int .i64 r))) (by kernel_rfl) (by kernel_rfl) (by kernel_rfl) HSX.out (fun hsel hHeld => ?_)
        generalize hwz : World.drew _ = wx at HDX HSX hHeld ⊢
        clear hwz
        refine oneA 0 62 hsel (h := ?_)
        simp only [Act.put, List.setIfInBounds_toArray, List.set_cons_zero, List.set_cons_succ]
        refine oneA 1 63 hsel (h := ?_)
        simp only [Act.put, List.setIfInBounds_toArray, List.set_cons_zero, List.set_cons_succ]
        refine oneA 2 64 hsel (h := ?_)
        simp only [Act.put, List.setIfInBounds_toArray, List.set_cons_zero, List.set_cons_succ]
        refine oneA 3 65 hsel (h := ?_)
        simp only [Act.put, List.setIfInBounds_toArray, List.set_cons_zero, List.set_cons_succ]
        refine oneA 4 66 hsel (h := ?_)
        simp only [Act.put, List.setIfInBounds_toArray, List.set_cons_zero, List.set_cons_succ]
        refine oneA 5 67 hsel (h := ?_)
        simp only [Act.put, List.setIfInBounds_toArray, List.set_cons_zero, List.set_cons_succ]
        refine oneA 6 68 hsel (h := ?_)
        simp only [Act.put, List.setIfInBounds_toArray, List.set_cons_zero, List.set_cons_succ]
        refine oneA 7 69 hsel (h := ?_)
        simp only [Act.put, List.setIfInBounds_toArray, List.set_cons_zero, List.set_cons_succ]
        refine oneA 8 70 hsel (h := ?_)
        simp only [Act.put, List.setIfInBounds_toArray, List.set_cons_zero, List.set_cons_succ]
        refine oneA 9 71 hsel (h := ?_)
        simp only [Act.put, List.setIfInBounds_toArray, List.set_cons_zero, List.set_cons_succ]
        refine wpAnyL_ready (rs := [10]) (by kernel_rfl) (by kernel_rfl) (by simp) ?_
        refine AllReadyL.cons (o := ?_) ?_ (fun K hK => ?_) AllReadyL.nil
        case refine_2 => (simp only [List.getElem?_cons_succ, List.getElem?_cons_zero]; rfl)
        go_simp
        (go_at_call 18; (with_reducible refine (HCL.out _ HDX.out).mono ?_); rintro ee wc ⟨rfl, ho⟩; have HOC := Lib.hid (on_new HDX.out ho); have HKC := Lib.hid (KP.out _ HOC.out); clear ho)
        go_wp2_with (fail)
        clear hHeld
        refine hK.out _ _ HKC.out (fun hHeld => ?_)
        clear hK K
        try simp only [List.set_cons_zero, List.set_cons_succ]
        refine oneA 11 73 hsel (h := ?_)
        simp only [Act.put, List.setIfInBounds_toArray, List.set_cons_zero, List.set_cons_succ]
        refine wpAnyL_done (by kernel_rfl) (by kernel_rfl) ?_ _
        clear hsel hHeld
        go_wp2_with (fail)
        go_roundg (ni - (k + 1))
        case measure => omega
        case rel => exact ⟨k + 1, rfl, by omega, by go_num, HOC⟩
      · obtain rfl : k = ni := by omega
        have hkm : ¬ (k : Int) < (k : Int) := by omega
        have HB5r := Lib.hid (HB5.out.later HOL.out)
        have HB7r := Lib.hid (Hb7.out.later HOL.out)
        obtain ⟨c0, c1, c2⟩ := HB5r.out.tri
        obtain ⟨d0, d1, d2, d3⟩ := HB7r.out.cell4
        go_upto_region 14 with (fail)
        clear c0 c1 c2 d0 d1 d2 d3 HB5r HB7r
        have HO9 := Lib.hid HOL.out
        go_loopg [78] nr (fun gk i wr => ∃ j : Nat, gk = nr - j ∧ j ≤ nr ∧ i = .int .i64 (j : Int) ∧ Hid (Only (w8.heap.size ≤ ·) w8 wr))
        case atStart => exact ⟨0, rfl, Nat.zero_le _, rfl, HO9⟩
        case round =>
          obtain ⟨j, rfl, hj, rfl, HOM⟩ := hrel
          have HB5s := Lib.hid (HB5.out.later HOM.out)
          have HB7s := Lib.hid (Hb7.out.later HOM.out)
          by_cases hjt : j < nr
          · obtain ⟨b, off, y, hRA, _, hy, q0⟩ := ins_at (Rw.later HP.out HOM.out) hjt
            obtain ⟨b2, off2, y2, hKA, _, hy2, r0⟩ := ins_at (Rw.later HQ.out HOM.out) hjt
            rw [hy] at hy2
            cases hy2
            subst hRA hKA
            obtain ⟨c0, c1, c2⟩ := HB5s.out.tri
            obtain ⟨d0, d1, d2, d3⟩ := HB7s.out.cell4
            have hj0 : (0 : Int) ≤ (j : Int) := by omega
            have hjt' : (j : Int) < (nr : Int) := by omega
            clear hy
            go_upto_region 16 with (fail)
            go_quiet (fail)
            go_wp2_with (fail)
            go_roundg (nr - (j + 1))
            case measure => omega
            case rel => exact ⟨j + 1, rfl, by omega, by go_num, Lib.hid (HOM.out.drewN _)⟩
          · obtain rfl : j = nr := by omega
            have hjm : ¬ (j : Int) < (j : Int) := by omega
            replace HO := Lib.hid (on_new HO.out HOM.out)
            go_wp2_with ((go_at_call 9; (with_reducible refine (talive_c HM _).mono ?_); rintro e w9 ⟨rfl, ho⟩; have HOF := Lib.hid (on_new HO.out ho); clear ho))
            go_ret
            exact ⟨rfl, HOF.out⟩
end Go.Proofs.Ytdpdlhfjemehcaa
