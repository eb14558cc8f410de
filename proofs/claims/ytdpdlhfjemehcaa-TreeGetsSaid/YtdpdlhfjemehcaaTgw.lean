/-
  TreeGets.
-/
import Derived.Test.YtdpdlhfjemehcaaTew
set_option linter.unusedVariables false
namespace Go.Proofs.Ytdpdlhfjemehcaa
open Go.RowKit

set_option maxRecDepth 100000 in
set_option maxHeartbeats 25600000 in
theorem gets_walk (HM : MeetC) (w : World) (A K : Option Addr) (n c kn kc : Nat) (root : Int) (l : List Nm) (key : Bytes) (h : Nms w (.slice A n c) l) (hv : Src w (.slice K kn kc) key) (hok : ∀ x ∈ l, OkN x) (hrt : -9223372036854775808 ≤ root ∧ root ≤ 9223372036854775807) :
    Calls Try.prog 5 #[.slice A n c, .int .i64 root, .slice K kn kc] w (Told w (.bool true)) := by
  have HV := Lib.hid hv
  clear hv
  have HN := Lib.hid h
  have HOK := Lib.hid hok
  have HRT : Hid ((Lit.int .i64 root).wf = true) := Lib.hid (by simp [Lit.wf, IntKind.min, IntKind.max, IntKind.signed, IntKind.bits]; omega)
  have hcap := h.cap
  have HFW := Lib.hid (few_w w A n c l h (okN_len hok))
  clear h hok
  have HO : Hid (Only (w.heap.size ≤ ·) w w) := Lib.hid (Only.refl _ _)
  obtain ⟨fb, hfb⟩ : ∃ b, b = fewB l := ⟨_, rfl⟩
  rw [← hfb] at HFW
  have HFB := Lib.hid hfb
  clear hfb
  go_enter Try.func5, Try.ntmps5
  cases fb with
  | false =>
    go_wp2_with (first
      | (go_at_call 8; (with_reducible refine HFW.out.mono ?_); rintro e w1 ⟨rfl, ho⟩; replace HO := Lib.hid ho; clear ho)
      | (go_at_call 9; (with_reducible refine (talive_c HM _).mono ?_); rintro e w9 ⟨rfl, ho⟩; have HOF := Lib.hid (on_new HO.out ho); clear ho))
    go_ret
    exact ⟨rfl, HOF.out⟩
  | true =>
    by_cases hk : 100 < kn
    · have hk' : (100 : Int) < (kn : Int) := by omega
      go_wp2_with (first
        | (go_at_call 8; (with_reducible refine HFW.out.mono ?_); rintro e w1 ⟨rfl, ho⟩; replace HO := Lib.hid ho; clear ho)
        | (go_at_call 9; (with_reducible refine (talive_c HM _).mono ?_); rintro e w9 ⟨rfl, ho⟩; have HOF := Lib.hid (on_new HO.out ho); clear ho))
      go_ret
      exact ⟨rfl, HOF.out⟩
    · have hk' : ¬ (100 : Int) < (kn : Int) := by omega
      have HF := Lib.hid (few_FewN HOK.out HFB.out.symm)
      obtain ⟨R, hR⟩ : ∃ R, R = allP l root := ⟨_, rfl⟩
      obtain ⟨er, S⟩ := R
      have HR := Lib.hid hR
      obtain ⟨Z, hZ⟩ : ∃ Z, Z = okS (er, S) := ⟨_, rfl⟩
      have HZ := Lib.hid hZ
      obtain ⟨dz, hdz⟩ : ∃ d, d = Z.dep := ⟨_, rfl⟩
      obtain ⟨nI, hnI⟩ : ∃ d, d = Z.its.length := ⟨_, rfl⟩
      have HDZ := Lib.hid hdz
      have HNI := Lib.hid hnI
      clear hR hZ hdz hnI
      go_upto_region 4 with (first
        | (go_at_call 8; (with_reducible refine HFW.out.mono ?_); rintro e w1 ⟨rfl, ho⟩; replace HO := Lib.hid ho; clear ho)
        | (go_at_call 12; (with_reducible refine (Source_c _ A n c).mono ?_); rintro e w4 ⟨⟨bl, rfl, _, hbl⟩, ho⟩; replace HN := Lib.hid (Rw.later HN.out (on_new HO.out ho)); replace HO := Lib.hid (on_new HO.out ho); have HBL := Lib.hid hbl; clear hbl ho)
        | (go_at_call 16; have hc := All_c HM _ bl A n c root l HBL.out HN.out HF.out HRT.out; rw [← HR.out] at hc; unfold AllSays at hc; rw [← HZ.out, ← HDZ.out] at hc; (with_reducible refine hc.mono ?_); rintro e w5 ⟨⟨IA, ni, ic, RA, nr, rc, rfl, hi, hr⟩, ho⟩; have HNX : Hid (ni = nI) := Lib.hid (hi.len.trans HNI.out.symm); have HI := Lib.hid hi; replace HN := Lib.hid (Rw.later HN.out ho); replace HO := Lib.hid (on_new HO.out ho); clear hi hr ho hc))
      obtain rfl := HNX.out
      clear HBL HNX
      obtain ⟨w6, hw6⟩ : ∃ z9, z9 = w5.alloc (.cells #[.slice IA ni ic, .slice RA nr rc, .int .i64 (dz : Int)] 49) := ⟨_, rfl⟩
      obtain ⟨b5, hb5⟩ : ∃ z9, z9 = w5.heap.size := ⟨_, rfl⟩
      have Hb5 : Hid (Blk w6 b5 49 [.slice IA ni ic, .slice RA nr rc, .int .i64 (dz : Int)]) := Lib.hid (by rw [hw6, hb5]; exact Blk.new w5 _ [.slice IA ni ic, .slice RA nr rc, .int .i64 (dz : Int)])
      have HXb5 : Hid (Only (w5.heap.size ≤ ·) w5 w6) := Lib.hid (by rw [hw6]; exact (Only.refl _ w5).alloc (fun _ h => h) _)
      have HEQb5 : Hid (w6 = w5.alloc (.cells #[.slice IA ni ic, .slice RA nr rc, .int .i64 (dz : Int)] 49) ∧ b5 = w5.heap.size) := Lib.hid ⟨hw6, hb5⟩
      clear hw6 hb5
      rw [← HEQb5.out.1, ← HEQb5.out.2]
      replace HN := Lib.hid (Rw.later HN.out HXb5.out)
      replace HI := Lib.hid (Rw.later HI.out HXb5.out)
      replace HO := Lib.hid (on_new HO.out HXb5.out)
      have HB5 := Hb5
      clear HEQb5 HXb5 Hb5
      obtain ⟨c0, c1, c2⟩ := HB5.out.tri
      by_cases her : er = 0
      · subst her
        have HZS : Hid (Z = S) := Lib.hid HZ.out
        obtain ⟨hh, refs, T1, _, T2, T3, T4⟩ := all_sub HR.out.symm
        have HOKP := Lib.hid T1.ok
        have HGA : Hid (∀ x ∈ Z.its, getP l x.1 root = (0, some x)) := Lib.hid (fun x hx => by
          obtain ⟨o, h1, h2⟩ := T1.get (key := x.1) T4
          rw [h1, (h2 x).2 ⟨by rw [← HZS.out]; exact hx, rfl⟩])
        obtain ⟨o, G1, G2⟩ := T1.get (key := key) T4
        have HG1 := Lib.hid G1
        have HG2 : Hid (∀ y : It, o = some y ↔ (y ∈ Z.its ∧ y.1 = key)) := Lib.hid (by rw [HZS.out]; exact G2)
        clear T1 T2 T3 T4 G1 G2
        go_upto_region 6 with (fail)
        clear c0 c1 c2
        go_upto_region 7 with (first
          | (go_at_call 12; (with_reducible refine (Source_c _ A n c).mono ?_); rintro e w4a ⟨⟨bl, rfl, _, hbl⟩, ho⟩; replace HN := Lib.hid (Rw.later HN.out ho); replace HI := Lib.hid (Rw.later HI.out ho); replace HO := Lib.hid (on_new HO.out ho); replace HB5 := Lib.hid (HB5.out.later ho); have HBL := Lib.hid hbl; clear hbl ho)
          | (go_at_call 19; have hc := Get_c _ bl A n c root l K kn kc key HBL.out HN.out HF.out (HV.out.later HO.out) HOKP.out; rw [HG1.out] at hc; (with_reducible refine hc.mono ?_); rintro e w7 ⟨⟨P9, t9, p9, Q9, m9, q9, s9, r9, b9, er9, rfl, rfl, rfl, hi⟩, ho⟩; replace HN := Lib.hid (Rw.later HN.out ho); replace HI := Lib.hid (Rw.later HI.out ho); replace HO := Lib.hid (on_new HO.out ho); replace HB5 := Lib.hid (HB5.out.later ho); have HI9 : Hid (o = none → t9 = 0) := Lib.hid (fun e => by subst e; (obtain ⟨_, _, e2, _⟩ := hi.1); cases e2; rfl); clear hi ho hc))
        clear HBL
        obtain ⟨ob, hob⟩ : ∃ z9, z9 = o.isSome := ⟨_, rfl⟩
        rw [show Option.isSome ((0 : Int), o).2 = ob from hob.symm]
        have HOB := Lib.hid hob
        clear hob
        obtain ⟨w8, hw8⟩ : ∃ z9, z9 = w7.alloc (.cells #[.slice P9 t9 p9, .slice Q9 m9 q9, .int .i64 s9, .int .i64 r9] 60) := ⟨_, rfl⟩
        obtain ⟨b9x, hb9x⟩ : ∃ z9, z9 = w7.heap.size := ⟨_, rfl⟩
        have Hb9x : Hid (Blk w8 b9x 60 [.slice P9 t9 p9, .slice Q9 m9 q9, .int .i64 s9, .int .i64 r9]) := Lib.hid (by rw [hw8, hb9x]; exact Blk.new w7 _ [.slice P9 t9 p9, .slice Q9 m9 q9, .int .i64 s9, .int .i64 r9])
        have HXb9x : Hid (Only (w7.heap.size ≤ ·) w7 w8) := Lib.hid (by rw [hw8]; exact (Only.refl _ w7).alloc (fun _ h => h) _)
        have HEQb9x : Hid (w8 = w7.alloc (.cells #[.slice P9 t9 p9, .slice Q9 m9 q9, .int .i64 s9, .int .i64 r9] 60) ∧ b9x = w7.heap.size) := Lib.hid ⟨hw8, hb9x⟩
        clear hw8 hb9x
        rw [← HEQb9x.out.1, ← HEQb9x.out.2]
        replace HN := Lib.hid (Rw.later HN.out HXb9x.out)
        replace HI := Lib.hid (Rw.later HI.out HXb9x.out)
        replace HO := Lib.hid (on_new HO.out HXb9x.out)
        replace HB5 := Lib.hid (HB5.out.later HXb9x.out)
        clear HEQb9x HXb9x
        obtain ⟨c0, c1, c2⟩ := HB5.out.tri
        have hci := HI.out.cap
        go_upto_region 9 with (fail)
        clear c0 c1 c2
        go_loopg [12, 55] ni (fun gk hv i wr => ∃ (k : Nat) (hb : Bool), gk = ni - k ∧ k ≤ ni ∧ hv = .bool hb ∧ i = .int .i64 (k : Int) ∧ Hid (Only (w8.heap.size ≤ ·) w8 wr) ∧ Hid (hb = true ↔ ∃ x ∈ Z.its.take k, x.1 = key))
        case atStart => exact ⟨0, false, rfl, Nat.zero_le _, rfl, rfl, Lib.hid (Only.refl _ _), Lib.hid ⟨(fun h => nomatch h), fun ⟨x, hx, _⟩ => by simp at hx⟩⟩
        case round =>
          obtain ⟨k, hb, rfl, hkn, rfl, rfl, HOL, HHB⟩ := hrel
          by_cases hlt : k < ni
          · have hlt' : (k : Int) < (ni : Int) := by omega
            have hk0 : (0 : Int) ≤ (k : Int) := by omega
            obtain ⟨ib, io, x, P0, Q0, p0, q0, rfl, _, hx, x0, x1, x2, x3, y0, y1⟩ := its_at (Rw.later HI.out HOL.out) hlt
            have HX := Lib.hid hx
            have HGX := Lib.hid (HGA.out x (List.mem_of_getElem? hx))
            obtain ⟨xk, hxk⟩ : ∃ z9, z9 = x.1.length := ⟨_, rfl⟩
            obtain ⟨xv, hxv⟩ : ∃ z9, z9 = x.2.1.length := ⟨_, rfl⟩
            obtain ⟨xs, hxs⟩ : ∃ z9, z9 = x.2.2.1 := ⟨_, rfl⟩
            obtain ⟨xr, hxr⟩ : ∃ z9, z9 = x.2.2.2 := ⟨_, rfl⟩
            rw [← hxk] at x0 y0
            rw [← hxv] at x1 y1
            rw [← hxs] at x2
            rw [← hxr] at x3
            have HXE : Hid (xs = x.2.2.1 ∧ xr = x.2.2.2) := Lib.hid ⟨hxs, hxr⟩
            have HY0 := Lib.hid y0
            have HY1 := Lib.hid y1
            clear hx y0 y1 hxk hxv hxs hxr
            go_upto_region 11 with (fail)
            clear x0 x1 x2 x3
            obtain ⟨wR, hwR⟩ : ∃ z9, z9 = wr.alloc (.cells #[.slice P0 xk p0, .slice Q0 xv q0, .int .i64 xs, .int .i64 xr] 60) := ⟨_, rfl⟩
            obtain ⟨b14, hb14⟩ : ∃ z9, z9 = wr.heap.size := ⟨_, rfl⟩
            have Hb14 : Hid (Blk wR b14 60 [.slice P0 xk p0, .slice Q0 xv q0, .int .i64 xs, .int .i64 xr]) := Lib.hid (by rw [hwR, hb14]; exact Blk.new wr _ [.slice P0 xk p0, .slice Q0 xv q0, .int .i64 xs, .int .i64 xr])
            have HXb14 : Hid (Only (wr.heap.size ≤ ·) wr wR) := Lib.hid (by rw [hwR]; exact (Only.refl _ wr).alloc (fun _ h => h) _)
            have HEQb14 : Hid (wR = wr.alloc (.cells #[.slice P0 xk p0, .slice Q0 xv q0, .int .i64 xs, .int .i64 xr] 60) ∧ b14 = wr.heap.size) := Lib.hid ⟨hwR, hb14⟩
            clear hwR hb14
            rw [← HEQb14.out.1, ← HEQb14.out.2]
            have HOR := Lib.hid (on_new HOL.out HXb14.out)
            have HXS : Hid ((∀ W, Only (wR.heap.size ≤ ·) wR W → Src W (.slice P0 xk p0) x.1) ∧ ∀ W, Only (wR.heap.size ≤ ·) wR W → Src W (.slice Q0 xv q0) x.2.1) := Lib.hid ⟨fun W hW => HY0.out.later (on_new HXb14.out hW), fun W hW => HY1.out.later (on_new HXb14.out hW)⟩
            have HNR : Hid (∀ W, Only (wR.heap.size ≤ ·) wR W → Nms W (.slice A n c) l) := Lib.hid (fun W hW => Rw.later HN.out (on_new HOR.out hW))
            clear HEQb14 HXb14 HY0 HY1
            go_cut [15, 16, 17, 55] from 55 to 89 (fun y15 y16 y17 y55 wz => ∃ (g15 : Nat) (P : Option Addr) (t p : Nat) (Q : Option Addr) (m q : Nat) (s r : Int), y15 = .pointer (some ⟨g15, 0, none⟩) ∧ y16 = .bool true ∧ y17 = .int .i64 0 ∧ y55 = .int .i64 (k : Int) ∧ Hid (Blk wz g15 60 [.slice P t p, .slice Q m q, .int .i64 s, .int .i64 r]) ∧ Hid (ItV wz x (.slice P t p) (.slice Q m q) s r) ∧ Hid (Only (wR.heap.size ≤ ·) wR wz))
            case first =>
              have HW0 : Hid (Only (wR.heap.size ≤ ·) wR wR.drew) := Lib.hid ((Only.refl _ wR).drew)
              have KP : Hid (∀ W : World, Only (wR.heap.size ≤ ·) wR W → (fun W : World => W.cell? ⟨b14, 0, none⟩ = some (.slice P0 xk p0)) W) := Lib.hid (fun W hW => (Hb14.out.later hW).cell 0)
              have HSX := Lib.hid (KP.out _ HW0.out)
              refine wp_region_list (B := [false, false, false, false, false, false, false, false, false, false, false, false, false, false]) (S := (fun W : World => W.cell? ⟨b14, 0, none⟩ = some (.slice P0 xk p0))) (by kernel_rfl) (by kernel_rfl) (by kernel_rfl) HSX.out (fun hsel hHeld => ?_)
              generalize hwz : World.drew _ = wy0 at HW0 HSX hHeld ⊢
              clear hwz
              refine oneA 0 60 hsel (h := ?_)
              simp only [Act.put, List.setIfInBounds_toArray, List.set_cons_zero, List.set_cons_succ]
              refine oneA 2 62 hsel (h := ?_)
              simp only [Act.put, List.setIfInBounds_toArray, List.set_cons_zero, List.set_cons_succ]
              refine oneA 3 63 hsel (h := ?_)
              simp only [Act.put, List.setIfInBounds_toArray, List.set_cons_zero, List.set_cons_succ]
              refine oneA 4 64 hsel (h := ?_)
              simp only [Act.put, List.setIfInBounds_toArray, List.set_cons_zero, List.set_cons_succ]
              refine wpAnyL_ready (rs := [1, 10]) (by kernel_rfl) (by kernel_rfl) (by simp) ?_
              refine AllReadyL.cons (o := ?_) ?_ (fun K hK => ?_) (AllReadyL.cons (o := ?_) ?_ (fun K hK => ?_) AllReadyL.nil)
              case refine_2 => (simp only [List.getElem?_cons_succ, List.getElem?_cons_zero]; rfl)
              case refine_5 => (simp only [List.getElem?_cons_succ, List.getElem?_cons_zero]; rfl)
              case refine_3 =>
                go_simp
                (go_at_call 12; (with_reducible refine (Source_c _ A n c).mono ?_); rintro e wy1 ⟨⟨bl, rfl, _, hbl⟩, ho⟩; have HW1 := Lib.hid (on_new HW0.out ho); have HBL := Lib.hid hbl; clear hbl ho)
                go_wp2_with (fail)
                clear hHeld
                refine hK.out _ _ (KP.out _ HW1.out) (fun hHeld => ?_)
                clear hK K
                try simp only [List.set_cons_zero, List.set_cons_succ]
                refine wpAnyL_ready (rs := [5, 10]) (by kernel_rfl) (by kernel_rfl) (by simp) ?_
                refine AllReadyL.cons (o := ?_) ?_ (fun K hK => ?_) (AllReadyL.cons (o := ?_) ?_ (fun K hK => ?_) AllReadyL.nil)
                case refine_2 => (simp only [List.getElem?_cons_succ, List.getElem?_cons_zero]; rfl)
                case refine_5 => (simp only [List.getElem?_cons_succ, List.getElem?_cons_zero]; rfl)
                case refine_3 =>
                  go_simp
                  (go_at_call 19; have hc := Get_c _ bl A n c root l P0 xk p0 x.1 HBL.out (HNR.out _ HW1.out) HF.out (HXS.out.1 _ HW1.out) HOKP.out; rw [HGX.out] at hc; (with_reducible refine hc.mono ?_); rintro e wy2 ⟨⟨P, t, p, Q, m, q, s, r, b, er, rfl, rfl, rfl, hi⟩, ho⟩; have HW2 := Lib.hid (on_new HW1.out ho); have HIV : Hid (ItV wy2 x (.slice P t p) (.slice Q m q) s r) := Lib.hid hi; clear hi ho hc)
                  go_wp2_with (fail)
                  clear hHeld
                  refine hK.out _ _ (KP.out _ HW2.out) (fun hHeld => ?_)
                  clear hK K
                  try simp only [List.set_cons_zero, List.set_cons_succ]
                  refine oneA 6 59 hsel (h := ?_)
                  simp only [Act.put, List.setIfInBounds_toArray, List.set_cons_zero, List.set_cons_succ]
                  refine oneA 7 66 hsel (h := ?_)
                  simp only [Act.put, List.setIfInBounds_toArray, List.set_cons_zero, List.set_cons_succ]
                  refine oneA 8 67 hsel (h := ?_)
                  simp only [Act.put, List.setIfInBounds_toArray, List.set_cons_zero, List.set_cons_succ]
                  refine oneA 9 68 hsel (h := ?_)
                  simp only [Act.put, List.setIfInBounds_toArray, List.set_cons_zero, List.set_cons_succ]
                  refine wpAnyL_ready (rs := [10]) (by kernel_rfl) (by kernel_rfl) (by simp) ?_
                  refine AllReadyL.cons (o := ?_) ?_ (fun K hK => ?_) AllReadyL.nil
                  case refine_2 => (simp only [List.getElem?_cons_succ, List.getElem?_cons_zero]; rfl)
                  go_simp
                  have HW3 : Hid (Only (wR.heap.size ≤ ·) wR (wy2.alloc (.cells #[.slice none 0 0, .slice none 0 0, .int .i64 0, .int .i64 0] 60))) := Lib.hid (HW2.out.alloc (fun _ h => h) _)
                  have HG15 : Hid (Blk (wy2.alloc (.cells #[.slice none 0 0, .slice none 0 0, .int .i64 0, .int .i64 0] 60)) wy2.heap.size 60 [.slice none 0 0, .slice none 0 0, .int .i64 0, .int .i64 0]) := Lib.hid (Blk.new wy2 _ _)
                  have HL15 : Hid (wR.heap.size ≤ wy2.heap.size) := Lib.hid HW2.out.size
                  replace HIV : Hid (ItV (wy2.alloc (.cells #[.slice none 0 0, .slice none 0 0, .int .i64 0, .int .i64 0] 60)) x (.slice P t p) (.slice Q m q) s r) := Lib.hid (HIV.out.later ((Only.refl _ wy2).alloc (fun _ h => h) _))
                  clear hHeld
                  refine hK.out _ _ (KP.out _ HW3.out) (fun hHeld => ?_)
                  clear hK K
                  try simp only [List.set_cons_zero, List.set_cons_succ]
                  generalize hwz : (wy2.alloc (.cells #[.slice none 0 0, .slice none 0 0, .int .i64 0, .int .i64 0] 60)) = wy3 at HW3 HG15 HIV hHeld ⊢
                  clear hwz
                  generalize hgz : wy2.heap.size = g15 at HG15 HL15 ⊢
                  clear hgz
                  refine wpAnyL_ready (rs := [11]) (by kernel_rfl) (by kernel_rfl) (by simp) ?_
                  refine AllReadyL.cons (o := ?_) ?_ (fun K hK => ?_) AllReadyL.nil
                  case refine_2 => (simp only [List.getElem?_cons_succ, List.getElem?_cons_zero]; rfl)
                  obtain ⟨z0, z1, z2, z3⟩ := HG15.out.cell4
                  obtain ⟨m0, m1, m2, m3⟩ := HG15.out.melt4
                  go_simp
                  clear z0 z1 z2 z3 m0 m1 m2 m3
                  have HW4 : Hid (Only (wR.heap.size ≤ ·) wR ((((wy3.setCell ⟨g15, 0, none⟩ (.slice P t p)).setCell ⟨g15, 1, none⟩ (.slice Q m q)).setCell ⟨g15, 2, none⟩ (.int .i64 s)).setCell ⟨g15, 3, none⟩ (.int .i64 r))) := Lib.hid ((((HW3.out.setCell (p := ⟨g15, 0, none⟩) HL15.out (.slice P t p)).setCell (p := ⟨g15, 1, none⟩) HL15.out (.slice Q m q)).setCell (p := ⟨g15, 2, none⟩) HL15.out (.int .i64 s)).setCell (p := ⟨g15, 3, none⟩) HL15.out (.int .i64 r))
                  have HF15 : Hid (Blk ((((wy3.setCell ⟨g15, 0, none⟩ (.slice P t p)).setCell ⟨g15, 1, none⟩ (.slice Q m q)).setCell ⟨g15, 2, none⟩ (.int .i64 s)).setCell ⟨g15, 3, none⟩ (.int .i64 r)) g15 60 [.slice P t p, .slice Q m q, .int .i64 s, .int .i64 r]) := Lib.hid ((((HG15.out.set_ 0 (.slice P t p)).set_ 1 (.slice Q m q)).set_ 2 (.int .i64 s)).set_ 3 (.int .i64 r))
                  replace HIV : Hid (ItV ((((wy3.setCell ⟨g15, 0, none⟩ (.slice P t p)).setCell ⟨g15, 1, none⟩ (.slice Q m q)).setCell ⟨g15, 2, none⟩ (.int .i64 s)).setCell ⟨g15, 3, none⟩ (.int .i64 r)) x (.slice P t p) (.slice Q m q) s r) := Lib.hid (HIV.out.keepT HG15.out (((((Only.refl (· = g15) wy3).setCell (p := ⟨g15, 0, none⟩) rfl (.slice P t p)).setCell (p := ⟨g15, 1, none⟩) rfl (.slice Q m q)).setCell (p := ⟨g15, 2, none⟩) rfl (.int .i64 s)).setCell (p := ⟨g15, 3, none⟩) rfl (.int .i64 r)))
                  clear hHeld
                  refine hK.out _ _ (KP.out _ HW4.out) (fun hHeld => ?_)
                  clear hK K
                  try simp only [List.set_cons_zero, List.set_cons_succ]
                  generalize hwz : ((((wy3.setCell ⟨g15, 0, none⟩ (.slice P t p)).setCell ⟨g15, 1, none⟩ (.slice Q m q)).setCell ⟨g15, 2, none⟩ (.int .i64 s)).setCell ⟨g15, 3, none⟩ (.int .i64 r)) = wy4 at HW4 HF15 HIV hHeld ⊢
                  clear hwz
                  refine oneA 12 16 hsel (h := ?_)
                  simp only [Act.put, List.setIfInBounds_toArray, List.set_cons_zero, List.set_cons_succ]
                  refine oneA 13 17 hsel (h := ?_)
                  simp only [Act.put, List.setIfInBounds_toArray, List.set_cons_zero, List.set_cons_succ]
                  refine wpAnyL_done (by kernel_rfl) (by kernel_rfl) ?_ _
                  clear hsel hHeld
                  go_wp2_with (fail)
                  refine Met.intro ?_
                  go_step
                  (repeat apply Exists.intro)
                  refine ⟨?rel151011, rfl⟩
                  exact ⟨g15, P, t, p, Q, m, q, s, r, rfl, rfl, rfl, rfl, HF15, HIV, HW4⟩
                case refine_6 =>
                  go_simp
                  have HW2 : Hid (Only (wR.heap.size ≤ ·) wR (wy1.alloc (.cells #[.slice none 0 0, .slice none 0 0, .int .i64 0, .int .i64 0] 60))) := Lib.hid (HW1.out.alloc (fun _ h => h) _)
                  have HG15 : Hid (Blk (wy1.alloc (.cells #[.slice none 0 0, .slice none 0 0, .int .i64 0, .int .i64 0] 60)) wy1.heap.size 60 [.slice none 0 0, .slice none 0 0, .int .i64 0, .int .i64 0]) := Lib.hid (Blk.new wy1 _ _)
                  have HL15 : Hid (wR.heap.size ≤ wy1.heap.size) := Lib.hid HW1.out.size
                  replace HBL := Lib.hid (HBL.out.alloc (.cells #[.slice none 0 0, .slice none 0 0, .int .i64 0, .int .i64 0] 60))
                  clear hHeld
                  refine hK.out _ _ (KP.out _ HW2.out) (fun hHeld => ?_)
                  clear hK K
                  try simp only [List.set_cons_zero, List.set_cons_succ]
                  generalize hwz : (wy1.alloc (.cells #[.slice none 0 0, .slice none 0 0, .int .i64 0, .int .i64 0] 60)) = wy2 at HW2 HG15 HBL hHeld ⊢
                  clear hwz
                  generalize hgz : wy1.heap.size = g15 at HG15 HL15 ⊢
                  clear hgz
                  refine wpAnyL_ready (rs := [5]) (by kernel_rfl) (by kernel_rfl) (by simp) ?_
                  refine AllReadyL.cons (o := ?_) ?_ (fun K hK => ?_) AllReadyL.nil
                  case refine_2 => (simp only [List.getElem?_cons_succ, List.getElem?_cons_zero]; rfl)
                  go_simp
                  (go_at_call 19; have hc := Get_c _ bl A n c root l P0 xk p0 x.1 HBL.out (HNR.out _ HW2.out) HF.out (HXS.out.1 _ HW2.out) HOKP.out; rw [HGX.out] at hc; (with_reducible refine hc.mono ?_); rintro e wy3 ⟨⟨P, t, p, Q, m, q, s, r, b, er, rfl, rfl, rfl, hi⟩, ho⟩; have HW3 := Lib.hid (on_new HW2.out ho); have HIV : Hid (ItV wy3 x (.slice P t p) (.slice Q m q) s r) := Lib.hid hi; replace HG15 := Lib.hid (HG15.out.later ho); clear hi ho hc)
                  go_wp2_with (fail)
                  clear hHeld
                  refine hK.out _ _ (KP.out _ HW3.out) (fun hHeld => ?_)
                  clear hK K
                  try simp only [List.set_cons_zero, List.set_cons_succ]
                  refine oneA 6 59 hsel (h := ?_)
                  simp only [Act.put, List.setIfInBounds_toArray, List.set_cons_zero, List.set_cons_succ]
                  refine oneA 7 66 hsel (h := ?_)
                  simp only [Act.put, List.setIfInBounds_toArray, List.set_cons_zero, List.set_cons_succ]
                  refine oneA 8 67 hsel (h := ?_)
                  simp only [Act.put, List.setIfInBounds_toArray, List.set_cons_zero, List.set_cons_succ]
                  refine oneA 9 68 hsel (h := ?_)
                  simp only [Act.put, List.setIfInBounds_toArray, List.set_cons_zero, List.set_cons_succ]
                  refine wpAnyL_ready (rs := [11]) (by kernel_rfl) (by kernel_rfl) (by simp) ?_
                  refine AllReadyL.cons (o := ?_) ?_ (fun K hK => ?_) AllReadyL.nil
                  case refine_2 => (simp only [List.getElem?_cons_succ, List.getElem?_cons_zero]; rfl)
                  obtain ⟨z0, z1, z2, z3⟩ := HG15.out.cell4
                  obtain ⟨m0, m1, m2, m3⟩ := HG15.out.melt4
                  go_simp
                  clear z0 z1 z2 z3 m0 m1 m2 m3
                  have HW4 : Hid (Only (wR.heap.size ≤ ·) wR ((((wy3.setCell ⟨g15, 0, none⟩ (.slice P t p)).setCell ⟨g15, 1, none⟩ (.slice Q m q)).setCell ⟨g15, 2, none⟩ (.int .i64 s)).setCell ⟨g15, 3, none⟩ (.int .i64 r))) := Lib.hid ((((HW3.out.setCell (p := ⟨g15, 0, none⟩) HL15.out (.slice P t p)).setCell (p := ⟨g15, 1, none⟩) HL15.out (.slice Q m q)).setCell (p := ⟨g15, 2, none⟩) HL15.out (.int .i64 s)).setCell (p := ⟨g15, 3, none⟩) HL15.out (.int .i64 r))
                  have HF15 : Hid (Blk ((((wy3.setCell ⟨g15, 0, none⟩ (.slice P t p)).setCell ⟨g15, 1, none⟩ (.slice Q m q)).setCell ⟨g15, 2, none⟩ (.int .i64 s)).setCell ⟨g15, 3, none⟩ (.int .i64 r)) g15 60 [.slice P t p, .slice Q m q, .int .i64 s, .int .i64 r]) := Lib.hid ((((HG15.out.set_ 0 (.slice P t p)).set_ 1 (.slice Q m q)).set_ 2 (.int .i64 s)).set_ 3 (.int .i64 r))
                  replace HIV : Hid (ItV ((((wy3.setCell ⟨g15, 0, none⟩ (.slice P t p)).setCell ⟨g15, 1, none⟩ (.slice Q m q)).setCell ⟨g15, 2, none⟩ (.int .i64 s)).setCell ⟨g15, 3, none⟩ (.int .i64 r)) x (.slice P t p) (.slice Q m q) s r) := Lib.hid (HIV.out.keepT HG15.out (((((Only.refl (· = g15) wy3).setCell (p := ⟨g15, 0, none⟩) rfl (.slice P t p)).setCell (p := ⟨g15, 1, none⟩) rfl (.slice Q m q)).setCell (p := ⟨g15, 2, none⟩) rfl (.int .i64 s)).setCell (p := ⟨g15, 3, none⟩) rfl (.int .i64 r)))
                  clear hHeld
                  refine hK.out _ _ (KP.out _ HW4.out) (fun hHeld => ?_)
                  clear hK K
                  try simp only [List.set_cons_zero, List.set_cons_succ]
                  generalize hwz : ((((wy3.setCell ⟨g15, 0, none⟩ (.slice P t p)).setCell ⟨g15, 1, none⟩ (.slice Q m q)).setCell ⟨g15, 2, none⟩ (.int .i64 s)).setCell ⟨g15, 3, none⟩ (.int .i64 r)) = wy4 at HW4 HF15 HIV hHeld ⊢
                  clear hwz
                  refine oneA 12 16 hsel (h := ?_)
                  simp only [Act.put, List.setIfInBounds_toArray, List.set_cons_zero, List.set_cons_succ]
                  refine oneA 13 17 hsel (h := ?_)
                  simp only [Act.put, List.setIfInBounds_toArray, List.set_cons_zero, List.set_cons_succ]
                  refine wpAnyL_done (by kernel_rfl) (by kernel_rfl) ?_ _
                  clear hsel hHeld
                  go_wp2_with (fail)
                  refine Met.intro ?_
                  go_step
                  (repeat apply Exists.intro)
                  refine ⟨?rel110511, rfl⟩
                  exact ⟨g15, P, t, p, Q, m, q, s, r, rfl, rfl, rfl, rfl, HF15, HIV, HW4⟩
              case refine_6 =>
                go_simp
                have HW1 : Hid (Only (wR.heap.size ≤ ·) wR (wy0.alloc (.cells #[.slice none 0 0, .slice none 0 0, .int .i64 0, .int .i64 0] 60))) := Lib.hid (HW0.out.alloc (fun _ h => h) _)
                have HG15 : Hid (Blk (wy0.alloc (.cells #[.slice none 0 0, .slice none 0 0, .int .i64 0, .int .i64 0] 60)) wy0.heap.size 60 [.slice none 0 0, .slice none 0 0, .int .i64 0, .int .i64 0]) := Lib.hid (Blk.new wy0 _ _)
                have HL15 : Hid (wR.heap.size ≤ wy0.heap.size) := Lib.hid HW0.out.size
                clear hHeld
                refine hK.out _ _ (KP.out _ HW1.out) (fun hHeld => ?_)
                clear hK K
                try simp only [List.set_cons_zero, List.set_cons_succ]
                generalize hwz : (wy0.alloc (.cells #[.slice none 0 0, .slice none 0 0, .int .i64 0, .int .i64 0] 60)) = wy1 at HW1 HG15 hHeld ⊢
                clear hwz
                generalize hgz : wy0.heap.size = g15 at HG15 HL15 ⊢
                clear hgz
                refine wpAnyL_ready (rs := [1]) (by kernel_rfl) (by kernel_rfl) (by simp) ?_
                refine AllReadyL.cons (o := ?_) ?_ (fun K hK => ?_) AllReadyL.nil
                case refine_2 => (simp only [List.getElem?_cons_succ, List.getElem?_cons_zero]; rfl)
                go_simp
                (go_at_call 12; (with_reducible refine (Source_c _ A n c).mono ?_); rintro e wy2 ⟨⟨bl, rfl, _, hbl⟩, ho⟩; have HW2 := Lib.hid (on_new HW1.out ho); have HBL := Lib.hid hbl; replace HG15 := Lib.hid (HG15.out.later ho); clear hbl ho)
                go_wp2_with (fail)
                clear hHeld
                refine hK.out _ _ (KP.out _ HW2.out) (fun hHeld => ?_)
                clear hK K
                try simp only [List.set_cons_zero, List.set_cons_succ]
                refine wpAnyL_ready (rs := [5]) (by kernel_rfl) (by kernel_rfl) (by simp) ?_
                refine AllReadyL.cons (o := ?_) ?_ (fun K hK => ?_) AllReadyL.nil
                case refine_2 => (simp only [List.getElem?_cons_succ, List.getElem?_cons_zero]; rfl)
                go_simp
                (go_at_call 19; have hc := Get_c _ bl A n c root l P0 xk p0 x.1 HBL.out (HNR.out _ HW2.out) HF.out (HXS.out.1 _ HW2.out) HOKP.out; rw [HGX.out] at hc; (with_reducible refine hc.mono ?_); rintro e wy3 ⟨⟨P, t, p, Q, m, q, s, r, b, er, rfl, rfl, rfl, hi⟩, ho⟩; have HW3 := Lib.hid (on_new HW2.out ho); have HIV : Hid (ItV wy3 x (.slice P t p) (.slice Q m q) s r) := Lib.hid hi; replace HG15 := Lib.hid (HG15.out.later ho); clear hi ho hc)
                go_wp2_with (fail)
                clear hHeld
                refine hK.out _ _ (KP.out _ HW3.out) (fun hHeld => ?_)
                clear hK K
                try simp only [List.set_cons_zero, List.set_cons_succ]
                refine oneA 6 59 hsel (h := ?_)
                simp only [Act.put, List.setIfInBounds_toArray, List.set_cons_zero, List.set_cons_succ]
                refine oneA 7 66 hsel (h := ?_)
                simp only [Act.put, List.setIfInBounds_toArray, List.set_cons_zero, List.set_cons_succ]
                refine oneA 8 67 hsel (h := ?_)
                simp only [Act.put, List.setIfInBounds_toArray, List.set_cons_zero, List.set_cons_succ]
                refine oneA 9 68 hsel (h := ?_)
                simp only [Act.put, List.setIfInBounds_toArray, List.set_cons_zero, List.set_cons_succ]
                refine wpAnyL_ready (rs := [11]) (by kernel_rfl) (by kernel_rfl) (by simp) ?_
                refine AllReadyL.cons (o := ?_) ?_ (fun K hK => ?_) AllReadyL.nil
                case refine_2 => (simp only [List.getElem?_cons_succ, List.getElem?_cons_zero]; rfl)
                obtain ⟨z0, z1, z2, z3⟩ := HG15.out.cell4
                obtain ⟨m0, m1, m2, m3⟩ := HG15.out.melt4
                go_simp
                clear z0 z1 z2 z3 m0 m1 m2 m3
                have HW4 : Hid (Only (wR.heap.size ≤ ·) wR ((((wy3.setCell ⟨g15, 0, none⟩ (.slice P t p)).setCell ⟨g15, 1, none⟩ (.slice Q m q)).setCell ⟨g15, 2, none⟩ (.int .i64 s)).setCell ⟨g15, 3, none⟩ (.int .i64 r))) := Lib.hid ((((HW3.out.setCell (p := ⟨g15, 0, none⟩) HL15.out (.slice P t p)).setCell (p := ⟨g15, 1, none⟩) HL15.out (.slice Q m q)).setCell (p := ⟨g15, 2, none⟩) HL15.out (.int .i64 s)).setCell (p := ⟨g15, 3, none⟩) HL15.out (.int .i64 r))
                have HF15 : Hid (Blk ((((wy3.setCell ⟨g15, 0, none⟩ (.slice P t p)).setCell ⟨g15, 1, none⟩ (.slice Q m q)).setCell ⟨g15, 2, none⟩ (.int .i64 s)).setCell ⟨g15, 3, none⟩ (.int .i64 r)) g15 60 [.slice P t p, .slice Q m q, .int .i64 s, .int .i64 r]) := Lib.hid ((((HG15.out.set_ 0 (.slice P t p)).set_ 1 (.slice Q m q)).set_ 2 (.int .i64 s)).set_ 3 (.int .i64 r))
                replace HIV : Hid (ItV ((((wy3.setCell ⟨g15, 0, none⟩ (.slice P t p)).setCell ⟨g15, 1, none⟩ (.slice Q m q)).setCell ⟨g15, 2, none⟩ (.int .i64 s)).setCell ⟨g15, 3, none⟩ (.int .i64 r)) x (.slice P t p) (.slice Q m q) s r) := Lib.hid (HIV.out.keepT HG15.out (((((Only.refl (· = g15) wy3).setCell (p := ⟨g15, 0, none⟩) rfl (.slice P t p)).setCell (p := ⟨g15, 1, none⟩) rfl (.slice Q m q)).setCell (p := ⟨g15, 2, none⟩) rfl (.int .i64 s)).setCell (p := ⟨g15, 3, none⟩) rfl (.int .i64 r)))
                clear hHeld
                refine hK.out _ _ (KP.out _ HW4.out) (fun hHeld => ?_)
                clear hK K
                try simp only [List.set_cons_zero, List.set_cons_succ]
                generalize hwz : ((((wy3.setCell ⟨g15, 0, none⟩ (.slice P t p)).setCell ⟨g15, 1, none⟩ (.slice Q m q)).setCell ⟨g15, 2, none⟩ (.int .i64 s)).setCell ⟨g15, 3, none⟩ (.int .i64 r)) = wy4 at HW4 HF15 HIV hHeld ⊢
                clear hwz
                refine oneA 12 16 hsel (h := ?_)
                simp only [Act.put, List.setIfInBounds_toArray, List.set_cons_zero, List.set_cons_succ]
                refine oneA 13 17 hsel (h := ?_)
                simp only [Act.put, List.setIfInBounds_toArray, List.set_cons_zero, List.set_cons_succ]
                refine wpAnyL_done (by kernel_rfl) (by kernel_rfl) ?_ _
                clear hsel hHeld
                go_wp2_with (fail)
                refine Met.intro ?_
                go_step
                (repeat apply Exists.intro)
                refine ⟨?rel101511, rfl⟩
                exact ⟨g15, P, t, p, Q, m, q, s, r, rfl, rfl, rfl, rfl, HF15, HIV, HW4⟩
            case rest =>
              obtain ⟨g15, P, t, p, Q, m, q, s, r, rfl, rfl, rfl, rfl, HG, HIV, HXC⟩ := hcut
              have HSM : Hid (Calls Try.prog 18 #[.agg #[.slice P t p, .slice Q m q, .int .i64 s, .int .i64 r], .agg #[.slice P0 xk p0, .slice Q0 xv q0, .int .i64 xs, .int .i64 xr]] wc (Told wc (.bool true))) := Lib.hid (rSame_c wc P Q P0 Q0 t p m q xk p0 xv q0 s r xs xr x.1 x.2.1 x.1 x.2.1 true HIV.out.1 HIV.out.2.1 (HXS.out.1 _ HXC.out) (HXS.out.2 _ HXC.out) (decide_eq_true ⟨rfl, rfl, HIV.out.2.2.1.trans HXE.out.1.symm, HIV.out.2.2.2.trans HXE.out.2.symm⟩))
              obtain ⟨t0, t1, t2, t3⟩ := HG.out.cell4
              obtain ⟨u0, u1, u2, u3⟩ := (Hb14.out.later HXC.out).cell4
              cases hb with
              | true =>
                go_wp2_with ((go_at_call 18; (with_reducible refine HSM.out.mono ?_); rintro e wd ⟨rfl, ho⟩; have HXD := Lib.hid (on_new HXC.out ho); (obtain ⟨v0, v1, v2, v3⟩ := (Hb14.out.later HXD.out).cell4); clear ho))
                go_roundg (ni - (k + 1))
                case measure => omega
                case rel => exact ⟨k + 1, true, rfl, by omega, rfl, by go_num, Lib.hid (on_new HOR.out HXD.out), Lib.hid (by
                  have h1 := HHB.out.1 (by simp)
                  obtain ⟨z, hz, e⟩ := h1
                  exact ⟨fun _ => ⟨z, by rw [List.take_add_one]; exact List.mem_append_left _ hz, e⟩, fun _ => rfl⟩)⟩
              | false =>
                obtain ⟨cq, hcq⟩ : ∃ z9, cmp x.1 key = z9 := ⟨_, rfl⟩
                have HCQ := Lib.hid hcq
                clear hcq
                by_cases hq : cq = 0
                · subst hq
                  go_wp2_with (first
                    | (go_at_call 18; (with_reducible refine HSM.out.mono ?_); rintro e wd ⟨rfl, ho⟩; have HXD := Lib.hid (on_new HXC.out ho); (obtain ⟨v0, v1, v2, v3⟩ := (Hb14.out.later HXD.out).cell4); clear ho)
                    | (go_at_call 20; (with_reducible refine (rCompare_b _ _ _ x.1 key _ (HXS.out.1 _ HXD.out) (HV.out.later (on_new HO.out (on_new HOR.out HXD.out))) HCQ.out).mono ?_); rintro e we ⟨rfl, ho⟩; have HXE2 := Lib.hid (on_new HXD.out ho); clear ho))
                  go_roundg (ni - (k + 1))
                  case measure => omega
                  case rel => exact ⟨k + 1, true, rfl, by omega, rfl, by go_num, Lib.hid (on_new HOR.out HXE2.out), Lib.hid ⟨fun _ => ⟨x, by rw [List.take_add_one, HX.out]; simp, cmp_eq_zero HCQ.out⟩, fun _ => rfl⟩⟩
                · go_wp2_with (first
                    | (go_at_call 18; (with_reducible refine HSM.out.mono ?_); rintro e wd ⟨rfl, ho⟩; have HXD := Lib.hid (on_new HXC.out ho); (obtain ⟨v0, v1, v2, v3⟩ := (Hb14.out.later HXD.out).cell4); clear ho)
                    | (go_at_call 20; (with_reducible refine (rCompare_b _ _ _ x.1 key _ (HXS.out.1 _ HXD.out) (HV.out.later (on_new HO.out (on_new HOR.out HXD.out))) HCQ.out).mono ?_); rintro e we ⟨rfl, ho⟩; have HXE2 := Lib.hid (on_new HXD.out ho); clear ho))
                  go_roundg (ni - (k + 1))
                  case measure => omega
                  case rel => exact ⟨k + 1, false, rfl, by omega, by simp [hq], by go_num, Lib.hid (on_new HOR.out HXE2.out), Lib.hid ⟨(fun h => nomatch h), fun ⟨z, hz, e⟩ => by
                    rw [List.take_add_one, HX.out] at hz
                    rcases List.mem_append.1 hz with h | h
                    · exact HHB.out.2 ⟨z, h, e⟩
                    · simp only [Option.toList_some, List.mem_singleton] at h
                      subst h
                      exact absurd ((HCQ.out).symm.trans (by rw [e, cmp_self])) hq⟩⟩
          · obtain rfl : k = ni := by omega
            have hkm : ¬ (k : Int) < (k : Int) := by omega
            have HEO : Hid (hb = ob) := Lib.hid (by
              refine Bool.eq_iff_iff.2 ?_
              rw [HHB.out, HOB.out, HNI.out, List.take_length, Option.isSome_iff_exists]
              exact ⟨fun ⟨x, hx, e⟩ => ⟨x, (HG2.out x).2 ⟨hx, e⟩⟩, fun ⟨x, hx⟩ => ⟨x, ((HG2.out x).1 hx).1, ((HG2.out x).1 hx).2⟩⟩)
            obtain rfl : hb = ob := HEO.out
            cases hb with
            | true =>
              replace HO := Lib.hid (on_new HO.out HOL.out)
              go_wp2_with ((go_at_call 9; (with_reducible refine (talive_c HM _).mono ?_); rintro e w9 ⟨rfl, ho⟩; have HOF := Lib.hid (on_new HO.out ho); clear ho))
              go_ret
              exact ⟨rfl, HOF.out⟩
            | false =>
              obtain rfl : t9 = 0 := HI9.out (by
                have h1 := HOB.out
                cases o with
                | none => rfl
                | some y => cases h1)
              have HB9 := Lib.hid (Hb9x.out.later HOL.out)
              replace HO := Lib.hid (on_new HO.out HOL.out)
              go_wp2_with (go_at_call 9; (with_reducible refine (talive_c HM _).mono ?_); rintro e w9 ⟨rfl, ho⟩; have HOF := Lib.hid (on_new HO.out ho); (obtain ⟨v0, v1, v2, v3⟩ := (HB9.out.later ho).cell4); clear ho)
              go_ret
              exact ⟨rfl, HOF.out⟩
      · have her' : ¬ er = 0 := her
        obtain rfl : ni = 0 := by rw [HNI.out, HZ.out]; unfold okS; rw [if_neg her]; rfl
        go_wp2_with (go_at_call 9; (with_reducible refine (talive_c HM _).mono ?_); rintro e w9 ⟨rfl, ho⟩; have HOF := Lib.hid (on_new HO.out ho); (obtain ⟨v0, v1, v2⟩ := (HB5.out.later ho).tri); clear ho)
        go_ret
        exact ⟨rfl, HOF.out⟩
end Go.Proofs.Ytdpdlhfjemehcaa
