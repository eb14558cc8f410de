/-
  TreeMade.
-/
import Derived.Test.YtdpdlhfjemehcaaTew
import Derived.Test.YtdpdlhfjemehcaaTmz
set_option linter.unusedVariables false
namespace Go.Proofs.Ytdpdlhfjemehcaa
open Go.RowKit

theorem rise_srt {l : List It} (h : RisI l) : Srt l := by
  rw [Srt, List.pairwise_iff_getElem]
  intro i j hi hj hij
  exact RiseI.lt (fun k y z a b => h k y z a b) hij (List.getElem?_eq_getElem hi) (List.getElem?_eq_getElem hj)
theorem made_okN {its : List It} {m : Nat} {b : Int} {x : Nm} (hi : ∀ y ∈ its, OkI y) (hl : its.length ≤ 60) (hm : m ≤ its.length + 1) (hb : b ≤ 9223372036854775807) (h : GoodM its m b x) : OkN x := by
  obtain ⟨h1, h2, h3, h4⟩ := h
  refine ⟨⟨by omega, by omega⟩, fun y hy => hi y (h1 y hy), fun y hy => ?_⟩
  obtain ⟨k1, k2, k3⟩ := h4 y hy
  refine ⟨?_, by omega, by omega⟩
  rcases k1 with e | ⟨z, hz, e⟩
  · rw [e]; exact Nat.zero_le _
  · rw [← e]; exact (hi z hz).1
set_option maxRecDepth 100000 in
set_option maxHeartbeats 25600000 in
theorem made_main (HM : MeetC) (w : World) (JA : Option Addr) (ni jc many fan : Nat) (its : List It) (h : Its w (.slice JA ni jc) its) (hok : ∀ x ∈ its, OkI x) (hn : ni ≤ 60) (hm : 1 ≤ many ∧ many ≤ 20) (hf : 2 ≤ fan ∧ fan ≤ 20) (hr : RisI its) :
    Calls Try.prog 6 #[.slice JA ni jc, .int .i64 (many : Int), .int .i64 (fan : Int)] w (Told w (.bool true)) := by
  have HJ := Lib.hid h
  have HOK := Lib.hid hok
  have HSR := Lib.hid (rise_srt hr)
  have HNI := Lib.hid h.len
  have hcap := h.cap
  have HRB := Lib.hid (rises_b w JA none ni jc 0 0 false ⟨false, its, []⟩ ⟨rfl, h, Rw.nil_ _⟩ true ⟨fun _ => ⟨hr, fun i a b _ h1 => by simp at h1⟩, fun _ => rfl⟩)
  have HMC := Lib.hid (fun (W : World) (hW : Only (w.heap.size ≤ ·) w W) => rMade_c W JA ni jc many fan its (Rw.later h hW) (by omega) ⟨hm.1, by omega⟩ ⟨hf.1, by omega⟩)
  have g1 : ¬ (60 : Int) < (ni : Int) := by omega
  have g2 : ¬ (many : Int) < 1 := by omega
  have g3 : ¬ (20 : Int) < (many : Int) := by omega
  have g4 : ¬ (fan : Int) < 2 := by omega
  have g5 : ¬ (20 : Int) < (fan : Int) := by omega
  have HMF := Lib.hid (And.intro hm hf)
  clear h hok hr
  go_enter Try.func6, Try.ntmps6
  go_upto_region 4 with (first
    | (go_at_call 10; (with_reducible refine HRB.out.mono ?_); rintro e w1 ⟨rfl, ho⟩; have HO1 := Lib.hid ho; clear ho)
    | (go_at_call 21; (with_reducible refine (HMC.out _ HO1.out).mono ?_); rintro e w2 ⟨⟨A, n, c, root, ls, rfl, hmd, hl3, hnl⟩, ho⟩; have HMD := Lib.hid hmd; have HL3 := Lib.hid hl3; have HN := Lib.hid hnl; have HO := Lib.hid (on_new HO1.out ho); clear hmd hl3 hnl ho))
  clear g1 g2 g3 g4 g5 HRB HMC
  obtain ⟨mm, hmm, hnode, hr1, hr2⟩ := made_nodes hf.1 HMD.out
  have HNO : Hid (∀ x ∈ ls, OkN x) := Lib.hid (fun x hx => made_okN HOK.out (by rw [← HNI.out]; exact hn) hmm (by have := HL3.out; omega) (hnode x hx))
  have HRT : Hid ((Lit.int .i64 root).wf = true) := Lib.hid (by have := HL3.out; simp [Lit.wf, IntKind.min, IntKind.max, IntKind.signed, IntKind.bits]; omega)
  have HFW := Lib.hid (few_w w2 A n c ls HN.out (okN_len HNO.out))
  have HNL := Lib.hid HN.out.len
  clear hnode hr1 hr2 hmm
  obtain ⟨fb, hfb⟩ : ∃ b, b = fewB ls := ⟨_, rfl⟩
  rw [← hfb] at HFW
  have HFB := Lib.hid hfb
  clear hfb
  cases fb with
  | false =>
    go_wp2_with (first
      | (go_at_call 8; (with_reducible refine HFW.out.mono ?_); rintro e w3 ⟨rfl, ho⟩; replace HO := Lib.hid (on_new HO.out ho); clear ho)
      | (go_at_call 9; (with_reducible refine (talive_c HM _).mono ?_); rintro e w9 ⟨rfl, ho⟩; have HOF := Lib.hid (on_new HO.out ho); clear ho))
    go_ret
    exact ⟨rfl, HOF.out⟩
  | true =>
    have HF := Lib.hid (few_FewN HNO.out HFB.out.symm)
    have hl40 : ls.length ≤ 40 := by
      have h1 := HFB.out.symm
      unfold fewB at h1
      rw [Bool.and_eq_true, decide_eq_true_eq] at h1
      exact h1.1
    obtain ⟨S, M1, M2, M3, ne, hh, refs, M4, M5⟩ := made_all hf.1 hm.1 HSR.out HMD.out hl40
    obtain ⟨dz, hdz⟩ : ∃ d, d = S.dep := ⟨_, rfl⟩
    have HM1 := Lib.hid M1
    have HM2 := Lib.hid M2
    have HM3 := Lib.hid M3
    have HDZ := Lib.hid hdz
    have HOKP := Lib.hid M4.ok
    have HGA : Hid (∀ x ∈ its, getP ls x.1 root = (0, some x)) := Lib.hid (fun x hx => by
      obtain ⟨o, h1, h2⟩ := M4.get (key := x.1) M5
      rw [h1, (h2 x).2 ⟨hx, rfl⟩])
    clear M1 M2 M3 M4 M5 hdz hl40
    go_upto_region 7 with (first
      | (go_at_call 8; (with_reducible refine HFW.out.mono ?_); rintro e w3 ⟨rfl, ho⟩; replace HN := Lib.hid (Rw.later HN.out ho); replace HO := Lib.hid (on_new HO.out ho); clear ho)
      | (go_at_call 12; (with_reducible refine (Source_c _ A n c).mono ?_); rintro e w4 ⟨⟨bl, rfl, _, hbl⟩, ho⟩; replace HN := Lib.hid (Rw.later HN.out ho); replace HO := Lib.hid (on_new HO.out ho); have HBL := Lib.hid hbl; clear hbl ho)
      | (go_at_call 16; have hc := All_c HM _ bl A n c root ls HBL.out HN.out HF.out HRT.out; rw [HM1.out] at hc; unfold AllSays at hc; rw [show okS ((0 : Int), S) = S from rfl, ← HDZ.out] at hc; (with_reducible refine hc.mono ?_); rintro e w5 ⟨⟨SA, sn, sc, RA, nr, rc, rfl, hi, hr⟩, ho⟩; have HNX : Hid (sn = ni ∧ nr = n) := Lib.hid ⟨by rw [hi.len, HM2.out, HNI.out], by rw [hr.len, HM3.out, HNL.out]⟩; have HI := Lib.hid hi; replace HN := Lib.hid (Rw.later HN.out ho); replace HO := Lib.hid (on_new HO.out ho); clear hi hr ho hc))
    obtain ⟨rfl, rfl⟩ := HNX.out
    rw [HM2.out] at HI
    clear HBL HNX
    obtain ⟨w6, hw6⟩ : ∃ z9, z9 = w5.alloc (.cells #[.slice SA sn sc, .slice RA nr rc, .int .i64 (dz : Int)] 49) := ⟨_, rfl⟩
    obtain ⟨b9, hb9⟩ : ∃ z9, z9 = w5.heap.size := ⟨_, rfl⟩
    have Hb9 : Hid (Blk w6 b9 49 [.slice SA sn sc, .slice RA nr rc, .int .i64 (dz : Int)]) := Lib.hid (by rw [hw6, hb9]; exact Blk.new w5 _ [.slice SA sn sc, .slice RA nr rc, .int .i64 (dz : Int)])
    have HXb9 : Hid (Only (w5.heap.size ≤ ·) w5 w6) := Lib.hid (by rw [hw6]; exact (Only.refl _ w5).alloc (fun _ h => h) _)
    have HEQb9 : Hid (w6 = w5.alloc (.cells #[.slice SA sn sc, .slice RA nr rc, .int .i64 (dz : Int)] 49) ∧ b9 = w5.heap.size) := Lib.hid ⟨hw6, hb9⟩
    clear hw6 hb9
    rw [← HEQb9.out.1, ← HEQb9.out.2]
    replace HN := Lib.hid (Rw.later HN.out HXb9.out)
    replace HI := Lib.hid (Rw.later HI.out HXb9.out)
    replace HO := Lib.hid (on_new HO.out HXb9.out)
    replace HJ := Lib.hid (Rw.later HJ.out HO.out)
    have HB9 := Hb9
    clear HEQb9 HXb9 Hb9
    obtain ⟨c0, c1, c2⟩ := HB9.out.tri
    go_upto_region 10 with (fail)
    clear c0 c1 c2
    go_loopg [79] sn (fun gk i wr => ∃ k : Nat, gk = sn - k ∧ k ≤ sn ∧ i = .int .i64 (k : Int) ∧ Hid (Only (w6.heap.size ≤ ·) w6 wr))
    case atStart => exact ⟨0, rfl, Nat.zero_le _, rfl, Lib.hid (Only.refl _ _)⟩
    case round =>
      obtain ⟨k, rfl, hk, rfl, HOL⟩ := hrel
      by_cases hlt : k < sn
      · have hlt' : (k : Int) < (sn : Int) := by omega
        have hk0 : (0 : Int) ≤ (k : Int) := by omega
        obtain ⟨sb, so, jb, jo, P1, Q1, P2, Q2, t1, p1, u1, q1, p2, q2, s1, r1, hSA, hJA, hcl, hsm⟩ := item_pair HI.out HJ.out hlt hlt rfl
        obtain ⟨jb', jo', x, P2', Q2', p2', q2', hJB, _, hx, z0, z1, z2, z3, y0, y1⟩ := its_at HJ.out hlt
        subst hSA hJA
        cases hJB
        have hz := hcl w6 (Only.refl _ _)
        have hz0 := z0.symm.trans hz.2.2.2.2.1
        have hz1 := z1.symm.trans hz.2.2.2.2.2.1
        have hz2 := z2.symm.trans hz.2.2.2.2.2.2.1
        have hz3 := z3.symm.trans hz.2.2.2.2.2.2.2
        simp only [Option.some.injEq, Value.slice.injEq, Value.int.injEq, true_and] at hz0 hz1 hz2 hz3
        have HXT : Hid (Src w6 (.slice P2 t1 p2) x.1 ∧ Src w6 (.slice Q2 u1 q2) x.2.1 ∧ s1 = x.2.2.1 ∧ r1 = x.2.2.2) := Lib.hid ⟨by rw [hz0.1, hz0.2.1, hz0.2.2] at y0; exact y0, by rw [hz1.1, hz1.2.1, hz1.2.2] at y1; exact y1, hz2.symm, hz3.symm⟩
        have HGX := Lib.hid (HGA.out x (List.mem_of_getElem? hx))
        have HCL := Lib.hid hcl
        have HC1 := Lib.hid hsm
        clear hx z0 z1 z2 z3 y0 y1 hz hz0 hz1 hz2 hz3 hcl hsm
        have HXS : Hid ((∀ W, Only (wr.heap.size ≤ ·) wr W → Src W (.slice P2 t1 p2) x.1) ∧ ∀ W, Only (wr.heap.size ≤ ·) wr W → Src W (.slice Q2 u1 q2) x.2.1) := Lib.hid ⟨fun W hW => HXT.out.1.later (on_new HOL.out hW), fun W hW => HXT.out.2.1.later (on_new HOL.out hW)⟩
        have HNR : Hid (∀ W, Only (wr.heap.size ≤ ·) wr W → Nms W (.slice A nr c) ls) := Lib.hid (fun W hW => Rw.later HN.out (on_new HOL.out hW))
        go_upto_region 12 with (fail)
        go_cut [12, 13, 14, 79] from 79 to 123 (fun y12 y13 y14 y79 wz => ∃ (g15 : Nat) (P : Option Addr) (t p : Nat) (Q : Option Addr) (m q : Nat) (s r : Int), y12 = .pointer (some ⟨g15, 0, none⟩) ∧ y13 = .bool true ∧ y14 = .int .i64 0 ∧ y79 = .int .i64 (k : Int) ∧ Hid (Blk wz g15 60 [.slice P t p, .slice Q m q, .int .i64 s, .int .i64 r]) ∧ Hid (ItV wz x (.slice P t p) (.slice Q m q) s r) ∧ Hid (Only (wr.heap.size ≤ ·) wr wz))
        case first =>
          have HW0 : Hid (Only (wr.heap.size ≤ ·) wr wr.drew) := Lib.hid ((Only.refl _ wr).drew)
          have KP : Hid (∀ W : World, Only (wr.heap.size ≤ ·) wr W → (fun W : World => W.cell? ⟨jb, jo + k * 4, none⟩ = some (.slice P2 t1 p2)) W) := Lib.hid (fun W hW => (HCL.out W (on_new HOL.out hW)).2.2.2.2.1)
          have HSX := Lib.hid (KP.out _ HW0.out)
          refine wp_region_list (B := [false, false, false, false, false, false, false, false, false, false, false, false, false, false, false, false, false]) (S := (fun W : World => W.cell? ⟨jb, jo + k * 4, none⟩ = some (.slice P2 t1 p2))) (by kernel_rfl) (by kernel_rfl) (by kernel_rfl) HSX.out (fun hsel hHeld => ?_)
          generalize hwz : World.drew _ = wy0 at HW0 HSX hHeld ⊢
          clear hwz
          refine oneA 0 83 hsel (h := ?_)
          simp only [Act.put, List.setIfInBounds_toArray, List.set_cons_zero, List.set_cons_succ]
          refine oneA 2 85 hsel (h := ?_)
          simp only [Act.put, List.setIfInBounds_toArray, List.set_cons_zero, List.set_cons_succ]
          refine oneA 3 86 hsel (h := ?_)
          simp only [Act.put, List.setIfInBounds_toArray, List.set_cons_zero, List.set_cons_succ]
          refine oneA 4 87 hsel (h := ?_)
          simp only [Act.put, List.setIfInBounds_toArray, List.set_cons_zero, List.set_cons_succ]
          refine oneA 5 88 hsel (h := ?_)
          simp only [Act.put, List.setIfInBounds_toArray, List.set_cons_zero, List.set_cons_succ]
          refine oneA 6 89 hsel (h := ?_)
          simp only [Act.put, List.setIfInBounds_toArray, List.set_cons_zero, List.set_cons_succ]
          refine oneA 7 90 hsel (h := ?_)
          simp only [Act.put, List.setIfInBounds_toArray, List.set_cons_zero, List.set_cons_succ]
          refine wpAnyL_ready (rs := [1, 13]) (by kernel_rfl) (by kernel_rfl) (by simp) ?_
          refine AllReadyL.cons (o := ?_) ?_ (fun K hK => ?_) (AllReadyL.cons (o := ?_) ?_ (fun K hK => ?_) AllReadyL.nil)
          case refine_2 => (simp only [List.getElem?_cons_succ, List.getElem?_cons_zero]; rfl)
          case refine_5 => (simp only [List.getElem?_cons_succ, List.getElem?_cons_zero]; rfl)
          case refine_3 =>
            go_simp
            (go_at_call 12; (with_reducible refine (Source_c _ A nr c).mono ?_); rintro e wy1 ⟨⟨bl, rfl, _, hbl⟩, ho⟩; have HW1 := Lib.hid (on_new HW0.out ho); have HBL := Lib.hid hbl; clear hbl ho)
            go_wp2_with (fail)
            clear hHeld
            refine hK.out _ _ (KP.out _ HW1.out) (fun hHeld => ?_)
            clear hK K
            try simp only [List.set_cons_zero, List.set_cons_succ]
            refine wpAnyL_ready (rs := [8, 13]) (by kernel_rfl) (by kernel_rfl) (by simp) ?_
            refine AllReadyL.cons (o := ?_) ?_ (fun K hK => ?_) (AllReadyL.cons (o := ?_) ?_ (fun K hK => ?_) AllReadyL.nil)
            case refine_2 => (simp only [List.getElem?_cons_succ, List.getElem?_cons_zero]; rfl)
            case refine_5 => (simp only [List.getElem?_cons_succ, List.getElem?_cons_zero]; rfl)
            case refine_3 =>
              go_simp
              (go_at_call 19; have hc := Get_c _ bl A nr c root ls P2 t1 p2 x.1 HBL.out (HNR.out _ HW1.out) HF.out (HXS.out.1 _ HW1.out) HOKP.out; rw [HGX.out] at hc; (with_reducible refine hc.mono ?_); rintro e wy2 ⟨⟨P, t, p, Q, m, q, s, r, b, er, rfl, rfl, rfl, hi⟩, ho⟩; have HW2 := Lib.hid (on_new HW1.out ho); have HIV : Hid (ItV wy2 x (.slice P t p) (.slice Q m q) s r) := Lib.hid hi; clear hi ho hc)
              go_wp2_with (fail)
              clear hHeld
              refine hK.out _ _ (KP.out _ HW2.out) (fun hHeld => ?_)
              clear hK K
              try simp only [List.set_cons_zero, List.set_cons_succ]
              refine oneA 9 82 hsel (h := ?_)
              simp only [Act.put, List.setIfInBounds_toArray, List.set_cons_zero, List.set_cons_succ]
              refine oneA 10 92 hsel (h := ?_)
              simp only [Act.put, List.setIfInBounds_toArray, List.set_cons_zero, List.set_cons_succ]
              refine oneA 11 93 hsel (h := ?_)
              simp only [Act.put, List.setIfInBounds_toArray, List.set_cons_zero, List.set_cons_succ]
              refine oneA 12 94 hsel (h := ?_)
              simp only [Act.put, List.setIfInBounds_toArray, List.set_cons_zero, List.set_cons_succ]
              refine wpAnyL_ready (rs := [13]) (by kernel_rfl) (by kernel_rfl) (by simp) ?_
              refine AllReadyL.cons (o := ?_) ?_ (fun K hK => ?_) AllReadyL.nil
              case refine_2 => (simp only [List.getElem?_cons_succ, List.getElem?_cons_zero]; rfl)
              go_simp
              have HW3 : Hid (Only (wr.heap.size ≤ ·) wr (wy2.alloc (.cells #[.slice none 0 0, .slice none 0 0, .int .i64 0, .int .i64 0] 60))) := Lib.hid (HW2.out.alloc (fun _ h => h) _)
              have HG15 : Hid (Blk (wy2.alloc (.cells #[.slice none 0 0, .slice none 0 0, .int .i64 0, .int .i64 0] 60)) wy2.heap.size 60 [.slice none 0 0, .slice none 0 0, .int .i64 0, .int .i64 0]) := Lib.hid (Blk.new wy2 _ _)
              have HL15 : Hid (wr.heap.size ≤ wy2.heap.size) := Lib.hid HW2.out.size
              replace HIV : Hid (ItV (wy2.alloc (.cells #[.slice none 0 0, .slice none 0 0, .int .i64 0, .int .i64 0] 60)) x (.slice P t p) (.slice Q m q) s r) := Lib.hid (HIV.out.later ((Only.refl _ wy2).alloc (fun _ h => h) _))
              clear hHeld
              refine hK.out _ _ (KP.out _ HW3.out) (fun hHeld => ?_)
              clear hK K
              try simp only [List.set_cons_zero, List.set_cons_succ]
              generalize hwz : (wy2.alloc (.cells #[.slice none 0 0, .slice none 0 0, .int .i64 0, .int .i64 0] 60)) = wy3 at HW3 HG15 HIV hHeld ⊢
              clear hwz
              generalize hgz : wy2.heap.size = g15 at HG15 HL15 ⊢
              clear hgz
              refine wpAnyL_ready (rs := [14]) (by kernel_rfl) (by kernel_rfl) (by simp) ?_
              refine AllReadyL.cons (o := ?_) ?_ (fun K hK => ?_) AllReadyL.nil
              case refine_2 => (simp only [List.getElem?_cons_succ, List.getElem?_cons_zero]; rfl)
              obtain ⟨z0, z1, z2, z3⟩ := HG15.out.cell4
              obtain ⟨m0, m1, m2, m3⟩ := HG15.out.melt4
              go_simp
              clear z0 z1 z2 z3 m0 m1 m2 m3
              have HW4 : Hid (Only (wr.heap.size ≤ ·) wr ((((wy3.setCell ⟨g15, 0, none⟩ (.slice P t p)).setCell ⟨g15, 1, none⟩ (.slice Q m q)).setCell ⟨g15, 2, none⟩ (.int .i64 s)).setCell ⟨g15, 3, none⟩ (.int .i64 r))) := Lib.hid ((((HW3.out.setCell (p := ⟨g15, 0, none⟩) HL15.out (.slice P t p)).setCell (p := ⟨g15, 1, none⟩) HL15.out (.slice Q m q)).setCell (p := ⟨g15, 2, none⟩) HL15.out (.int .i64 s)).setCell (p := ⟨g15, 3, none⟩) HL15.out (.int .i64 r))
              have HF15 : Hid (Blk ((((wy3.setCell ⟨g15, 0, none⟩ (.slice P t p)).setCell ⟨g15, 1, none⟩ (.slice Q m q)).setCell ⟨g15, 2, none⟩ (.int .i64 s)).setCell ⟨g15, 3, none⟩ (.int .i64 r)) g15 60 [.slice P t p, .slice Q m q, .int .i64 s, .int .i64 r]) := Lib.hid ((((HG15.out.set_ 0 (.slice P t p)).set_ 1 (.slice Q m q)).set_ 2 (.int .i64 s)).set_ 3 (.int .i64 r))
              replace HIV : Hid (ItV ((((wy3.setCell ⟨g15, 0, none⟩ (.slice P t p)).setCell ⟨g15, 1, none⟩ (.slice Q m q)).setCell ⟨g15, 2, none⟩ (.int .i64 s)).setCell ⟨g15, 3, none⟩ (.int .i64 r)) x (.slice P t p) (.slice Q m q) s r) := Lib.hid (HIV.out.keepT HG15.out (((((Only.refl (· = g15) wy3).setCell (p := ⟨g15, 0, none⟩) rfl (.slice P t p)).setCell (p := ⟨g15, 1, none⟩) rfl (.slice Q m q)).setCell (p := ⟨g15, 2, none⟩) rfl (.int .i64 s)).setCell (p := ⟨g15, 3, none⟩) rfl (.int .i64 r)))
              clear hHeld
              refine hK.out _ _ (KP.out _ HW4.out) (fun hHeld => ?_)
              clear hK K
              try simp only [List.set_cons_zero, List.set_cons_succ]
              generalize hwz : ((((wy3.setCell ⟨g15, 0, none⟩ (.slice P t p)).setCell ⟨g15, 1, none⟩ (.slice Q m q)).setCell ⟨g15, 2, none⟩ (.int .i64 s)).setCell ⟨g15, 3, none⟩ (.int .i64 r)) = wy4 at HW4 HF15 HIV hHeld ⊢
              clear hwz
              refine oneA 15 13 hsel (h := ?_)
              simp only [Act.put, List.setIfInBounds_toArray, List.set_cons_zero, List.set_cons_succ]
              refine oneA 16 14 hsel (h := ?_)
              simp only [Act.put, List.setIfInBounds_toArray, List.set_cons_zero, List.set_cons_succ]
              refine wpAnyL_done (by kernel_rfl) (by kernel_rfl) ?_ _
              clear hsel hHeld
              go_wp2_with (fail)
              refine Met.intro ?_
              go_step
              (repeat apply Exists.intro)
              refine ⟨?rel181314, rfl⟩
              exact ⟨g15, P, t, p, Q, m, q, s, r, rfl, rfl, rfl, rfl, HF15, HIV, HW4⟩
            case refine_6 =>
              go_simp
              have HW2 : Hid (Only (wr.heap.size ≤ ·) wr (wy1.alloc (.cells #[.slice none 0 0, .slice none 0 0, .int .i64 0, .int .i64 0] 60))) := Lib.hid (HW1.out.alloc (fun _ h => h) _)
              have HG15 : Hid (Blk (wy1.alloc (.cells #[.slice none 0 0, .slice none 0 0, .int .i64 0, .int .i64 0] 60)) wy1.heap.size 60 [.slice none 0 0, .slice none 0 0, .int .i64 0, .int .i64 0]) := Lib.hid (Blk.new wy1 _ _)
              have HL15 : Hid (wr.heap.size ≤ wy1.heap.size) := Lib.hid HW1.out.size
              replace HBL := Lib.hid (HBL.out.alloc (.cells #[.slice none 0 0, .slice none 0 0, .int .i64 0, .int .i64 0] 60))
              clear hHeld
              refine hK.out _ _ (KP.out _ HW2.out) (fun hHeld => ?_)
              clear hK K
              try simp only [List.set_cons_zero, List.set_cons_succ]
              generalize hwz : (wy1.alloc (.cells #[.slice none 0 0, .slice none 0 0, .int .i64 0, .int .i64 0] 60)) = wy2 at HW2 HG15 HBL hHeld ⊢
              clear hwz
              generalize hgz : wy1.heap.size = g15 at HG15 HL15 ⊢
              clear hgz
              refine wpAnyL_ready (rs := [8]) (by kernel_rfl) (by kernel_rfl) (by simp) ?_
              refine AllReadyL.cons (o := ?_) ?_ (fun K hK => ?_) AllReadyL.nil
              case refine_2 => (simp only [List.getElem?_cons_succ, List.getElem?_cons_zero]; rfl)
              go_simp
              (go_at_call 19; have hc := Get_c _ bl A nr c root ls P2 t1 p2 x.1 HBL.out (HNR.out _ HW2.out) HF.out (HXS.out.1 _ HW2.out) HOKP.out; rw [HGX.out] at hc; (with_reducible refine hc.mono ?_); rintro e wy3 ⟨⟨P, t, p, Q, m, q, s, r, b, er, rfl, rfl, rfl, hi⟩, ho⟩; have HW3 := Lib.hid (on_new HW2.out ho); have HIV : Hid (ItV wy3 x (.slice P t p) (.slice Q m q) s r) := Lib.hid hi; replace HG15 := Lib.hid (HG15.out.later ho); clear hi ho hc)
              go_wp2_with (fail)
              clear hHeld
              refine hK.out _ _ (KP.out _ HW3.out) (fun hHeld => ?_)
              clear hK K
              try simp only [List.set_cons_zero, List.set_cons_succ]
              refine oneA 9 82 hsel (h := ?_)
              simp only [Act.put, List.setIfInBounds_toArray, List.set_cons_zero, List.set_cons_succ]
              refine oneA 10 92 hsel (h := ?_)
              simp only [Act.put, List.setIfInBounds_toArray, List.set_cons_zero, List.set_cons_succ]
              refine oneA 11 93 hsel (h := ?_)
              simp only [Act.put, List.setIfInBounds_toArray, List.set_cons_zero, List.set_cons_succ]
              refine oneA 12 94 hsel (h := ?_)
              simp only [Act.put, List.setIfInBounds_toArray, List.set_cons_zero, List.set_cons_succ]
              refine wpAnyL_ready (rs := [14]) (by kernel_rfl) (by kernel_rfl) (by simp) ?_
              refine AllReadyL.cons (o := ?_) ?_ (fun K hK => ?_) AllReadyL.nil
              case refine_2 => (simp only [List.getElem?_cons_succ, List.getElem?_cons_zero]; rfl)
              obtain ⟨z0, z1, z2, z3⟩ := HG15.out.cell4
              obtain ⟨m0, m1, m2, m3⟩ := HG15.out.melt4
              go_simp
              clear z0 z1 z2 z3 m0 m1 m2 m3
              have HW4 : Hid (Only (wr.heap.size ≤ ·) wr ((((wy3.setCell ⟨g15, 0, none⟩ (.slice P t p)).setCell ⟨g15, 1, none⟩ (.slice Q m q)).setCell ⟨g15, 2, none⟩ (.int .i64 s)).setCell ⟨g15, 3, none⟩ (.int .i64 r))) := Lib.hid ((((HW3.out.setCell (p := ⟨g15, 0, none⟩) HL15.out (.slice P t p)).setCell (p := ⟨g15, 1, none⟩) HL15.out (.slice Q m q)).setCell (p := ⟨g15, 2, none⟩) HL15.out (.int .i64 s)).setCell (p := ⟨g15, 3, none⟩) HL15.out (.int .i64 r))
              have HF15 : Hid (Blk ((((wy3.setCell ⟨g15, 0, none⟩ (.slice P t p)).setCell ⟨g15, 1, none⟩ (.slice Q m q)).setCell ⟨g15, 2, none⟩ (.int .i64 s)).setCell ⟨g15, 3, none⟩ (.int .i64 r)) g15 60 [.slice P t p, .slice Q m q, .int .i64 s, .int .i64 r]) := Lib.hid ((((HG15.out.set_ 0 (.slice P t p)).set_ 1 (.slice Q m q)).set_ 2 (.int .i64 s)).set_ 3 (.int .i64 r))
              replace HIV : Hid (ItV ((((wy3.setCell ⟨g15, 0, none⟩ (.slice P t p)).setCell ⟨g15, 1, none⟩ (.slice Q m q)).setCell ⟨g15, 2, none⟩ (.int .i64 s)).setCell ⟨g15, 3, none⟩ (.int .i64 r)) x (.slice P t p) (.slice Q m q) s r) := Lib.hid (HIV.out.keepT HG15.out (((((Only.refl (· = g15) wy3).setCell (p := ⟨g15, 0, none⟩) rfl (.slice P t p)).setCell (p := ⟨g15, 1, none⟩) rfl (.slice Q m q)).setCell (p := ⟨g15, 2, none⟩) rfl (.int .i64 s)).setCell (p := ⟨g15, 3, none⟩) rfl (.int .i64 r)))
              clear hHeld
              refine hK.out _ _ (KP.out _ HW4.out) (fun hHeld => ?_)
              clear hK K
              try simp only [List.set_cons_zero, List.set_cons_succ]
              generalize hwz : ((((wy3.setCell ⟨g15, 0, none⟩ (.slice P t p)).setCell ⟨g15, 1, none⟩ (.slice Q m q)).setCell ⟨g15, 2, none⟩ (.int .i64 s)).setCell ⟨g15, 3, none⟩ (.int .i64 r)) = wy4 at HW4 HF15 HIV hHeld ⊢
              clear hwz
              refine oneA 15 13 hsel (h := ?_)
              simp only [Act.put, List.setIfInBounds_toArray, List.set_cons_zero, List.set_cons_succ]
              refine oneA 16 14 hsel (h := ?_)
              simp only [Act.put, List.setIfInBounds_toArray, List.set_cons_zero, List.set_cons_succ]
              refine wpAnyL_done (by kernel_rfl) (by kernel_rfl) ?_ _
              clear hsel hHeld
              go_wp2_with (fail)
              refine Met.intro ?_
              go_step
              (repeat apply Exists.intro)
              refine ⟨?rel113814, rfl⟩
              exact ⟨g15, P, t, p, Q, m, q, s, r, rfl, rfl, rfl, rfl, HF15, HIV, HW4⟩
          case refine_6 =>
            go_simp
            have HW1 : Hid (Only (wr.heap.size ≤ ·) wr (wy0.alloc (.cells #[.slice none 0 0, .slice none 0 0, .int .i64 0, .int .i64 0] 60))) := Lib.hid (HW0.out.alloc (fun _ h => h) _)
            have HG15 : Hid (Blk (wy0.alloc (.cells #[.slice none 0 0, .slice none 0 0, .int .i64 0, .int .i64 0] 60)) wy0.heap.size 60 [.slice none 0 0, .slice none 0 0, .int .i64 0, .int .i64 0]) := Lib.hid (Blk.new wy0 _ _)
            have HL15 : Hid (wr.heap.size ≤ wy0.heap.size) := Lib.hid HW0.out.size
            clear hHeld
            refine hK.out _ _ (KP.out _ HW1.out) (fun hHeld => ?_)
            clear hK K
            try simp only [List.set_cons_zero, List.set_cons_succ]
            generalize hwz : (wy0.alloc (.cells #[.slice none 0 0, .slice none 0 0, .int .i64 0, .int .i64 0] 60)) = wy1 at HW1 HG15 hHeld ⊢
            clear hwz
            generalize hgz : wy0.heap.size = g15 at HG15 HL15 ⊢
            clear hgz
            refine wpAnyL_ready (rs := [1]) (by kernel_rfl) (by kernel_rfl) (by simp) ?_
            refine AllReadyL.cons (o := ?_) ?_ (fun K hK => ?_) AllReadyL.nil
            case refine_2 => (simp only [List.getElem?_cons_succ, List.getElem?_cons_zero]; rfl)
            go_simp
            (go_at_call 12; (with_reducible refine (Source_c _ A nr c).mono ?_); rintro e wy2 ⟨⟨bl, rfl, _, hbl⟩, ho⟩; have HW2 := Lib.hid (on_new HW1.out ho); have HBL := Lib.hid hbl; replace HG15 := Lib.hid (HG15.out.later ho); clear hbl ho)
            go_wp2_with (fail)
            clear hHeld
            refine hK.out _ _ (KP.out _ HW2.out) (fun hHeld => ?_)
            clear hK K
            try simp only [List.set_cons_zero, List.set_cons_succ]
            refine wpAnyL_ready (rs := [8]) (by kernel_rfl) (by kernel_rfl) (by simp) ?_
            refine AllReadyL.cons (o := ?_) ?_ (fun K hK => ?_) AllReadyL.nil
            case refine_2 => (simp only [List.getElem?_cons_succ, List.getElem?_cons_zero]; rfl)
            go_simp
            (go_at_call 19; have hc := Get_c _ bl A nr c root ls P2 t1 p2 x.1 HBL.out (HNR.out _ HW2.out) HF.out (HXS.out.1 _ HW2.out) HOKP.out; rw [HGX.out] at hc; (with_reducible refine hc.mono ?_); rintro e wy3 ⟨⟨P, t, p, Q, m, q, s, r, b, er, rfl, rfl, rfl, hi⟩, ho⟩; have HW3 := Lib.hid (on_new HW2.out ho); have HIV : Hid (ItV wy3 x (.slice P t p) (.slice Q m q) s r) := Lib.hid hi; replace HG15 := Lib.hid (HG15.out.later ho); clear hi ho hc)
            go_wp2_with (fail)
            clear hHeld
            refine hK.out _ _ (KP.out _ HW3.out) (fun hHeld => ?_)
            clear hK K
            try simp only [List.set_cons_zero, List.set_cons_succ]
            refine oneA 9 82 hsel (h := ?_)
            simp only [Act.put, List.setIfInBounds_toArray, List.set_cons_zero, List.set_cons_succ]
            refine oneA 10 92 hsel (h := ?_)
            simp only [Act.put, List.setIfInBounds_toArray, List.set_cons_zero, List.set_cons_succ]
            refine oneA 11 93 hsel (h := ?_)
            simp only [Act.put, List.setIfInBounds_toArray, List.set_cons_zero, List.set_cons_succ]
            refine oneA 12 94 hsel (h := ?_)
            simp only [Act.put, List.setIfInBounds_toArray, List.set_cons_zero, List.set_cons_succ]
            refine wpAnyL_ready (rs := [14]) (by kernel_rfl) (by kernel_rfl) (by simp) ?_
            refine AllReadyL.cons (o := ?_) ?_ (fun K hK => ?_) AllReadyL.nil
            case refine_2 => (simp only [List.getElem?_cons_succ, List.getElem?_cons_zero]; rfl)
            obtain ⟨z0, z1, z2, z3⟩ := HG15.out.cell4
            obtain ⟨m0, m1, m2, m3⟩ := HG15.out.melt4
            go_simp
            clear z0 z1 z2 z3 m0 m1 m2 m3
            have HW4 : Hid (Only (wr.heap.size ≤ ·) wr ((((wy3.setCell ⟨g15, 0, none⟩ (.slice P t p)).setCell ⟨g15, 1, none⟩ (.slice Q m q)).setCell ⟨g15, 2, none⟩ (.int .i64 s)).setCell ⟨g15, 3, none⟩ (.int .i64 r))) := Lib.hid ((((HW3.out.setCell (p := ⟨g15, 0, none⟩) HL15.out (.slice P t p)).setCell (p := ⟨g15, 1, none⟩) HL15.out (.slice Q m q)).setCell (p := ⟨g15, 2, none⟩) HL15.out (.int .i64 s)).setCell (p := ⟨g15, 3, none⟩) HL15.out (.int .i64 r))
            have HF15 : Hid (Blk ((((wy3.setCell ⟨g15, 0, none⟩ (.slice P t p)).setCell ⟨g15, 1, none⟩ (.slice Q m q)).setCell ⟨g15, 2, none⟩ (.int .i64 s)).setCell ⟨g15, 3, none⟩ (.int .i64 r)) g15 60 [.slice P t p, .slice Q m q, .int .i64 s, .int .i64 r]) := Lib.hid ((((HG15.out.set_ 0 (.slice P t p)).set_ 1 (.slice Q m q)).set_ 2 (.int .i64 s)).set_ 3 (.int .i64 r))
            replace HIV : Hid (ItV ((((wy3.setCell ⟨g15, 0, none⟩ (.slice P t p)).setCell ⟨g15, 1, none⟩ (.slice Q m q)).setCell ⟨g15, 2, none⟩ (.int .i64 s)).setCell ⟨g15, 3, none⟩ (.int .i64 r)) x (.slice P t p) (.slice Q m q) s r) := Lib.hid (HIV.out.keepT HG15.out (((((Only.refl (· = g15) wy3).setCell (p := ⟨g15, 0, none⟩) rfl (.slice P t p)).setCell (p := ⟨g15, 1, none⟩) rfl (.slice Q m q)).setCell (p := ⟨g15, 2, none⟩) rfl (.int .i64 s)).setCell (p := ⟨g15, 3, none⟩) rfl (.int .i64 r)))
            clear hHeld
            refine hK.out _ _ (KP.out _ HW4.out) (fun hHeld => ?_)
            clear hK K
            try simp only [List.set_cons_zero, List.set_cons_succ]
            generalize hwz : ((((wy3.setCell ⟨g15, 0, none⟩ (.slice P t p)).setCell ⟨g15, 1, none⟩ (.slice Q m q)).setCell ⟨g15, 2, none⟩ (.int .i64 s)).setCell ⟨g15, 3, none⟩ (.int .i64 r)) = wy4 at HW4 HF15 HIV hHeld ⊢
            clear hwz
            refine oneA 15 13 hsel (h := ?_)
            simp only [Act.put, List.setIfInBounds_toArray, List.set_cons_zero, List.set_cons_succ]
            refine oneA 16 14 hsel (h := ?_)
            simp only [Act.put, List.setIfInBounds_toArray, List.set_cons_zero, List.set_cons_succ]
            refine wpAnyL_done (by kernel_rfl) (by kernel_rfl) ?_ _
            clear hsel hHeld
            go_wp2_with (fail)
            refine Met.intro ?_
            go_step
            (repeat apply Exists.intro)
            refine ⟨?rel131814, rfl⟩
            exact ⟨g15, P, t, p, Q, m, q, s, r, rfl, rfl, rfl, rfl, HF15, HIV, HW4⟩
        case rest =>
          obtain ⟨g15, P, t, p, Q, m, q, s, r, rfl, rfl, rfl, rfl, HG, HIV, HXC⟩ := hcut
          have HOC := Lib.hid (on_new HOL.out HXC.out)
          have HC2 : Hid (∀ W, Only (wc.heap.size ≤ ·) wc W → Calls Try.prog 18 #[.agg #[.slice P t p, .slice Q m q, .int .i64 s, .int .i64 r], .agg #[.slice P2 t1 p2, .slice Q2 u1 q2, .int .i64 s1, .int .i64 r1]] W (Told W (.bool true))) := Lib.hid (fun W hW => rSame_c W P Q P2 Q2 t p m q t1 p2 u1 q2 s r s1 r1 x.1 x.2.1 x.1 x.2.1 true (HIV.out.1.later hW) (HIV.out.2.1.later hW) (HXS.out.1 _ (on_new HXC.out hW)) (HXS.out.2 _ (on_new HXC.out hW)) (decide_eq_true ⟨rfl, rfl, HIV.out.2.2.1.trans HXT.out.2.2.1.symm, HIV.out.2.2.2.trans HXT.out.2.2.2.symm⟩))
          have HB9c := Lib.hid (HB9.out.later HOC.out)
          have KP : Hid (∀ W : World, Only (wc.heap.size ≤ ·) wc W → (fun W : World => W.cell? ⟨b9, 0, none⟩ = some (.slice (some ⟨sb, so, none⟩) sn sc) ∧ W.cell? ⟨g15, 0, none⟩ = some (.slice P t p) ∧ W.cell? ⟨g15, 1, none⟩ = some (.slice Q m q) ∧ W.cell? ⟨g15, 2, none⟩ = some (.int .i64 s) ∧ W.cell? ⟨g15, 3, none⟩ = some (.int .i64 r) ∧ W.cell? ⟨sb, so + k * 4, none⟩ = some (.slice P1 t1 p1) ∧ W.cell? ⟨jb, jo + k * 4, none⟩ = some (.slice P2 t1 p2) ∧ W.cell? ⟨sb, so + k * 4 + 1, none⟩ = some (.slice Q1 u1 q1) ∧ W.cell? ⟨jb, jo + k * 4 + 1, none⟩ = some (.slice Q2 u1 q2) ∧ W.cell? ⟨sb, so + k * 4 + 2, none⟩ = some (.int .i64 s1) ∧ W.cell? ⟨jb, jo + k * 4 + 2, none⟩ = some (.int .i64 s1) ∧ W.cell? ⟨sb, so + k * 4 + 3, none⟩ = some (.int .i64 r1) ∧ W.cell? ⟨jb, jo + k * 4 + 3, none⟩ = some (.int .i64 r1)) W) := Lib.hid (fun W hW => by
            obtain ⟨a1, a2, a3, a4, a5, a6, a7, a8⟩ := HCL.out W (on_new HOC.out hW)
            exact ⟨(HB9c.out.later hW).cell 0, (HG.out.later hW).cell 0, (HG.out.later hW).cell 1, (HG.out.later hW).cell 2, (HG.out.later hW).cell 3, a1, a5, a2, a6, a3, a7, a4, a8⟩)
          have HDX : Hid (Only (wc.heap.size ≤ ·) wc wc.drew) := Lib.hid ((Only.refl _ wc).drew)
          have HSX := Lib.hid (KP.out _ HDX.out)
          go_upto_region 13 with (fail)
          refine wp_region_list (B := [false, false, false, false, false, false, false, false, false, false, false, false, false, false, false, false, false, false, false, false, false, false, false, false, false, false, false, false]) (S := (fun W : World => W.cell? ⟨b9, 0, none⟩ = some (.slice (some ⟨sb, so, none⟩) sn sc) ∧ W.cell? ⟨g15, 0, none⟩ = some (.slice P t p) ∧ W.cell? ⟨g15, 1, none⟩ = some (.slice Q m q) ∧ W.cell? ⟨g15, 2, none⟩ = some (.int .i64 s) ∧ W.cell? ⟨g15, 3, none⟩ = some (.int .i64 r) ∧ W.cell? ⟨sb, so + k * 4, none⟩ = some (.slice P1 t1 p1) ∧ W.cell? ⟨jb, jo + k * 4, none⟩ = some (.slice P2 t1 p2) ∧ W.cell? ⟨sb, so + k * 4 + 1, none⟩ = some (.slice Q1 u1 q1) ∧ W.cell? ⟨jb, jo + k * 4 + 1, none⟩ = some (.slice Q2 u1 q2) ∧ W.cell? ⟨sb, so + k * 4 + 2, none⟩ = some (.int .i64 s1) ∧ W.cell? ⟨jb, jo + k * 4 + 2, none⟩ = some (.int .i64 s1) ∧ W.cell? ⟨sb, so + k * 4 + 3, none⟩ = some (.int .i64 r1) ∧ W.cell? ⟨jb, jo + k * 4 + 3, none⟩ = some (.int .i64 r1))) (by kernel_rfl) (by kernel_rfl) (by kernel_rfl) HSX.out (fun hsel hHeld => ?_)
          generalize hwz : World.drew _ = wx at HDX HSX hHeld ⊢
          clear hwz
          refine oneA 0 95 hsel (h := ?_)
          simp only [Act.put, List.setIfInBounds_toArray, List.set_cons_zero, List.set_cons_succ]
          refine oneA 1 96 hsel (h := ?_)
          simp only [Act.put, List.setIfInBounds_toArray, List.set_cons_zero, List.set_cons_succ]
          refine oneA 2 97 hsel (h := ?_)
          simp only [Act.put, List.setIfInBounds_toArray, List.set_cons_zero, List.set_cons_succ]
          refine oneA 3 98 hsel (h := ?_)
          simp only [Act.put, List.setIfInBounds_toArray, List.set_cons_zero, List.set_cons_succ]
          refine oneA 4 99 hsel (h := ?_)
          simp only [Act.put, List.setIfInBounds_toArray, List.set_cons_zero, List.set_cons_succ]
          refine oneA 5 100 hsel (h := ?_)
          simp only [Act.put, List.setIfInBounds_toArray, List.set_cons_zero, List.set_cons_succ]
          refine oneA 6 101 hsel (h := ?_)
          simp only [Act.put, List.setIfInBounds_toArray, List.set_cons_zero, List.set_cons_succ]
          refine oneA 7 102 hsel (h := ?_)
          simp only [Act.put, List.setIfInBounds_toArray, List.set_cons_zero, List.set_cons_succ]
          refine oneA 8 103 hsel (h := ?_)
          simp only [Act.put, List.setIfInBounds_toArray, List.set_cons_zero, List.set_cons_succ]
          refine wpAnyL_ready (rs := [9]) (by kernel_rfl) (by kernel_rfl) (by simp) ?_
          refine AllReadyL.cons (o := ?_) ?_ (fun K hK => ?_) AllReadyL.nil
          case refine_2 => (simp only [List.getElem?_cons_succ, List.getElem?_cons_zero]; rfl)
          go_simp
          (go_at_call 18; (with_reducible refine (HC1.out _ (on_new HOC.out HDX.out)).mono ?_); rintro e wv1 ⟨rfl, ho⟩; have HV1 := Lib.hid (on_new HDX.out ho); clear ho)
          go_wp2_with (fail)
          clear hHeld
          refine hK.out _ _ (KP.out _ HV1.out) (fun hHeld => ?_)
          clear hK K
          try simp only [List.set_cons_zero, List.set_cons_succ]
          refine oneA 10 105 hsel (h := ?_)
          simp only [Act.put, List.setIfInBounds_toArray, List.set_cons_zero, List.set_cons_succ]
          refine oneA 11 106 hsel (h := ?_)
          simp only [Act.put, List.setIfInBounds_toArray, List.set_cons_zero, List.set_cons_succ]
          refine oneA 12 107 hsel (h := ?_)
          simp only [Act.put, List.setIfInBounds_toArray, List.set_cons_zero, List.set_cons_succ]
          refine oneA 13 108 hsel (h := ?_)
          simp only [Act.put, List.setIfInBounds_toArray, List.set_cons_zero, List.set_cons_succ]
          refine oneA 14 109 hsel (h := ?_)
          simp only [Act.put, List.setIfInBounds_toArray, List.set_cons_zero, List.set_cons_succ]
          refine oneA 15 110 hsel (h := ?_)
          simp only [Act.put, List.setIfInBounds_toArray, List.set_cons_zero, List.set_cons_succ]
          refine oneA 16 111 hsel (h := ?_)
          simp only [Act.put, List.setIfInBounds_toArray, List.set_cons_zero, List.set_cons_succ]
          refine oneA 17 112 hsel (h := ?_)
          simp only [Act.put, List.setIfInBounds_toArray, List.set_cons_zero, List.set_cons_succ]
          refine oneA 18 113 hsel (h := ?_)
          simp only [Act.put, List.setIfInBounds_toArray, List.set_cons_zero, List.set_cons_succ]
          refine oneA 19 114 hsel (h := ?_)
          simp only [Act.put, List.setIfInBounds_toArray, List.set_cons_zero, List.set_cons_succ]
          refine oneA 20 115 hsel (h := ?_)
          simp only [Act.put, List.setIfInBounds_toArray, List.set_cons_zero, List.set_cons_succ]
          refine oneA 21 116 hsel (h := ?_)
          simp only [Act.put, List.setIfInBounds_toArray, List.set_cons_zero, List.set_cons_succ]
          refine oneA 22 117 hsel (h := ?_)
          simp only [Act.put, List.setIfInBounds_toArray, List.set_cons_zero, List.set_cons_succ]
          refine oneA 23 118 hsel (h := ?_)
          simp only [Act.put, List.setIfInBounds_toArray, List.set_cons_zero, List.set_cons_succ]
          refine oneA 24 119 hsel (h := ?_)
          simp only [Act.put, List.setIfInBounds_toArray, List.set_cons_zero, List.set_cons_succ]
          refine wpAnyL_ready (rs := [25]) (by kernel_rfl) (by kernel_rfl) (by simp) ?_
          refine AllReadyL.cons (o := ?_) ?_ (fun K hK => ?_) AllReadyL.nil
          case refine_2 => (simp only [List.getElem?_cons_succ, List.getElem?_cons_zero]; rfl)
          go_simp
          (go_at_call 18; (with_reducible refine (HC2.out _ HV1.out).mono ?_); rintro e wv2 ⟨rfl, ho⟩; have HV2 := Lib.hid (on_new HV1.out ho); clear ho)
          go_wp2_with (fail)
          clear hHeld
          refine hK.out _ _ (KP.out _ HV2.out) (fun hHeld => ?_)
          clear hK K
          try simp only [List.set_cons_zero, List.set_cons_succ]
          refine oneA 26 121 hsel (h := ?_)
          simp only [Act.put, List.setIfInBounds_toArray, List.set_cons_zero, List.set_cons_succ]
          refine oneA 27 122 hsel (h := ?_)
          simp only [Act.put, List.setIfInBounds_toArray, List.set_cons_zero, List.set_cons_succ]
          refine wpAnyL_done (by kernel_rfl) (by kernel_rfl) ?_ _
          clear hsel hHeld
          go_wp2_with (fail)
          go_roundg (sn - (k + 1))
          case measure => omega
          case rel => exact ⟨k + 1, rfl, by omega, by go_num, Lib.hid (on_new HOC.out HV2.out)⟩
      · obtain rfl : k = sn := by omega
        have hkm : ¬ (k : Int) < (k : Int) := by omega
        replace HO := Lib.hid (on_new HO.out HOL.out)
        go_wp2_with ((go_at_call 9; (with_reducible refine (talive_c HM _).mono ?_); rintro e w9 ⟨rfl, ho⟩; have HOF := Lib.hid (on_new HO.out ho); clear ho))
        go_ret
        exact ⟨rfl, HOF.out⟩
set_option maxRecDepth 100000 in
set_option maxHeartbeats 25600000 in
theorem made_walk (HM : MeetC) (w : World) (JA : Option Addr) (ni jc : Nat) (many fan : Int) (its : List It) (h : Its w (.slice JA ni jc) its) (hok : ∀ x ∈ its, OkI x) (hm : -9223372036854775808 ≤ many ∧ many ≤ 9223372036854775807) (hf : -9223372036854775808 ≤ fan ∧ fan ≤ 9223372036854775807) :
    Calls Try.prog 6 #[.slice JA ni jc, .int .i64 many, .int .i64 fan] w (Told w (.bool true)) := by
  have HO : Hid (Only (w.heap.size ≤ ·) w w) := Lib.hid (Only.refl _ _)
  have hcap := h.cap
  by_cases g1 : (60 : Int) < (ni : Int)
  · clear h hok
    go_enter Try.func6, Try.ntmps6
    go_wp2_with ((go_at_call 9; (with_reducible refine (talive_c HM _).mono ?_); rintro e w9 ⟨rfl, ho⟩; have HOF := Lib.hid (on_new HO.out ho); clear ho))
    go_ret
    exact ⟨rfl, HOF.out⟩
  · by_cases g2 : many < 1
    · clear h hok
      go_enter Try.func6, Try.ntmps6
      go_wp2_with ((go_at_call 9; (with_reducible refine (talive_c HM _).mono ?_); rintro e w9 ⟨rfl, ho⟩; have HOF := Lib.hid (on_new HO.out ho); clear ho))
      go_ret
      exact ⟨rfl, HOF.out⟩
    · by_cases g3 : 20 < many
      · clear h hok
        go_enter Try.func6, Try.ntmps6
        go_wp2_with ((go_at_call 9; (with_reducible refine (talive_c HM _).mono ?_); rintro e w9 ⟨rfl, ho⟩; have HOF := Lib.hid (on_new HO.out ho); clear ho))
        go_ret
        exact ⟨rfl, HOF.out⟩
      · by_cases g4 : fan < 2
        · clear h hok
          go_enter Try.func6, Try.ntmps6
          go_wp2_with ((go_at_call 9; (with_reducible refine (talive_c HM _).mono ?_); rintro e w9 ⟨rfl, ho⟩; have HOF := Lib.hid (on_new HO.out ho); clear ho))
          go_ret
          exact ⟨rfl, HOF.out⟩
        · by_cases g5 : 20 < fan
          · clear h hok
            go_enter Try.func6, Try.ntmps6
            go_wp2_with ((go_at_call 9; (with_reducible refine (talive_c HM _).mono ?_); rintro e w9 ⟨rfl, ho⟩; have HOF := Lib.hid (on_new HO.out ho); clear ho))
            go_ret
            exact ⟨rfl, HOF.out⟩
          · by_cases hr : RisI its
            · obtain ⟨m, rfl⟩ : ∃ m : Nat, many = (m : Int) := ⟨many.toNat, by omega⟩
              obtain ⟨f, rfl⟩ : ∃ f : Nat, fan = (f : Int) := ⟨fan.toNat, by omega⟩
              exact made_main HM w JA ni jc m f its h hok (by omega) (by omega) (by omega) hr
            · have HRB := Lib.hid (rises_b w JA none ni jc 0 0 false ⟨false, its, []⟩ ⟨rfl, h, Rw.nil_ _⟩ false ⟨(fun h => nomatch h), fun h => absurd h.1 hr⟩)
              clear h hok hr
              go_enter Try.func6, Try.ntmps6
              go_wp2_with (first
                | (go_at_call 10; (with_reducible refine HRB.out.mono ?_); rintro e w1 ⟨rfl, ho⟩; replace HO := Lib.hid (on_new HO.out ho); clear ho)
                | (go_at_call 9; (with_reducible refine (talive_c HM _).mono ?_); rintro e w9 ⟨rfl, ho⟩; have HOF := Lib.hid (on_new HO.out ho); clear ho))
              go_ret
              exact ⟨rfl, HOF.out⟩
end Go.Proofs.Ytdpdlhfjemehcaa
