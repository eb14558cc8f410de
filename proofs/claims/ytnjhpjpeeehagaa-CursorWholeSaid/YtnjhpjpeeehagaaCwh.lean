/-
  CursorWhole.
-/
import Derived.Test.YtnjhpjpeeehagaaGf
set_option linter.unusedVariables false
namespace Go.Proofs.Ytnjhpjpeeehagaa
open Go.RowKit

set_option maxRecDepth 100000 in
set_option maxHeartbeats 51200000 in
theorem whole_walk (HM : MeetC) (w : World) (A : Option Addr) (n c : Nat) (root : Int) (l : List Nm) (h : Nms w (.slice A n c) l) (hok : ∀ x ∈ l, OkN x) (hrt : -9223372036854775808 ≤ root ∧ root ≤ 9223372036854775807) :
    Calls Try.prog 4 #[.slice A n c, .int .i64 root] w (Told w (.bool true)) := by
  have HN := Lib.hid h
  have HOK := Lib.hid hok
  have HRT : Hid ((Lit.int .i64 root).wf = true) := Lib.hid (by simp [Lit.wf, IntKind.min, IntKind.max, IntKind.signed, IntKind.bits]; omega)
  have HFW := Lib.hid (few2_w w A n c l h none 0 0 [] (Rw.nil_ w) (okN_len hok))
  obtain ⟨fb, hfb⟩ : ∃ b, b = few2B l [] := ⟨_, rfl⟩
  rw [← hfb] at HFW
  have HFB := Lib.hid hfb
  clear hfb h hok hrt
  cases fb with
  | false =>
    go_enter Try.func4, Try.ntmps4
    go_wp2_with (first
      | (go_at_call 8; (with_reducible refine HFW.out.mono ?_); rintro e w1 ⟨rfl, ho⟩; have HO1 := Lib.hid ho; clear ho)
      | (go_at_call 9; (with_reducible refine (calive_c _).mono ?_); rintro e w9 ⟨rfl, ho⟩; have HOF := Lib.hid (on_new HO1.out ho); clear ho))
    go_ret
    exact ⟨rfl, HOF.out⟩
  | true =>
    have HFF := Lib.hid (few2_few HFB.out.symm)
    have HF := Lib.hid (few_FewN HOK.out HFF.out.1)
    obtain ⟨seg, hseg⟩ : ∃ z, z = (okS (allP l root)).its := ⟨_, rfl⟩
    obtain ⟨ok, hokk⟩ : ∃ b, b = decide ((allP l root).1 = 0) := ⟨_, rfl⟩
    have HSL : Hid (seg.length ≤ 200) := Lib.hid (by rw [hseg]; exact Nat.le_trans okS_sz HFF.out.2.1)
    have HIT : Hid (∀ W, Only (w.heap.size ≤ ·) w W → Calls Try.prog 10 #[.slice A n c, .int .i64 root] W (ItemsSays W seg ok)) := Lib.hid (fun W hW => items_c HM W A n c root l (Rw.later HN.out hW) HF.out HRT.out seg hseg.symm (by have h1 := HSL.out; omega) ok hokk)
    have HSEG := Lib.hid (And.intro hseg hokk)
    clear hseg hokk
    cases ok with
    | false =>
      go_enter Try.func4, Try.ntmps4
      go_wp2_with (first
        | (go_at_call 8; (with_reducible refine HFW.out.mono ?_); rintro e w1 ⟨rfl, ho⟩; have HO1 := Lib.hid ho; clear ho)
        | (go_at_call 10; (with_reducible refine (HIT.out w1 HO1.out).mono ?_); rintro e w2 ⟨⟨IA, ic, rfl, hi⟩, ho⟩; have HI2 := Lib.hid hi; have HO2 := Lib.hid (on_new HO1.out ho); clear hi ho)
        | (go_at_call 12; (with_reducible refine (Source_c w2 A n c).mono ?_); rintro e w3 ⟨⟨bl, rfl, _, hbl⟩, ho⟩; have HBL := Lib.hid hbl; have HO3 := Lib.hid (on_new HO2.out ho); have HI := Lib.hid (Rw.later HI2.out ho); clear hbl ho)
        | (go_at_call 11; (with_reducible refine (CrNew_c w3 26 _ root).mono ?_); rintro e w4 ⟨rfl, hc4, ho⟩; have HC4 := Lib.hid hc4; have HX4 := Lib.hid ho; clear hc4 ho)
        | (go_at_call 9; (with_reducible refine (calive_c w4).mono ?_); rintro e w9 ⟨rfl, ho⟩; have HOF := Lib.hid (on_new (on_new HO3.out HX4.out) ho); clear ho))
      go_ret
      exact ⟨rfl, HOF.out⟩
    | true =>
      obtain ⟨S9, hS9⟩ : ∃ S, allP l root = (0, S) := ⟨(allP l root).2, Prod.ext (of_decide_eq_true HSEG.out.2.symm) rfl⟩
      have hsg : seg = S9.its := by rw [HSEG.out.1, hS9]; rfl
      obtain ⟨hd, hhd⟩ : ∃ z, z = S9.dep := ⟨_, rfl⟩
      have HTR : Hid (∀ (w0 : World) (bl : Nat), Blk w0 bl 22 [.slice A n c] → Nms w0 (.slice A n c) l → Tr (fun _ => False) w0 (.func (.func 26) #[] #[.pointer (some ⟨bl, 0, none⟩)]) (fun lb r => downX l (fun _ => 11) (chE lb) 12 r) (fun key => downX l (fun _ => 11) (chP key) 12 root) False l root hd seg) := Lib.hid (fun w0 bl h1 h2 => by rw [hsg, hhd]; exact mk_tr (fun W hW => h1.later (lat_no hW)) (fun W hW => Rw.later h2 (lat_no hW)) HF.out hS9)
      clear hS9 hsg hhd HSEG
      go_enter Try.func4, Try.ntmps4
      go_upto_region 7 with (first
        | (go_at_call 8; (with_reducible refine HFW.out.mono ?_); rintro e w1 ⟨rfl, ho⟩; have HO1 := Lib.hid ho; clear ho)
        | (go_at_call 10; (with_reducible refine (HIT.out w1 HO1.out).mono ?_); rintro e w2 ⟨⟨IA, ic, rfl, hi⟩, ho⟩; have HI2 := Lib.hid hi; have HO2 := Lib.hid (on_new HO1.out ho); clear hi ho)
        | (go_at_call 12; (with_reducible refine (Source_c w2 A n c).mono ?_); rintro e w3 ⟨⟨bl, rfl, _, hbl⟩, ho⟩; have HBL := Lib.hid hbl; have HO3 := Lib.hid (on_new HO2.out ho); have HI := Lib.hid (Rw.later HI2.out ho); clear hbl ho)
        | (go_at_call 11; (with_reducible refine (CrNew_c w3 26 _ root).mono ?_); rintro e w4 ⟨rfl, hc4, ho⟩; have HC4 := Lib.hid hc4; have HX4 := Lib.hid ho; clear hc4 ho))
      obtain ⟨cb, hcb⟩ : ∃ z, z = w3.heap.size := ⟨_, rfl⟩
      rw [← hcb] at HC4 ⊢
      have HCW : Hid (w3.heap.size ≤ cb ∧ cb < w4.heap.size) := Lib.hid ⟨by omega, HC4.out.lt⟩
      have HT := Lib.hid (HTR.out w3 bl HBL.out (Rw.later HN.out HO3.out))
      clear hcb HTR HBL HIT HFW HFF HF HOK HRT HI2 HO2
      have m0 := HSL.out
      obtain ⟨m, hm⟩ : ∃ z, z = seg.length := ⟨_, rfl⟩
      have HM2 := Lib.hid hm
      rw [← hm] at HI m0 ⊢
      clear hm
      have HFC := Lib.hid (First_c HT.out w4 (lat_of HX4.out _) cb (fun j => j = cb) (fun j hj => by have h1 := HCW.out.2; have h2 : j = cb := hj; omega) rfl HCW.out.1 _ HC4.out)
      go_upto_region 8 with (go_at_call 16; (with_reducible refine HFC.out.mono ?_); rintro e v1 ⟨P1, pn1, pc1, U1, un1, uc1, i21, i31, t1, er1, rfl, ho, hg⟩; have HOC := Lib.hid ho; have HG1 := Lib.hid hg; clear ho hg)
      obtain ⟨y1, hy1⟩ : ∃ W, W = v1.alloc (.cells #[.slice P1 pn1 pc1, .slice U1 un1 uc1, .int .i64 i21, .int .i64 i31] 39) := ⟨_, rfl⟩
      obtain ⟨bx, hbx⟩ : ∃ z, z = v1.heap.size := ⟨_, rfl⟩
      have HW1 : Hid (WRel False l root hd seg (.func (.func 26) #[] #[.pointer (some ⟨bl, 0, none⟩)]) w3 cb bx 0 (.bool t1) y1) := Lib.hid (wrel_first HX4.out HCW.out.1 HCW.out.2 HOC.out HG1.out hy1 hbx)
      rw [← hy1, ← hbx]
      have HCX : Hid (cb < bx) := Lib.hid (by have h1 := HCW.out.2; have h2 := HOC.out.size; omega)
      clear hy1 hbx HG1 HOC HFC HC4 HX4
      go_wp2
      go_loopg [9, 46] m (fun gk hv iv wr => ∃ k : Nat, gk = m - k ∧ k ≤ m ∧ iv = .int .i64 (k : Int) ∧ Hid (WRel False l root hd seg (.func (.func 26) #[] #[.pointer (some ⟨bl, 0, none⟩)]) w3 cb bx (k : Int) hv wr))
      case atStart => exact ⟨0, rfl, Nat.zero_le _, rfl, HW1⟩
      case round =>
        obtain ⟨k, rfl, hk, rfl, HW⟩ := hrel
        obtain ⟨P, pn, pc, U, un, uc, i2, i3, t, er, hhv, hb, hg, hx, hcw, hcb⟩ := HW.out
        subst hhv
        have HBX := Lib.hid hb
        have HXR := Lib.hid hx
        have HG := Lib.hid hg
        clear hb hg hx hcw hcb HW
        by_cases hlt : k < m
        · rcases HG.out with ⟨y, a1, a2, a3, a4, a5, a6, rfl, rfl, a9⟩ | ⟨a1, _⟩
          case inr => exact absurd a1 (by have h1 := HM2.out; rintro (⟨h, _⟩ | ⟨h, _⟩); omega; exact h)
          have hlt' : (k : Int) < (m : Int) := by omega
          have HY : Hid (seg[k]? = some y ∧ Src wr (.slice P pn pc) y.1 ∧ Src wr (.slice U un uc) y.2.1 ∧ i2 = y.2.2.1 ∧ i3 = y.2.2.2) := Lib.hid ⟨by simpa using a2, a3.src, a4.src, a5, a6⟩
          have HCA : Hid (CurAt l root hd seg (.func (.func 26) #[] #[.pointer (some ⟨bl, 0, none⟩)]) (fun j => j = cb ∨ j = bx) w3.heap.size cb wr (some k)) := Lib.hid (by have h9 := a9.step (Only.refl _ wr) (D' := fun j => j = cb ∨ j = bx) (fun j hj => .inl (.inl hj)); rwa [Int.toNat_natCast] at h9)
          clear a1 a2 a3 a4 a5 a6 a9
          obtain ⟨ib, io, P2, t2, p2, Q2, e2, q2, x2, x3, rfl, hKP, hCS⟩ := box_pair HBX.out (Rw.later HI.out HXR.out) hlt HY.out.1 HY.out.2.1 HY.out.2.2.1 HY.out.2.2.2.1 HY.out.2.2.2.2
          have KP := Lib.hid hKP
          have HCS := Lib.hid hCS
          have HDX : Hid (Only (wr.heap.size ≤ ·) wr wr.drew) := Lib.hid (Only.refl _ wr).drew
          have HSX := Lib.hid (KP.out _ HDX.out)
          clear hKP hCS
          go_upto_region 11 with (fail)
          refine wp_region_list (B := [false, false, false, false, false, false, false, false, false, false, false]) (S := (fun W : World => W.cell? ⟨bx, 0, none⟩ = some (.slice P pn pc) ∧ W.cell? ⟨bx, 1, none⟩ = some (.slice U un uc) ∧ W.cell? ⟨bx, 2, none⟩ = some (.int .i64 i2) ∧ W.cell? ⟨bx, 3, none⟩ = some (.int .i64 i3) ∧ W.cell? ⟨ib, io + k * 4, none⟩ = some (.slice P2 t2 p2) ∧ W.cell? ⟨ib, io + k * 4 + 1, none⟩ = some (.slice Q2 e2 q2) ∧ W.cell? ⟨ib, io + k * 4 + 2, none⟩ = some (.int .i64 x2) ∧ W.cell? ⟨ib, io + k * 4 + 3, none⟩ = some (.int .i64 x3))) (by kernel_rfl) (by kernel_rfl) (by kernel_rfl) HSX.out (fun hsel hHeld => ?_)
          generalize hwz : World.drew _ = wd at HDX HSX hHeld ⊢
          clear hwz
          refine oneA 0 49 hsel (h := ?_)
          simp only [Act.put, List.setIfInBounds_toArray, List.set_cons_zero, List.set_cons_succ]
          refine oneA 1 50 hsel (h := ?_)
          simp only [Act.put, List.setIfInBounds_toArray, List.set_cons_zero, List.set_cons_succ]
          refine oneA 2 51 hsel (h := ?_)
          simp only [Act.put, List.setIfInBounds_toArray, List.set_cons_zero, List.set_cons_succ]
          refine oneA 3 52 hsel (h := ?_)
          simp only [Act.put, List.setIfInBounds_toArray, List.set_cons_zero, List.set_cons_succ]
          refine oneA 4 53 hsel (h := ?_)
          simp only [Act.put, List.setIfInBounds_toArray, List.set_cons_zero, List.set_cons_succ]
          refine oneA 5 54 hsel (h := ?_)
          simp only [Act.put, List.setIfInBounds_toArray, List.set_cons_zero, List.set_cons_succ]
          refine oneA 6 55 hsel (h := ?_)
          simp only [Act.put, List.setIfInBounds_toArray, List.set_cons_zero, List.set_cons_succ]
          refine oneA 7 56 hsel (h := ?_)
          simp only [Act.put, List.setIfInBounds_toArray, List.set_cons_zero, List.set_cons_succ]
          refine wpAnyL_ready (rs := [8]) (by kernel_rfl) (by kernel_rfl) (by simp) ?_
          refine AllReadyL.cons (o := ?_) ?_ (fun K hK => ?_) AllReadyL.nil
          case refine_2 => (simp only [List.getElem?_cons_succ, List.getElem?_cons_zero]; rfl)
          go_simp
          (go_at_call 15; (with_reducible refine (HCS.out _ HDX.out).mono ?_); rintro e wv ⟨rfl, ho⟩; have HV := Lib.hid (on_new HDX.out ho); clear ho)
          go_wp2_with (fail)
          clear hHeld
          refine hK.out _ _ (KP.out _ HV.out) (fun hHeld => ?_)
          clear hK K
          try simp only [List.set_cons_zero, List.set_cons_succ]
          refine oneA 9 58 hsel (h := ?_)
          simp only [Act.put, List.setIfInBounds_toArray, List.set_cons_zero, List.set_cons_succ]
          refine oneA 10 59 hsel (h := ?_)
          simp only [Act.put, List.setIfInBounds_toArray, List.set_cons_zero, List.set_cons_succ]
          refine wpAnyL_done (by kernel_rfl) (by kernel_rfl) ?_ _
          clear hsel hHeld
          have HBV := Lib.hid (HBX.out.later HV.out)
          have HCV : Hid (CurAt l root hd seg (.func (.func 26) #[] #[.pointer (some ⟨bl, 0, none⟩)]) (fun j => j = cb ∨ j = bx) w3.heap.size cb wv (some k)) := Lib.hid (HCA.out.step (HV.out.mono fun j hj => .inr hj) fun j hj => .inl hj)
          have HXV := Lib.hid (on_new HXR.out HV.out)
          have HNX := Lib.hid (Next_c HT.out wv (lat_of HXV.out _) cb (fun j => j = cb ∨ j = bx) (fun j hj => by have h1 := HBV.out.lt; have h2 := HCX.out; omega) (.inl rfl) HCW.out.1 _ HCV.out)
          obtain ⟨r0, r1, r2, r3⟩ := HBV.out.four
          go_wp2_with (go_at_call 17; (with_reducible refine HNX.out.mono ?_); rintro e w5 ⟨P5, pn5, pc5, U5, un5, uc5, i25, i35, t5, er5, rfl, ho5, hg5⟩; have HO5 := Lib.hid ho5; have HG5 := Lib.hid hg5; (have HB5 : Hid (Blk w5 bx 39 [.slice P pn pc, .slice U un uc, .int .i64 i2, .int .i64 i3]) := Lib.hid (HBV.out.only HO5.out (fun e => by have h2 := HCX.out; rcases e with e | e; omega; exact e.2 (.inr rfl)))); (obtain ⟨q0, q1, q2', q3⟩ := HB5.out.four); have f0 := HB5.out.frozen 0; have f1 := HB5.out.frozen 1; have f2 := HB5.out.frozen 2; have f3 := HB5.out.frozen 3; clear ho5 hg5 r0 r1 r2 r3)
          have hk := it_set (a' := .slice P5 pn5 pc5) (b' := .slice U5 un5 uc5) (c' := .int .i64 i25) (d' := .int .i64 i35) HB5.out
          have HWN := Lib.hid (wrel_next HXV.out HCW.out.1 HCX.out HBV.out.lt HO5.out HG5.out hk.1 hk.2)
          go_roundg (m - (k + 1))
          case measure => omega
          case rel => exact ⟨k + 1, rfl, by omega, by go_num, Lib.hid (by have h9 := HWN.out; rw [show nxtP (some k) = ((k + 1 : Nat) : Int) from by show ((k : Int) + 1) = _; omega] at h9; exact h9)⟩
        · obtain rfl : m = k := by omega
          rcases HG.out with ⟨y, a1, a2, _⟩ | ⟨a1, a2, a3, a4, a5, a6, a7, a8, a9, rfl, a11⟩
          case inl => exact absurd (List.getElem?_eq_some_iff.1 a2).1 (by have h1 := HM2.out; omega)
          clear a1 a2 a3 a4 a5 a6 a7 a8 a9
          have HCA := Lib.hid (a11 : Blk wr cb 75 [(.func (.func 26) #[] #[.pointer (some ⟨bl, 0, none⟩)]), .int .i64 root, .slice none 0 0])
          clear a11
          have hkm : ¬ (m : Int) < (m : Int) := by omega
          have HNX := Lib.hid (Last_c HT.out wr (lat_of HXR.out _) cb (fun j => j = cb ∨ j = bx) (fun j hj => by have h1 := HBX.out.lt; have h2 := HCX.out; omega) (.inl rfl) HCW.out.1 _ HCA.out)
          obtain ⟨m1, hm1⟩ : ∃ z : Int, z = (m : Int) - 1 := ⟨_, rfl⟩
          have c1 : wrap64 ((m : Int) - 1) = m1 := by rw [IntWalk.wrap64_in _ (by omega)]; omega
          have HM1 := Lib.hid hm1
          clear hm1
          go_wp2_with (go_at_call 18; (with_reducible refine HNX.out.mono ?_); rintro e w5 ⟨P5, pn5, pc5, U5, un5, uc5, i25, i35, t5, er5, rfl, ho5, hg5⟩; have HO5 := Lib.hid ho5; have HG5 := Lib.hid hg5; (have HB5 : Hid (Blk w5 bx 39 [.slice P pn pc, .slice U un uc, .int .i64 i2, .int .i64 i3]) := Lib.hid (HBX.out.only HO5.out (fun e => by have h2 := HCX.out; rcases e with e | e; omega; exact e.2 (.inr rfl)))); (obtain ⟨q0, q1, q2', q3⟩ := HB5.out.four); have f0 := HB5.out.frozen 0; have f1 := HB5.out.frozen 1; have f2 := HB5.out.frozen 2; have f3 := HB5.out.frozen 3; clear ho5 hg5)
          have hk := it_set (a' := .slice P5 pn5 pc5) (b' := .slice U5 un5 uc5) (c' := .int .i64 i25) (d' := .int .i64 i35) HB5.out
          have HWN := Lib.hid (wrel_next HXR.out HCW.out.1 HCX.out HBX.out.lt HO5.out HG5.out hk.1 hk.2)
          obtain ⟨w6, hw6⟩ : ∃ W, W = (((w5.setCell ⟨bx, 0, none⟩ (.slice P5 pn5 pc5)).setCell ⟨bx, 1, none⟩ (.slice U5 un5 uc5)).setCell ⟨bx, 2, none⟩ (.int .i64 i25)).setCell ⟨bx, 3, none⟩ (.int .i64 i35) := ⟨_, rfl⟩
          rw [← hw6] at HWN ⊢
          clear hk hw6 q0 q1 q2' q3 f0 f1 f2 f3 HB5 HG5 HO5 HNX HCA HG HXR HBX
          go_loopg [9, 12] m (fun gk hv jv wr => ∃ (j : Int) (n1 : Int), gk = (j + 1).toNat ∧ jv = .int .i64 j ∧ Hid (-1 ≤ j ∧ j < m ∧ (n1 = j ∨ m = 0 ∧ n1 = 0)) ∧ Hid (WRel False l root hd seg (.func (.func 26) #[] #[.pointer (some ⟨bl, 0, none⟩)]) w3 cb bx n1 hv wr))
          case atStart => exact ⟨m1, ((seg.length - 1 : Nat) : Int), by have h1 := HM1.out; omega, (by first | rfl | rw [HM1.out]), Lib.hid (by have h1 := HM1.out; have h2 := HM2.out; omega), HWN⟩
          case round =>
            obtain ⟨j, n1, rfl, rfl, HJ, HW⟩ := hrel
            obtain ⟨P, pn, pc, U, un, uc, i2, i3, t, er, hhv, hb, hg, hx, hcw, hcb⟩ := HW.out
            subst hhv
            have HBX := Lib.hid hb
            have HXR := Lib.hid hx
            have HG := Lib.hid hg
            clear hb hg hx hcw hcb HW c1
            by_cases hj0 : 0 ≤ j
            · obtain ⟨k, rfl⟩ : ∃ k : Nat, j = (k : Int) := ⟨j.toNat, by omega⟩
              obtain rfl : n1 = (k : Int) := by have h1 := HJ.out; omega
              have hlt : k < m := by have h1 := HJ.out; omega
              rcases HG.out with ⟨y, a1, a2, a3, a4, a5, a6, rfl, rfl, a9⟩ | ⟨a1, _⟩
              case inr => exact absurd a1 (by have h1 := HM2.out; rintro (⟨h, _⟩ | ⟨h, _⟩); omega; exact h)
              have HY : Hid (seg[k]? = some y ∧ Src wr (.slice P pn pc) y.1 ∧ Src wr (.slice U un uc) y.2.1 ∧ i2 = y.2.2.1 ∧ i3 = y.2.2.2) := Lib.hid ⟨by simpa using a2, a3.src, a4.src, a5, a6⟩
              have HCA : Hid (CurAt l root hd seg (.func (.func 26) #[] #[.pointer (some ⟨bl, 0, none⟩)]) (fun j => j = cb ∨ j = bx) w3.heap.size cb wr (some k)) := Lib.hid (by have h9 := a9.step (Only.refl _ wr) (D' := fun j => j = cb ∨ j = bx) (fun j hj => .inl (.inl hj)); rwa [Int.toNat_natCast] at h9)
              clear a1 a2 a3 a4 a5 a6 a9
              have hj1 : (0 : Int) ≤ (k : Int) := hj0
              have c2 : wrap64 ((k : Int) - 1) = (k : Int) - 1 := IntWalk.wrap64_in _ (by omega)
              obtain ⟨ib, io, P2, t2, p2, Q2, e2, q2, x2, x3, rfl, hKP, hCS⟩ := box_pair HBX.out (Rw.later HI.out HXR.out) hlt HY.out.1 HY.out.2.1 HY.out.2.2.1 HY.out.2.2.2.1 HY.out.2.2.2.2
              have KP := Lib.hid hKP
              have HCS := Lib.hid hCS
              have HDX : Hid (Only (wr.heap.size ≤ ·) wr wr.drew) := Lib.hid (Only.refl _ wr).drew
              have HSX := Lib.hid (KP.out _ HDX.out)
              clear hKP hCS
              go_upto_region 21 with (fail)
              refine wp_region_list (B := [false, false, false, false, false, false, false, false, false, false, false]) (S := (fun W : World => W.cell? ⟨bx, 0, none⟩ = some (.slice P pn pc) ∧ W.cell? ⟨bx, 1, none⟩ = some (.slice U un uc) ∧ W.cell? ⟨bx, 2, none⟩ = some (.int .i64 i2) ∧ W.cell? ⟨bx, 3, none⟩ = some (.int .i64 i3) ∧ W.cell? ⟨ib, io + k * 4, none⟩ = some (.slice P2 t2 p2) ∧ W.cell? ⟨ib, io + k * 4 + 1, none⟩ = some (.slice Q2 e2 q2) ∧ W.cell? ⟨ib, io + k * 4 + 2, none⟩ = some (.int .i64 x2) ∧ W.cell? ⟨ib, io + k * 4 + 3, none⟩ = some (.int .i64 x3))) (by kernel_rfl) (by kernel_rfl) (by kernel_rfl) HSX.out (fun hsel hHeld => ?_)
              generalize hwz : World.drew _ = wd at HDX HSX hHeld ⊢
              clear hwz
              refine oneA 0 81 hsel (h := ?_)
              simp only [Act.put, List.setIfInBounds_toArray, List.set_cons_zero, List.set_cons_succ]
              refine oneA 1 82 hsel (h := ?_)
              simp only [Act.put, List.setIfInBounds_toArray, List.set_cons_zero, List.set_cons_succ]
              refine oneA 2 83 hsel (h := ?_)
              simp only [Act.put, List.setIfInBounds_toArray, List.set_cons_zero, List.set_cons_succ]
              refine oneA 3 84 hsel (h := ?_)
              simp only [Act.put, List.setIfInBounds_toArray, List.set_cons_zero, List.set_cons_succ]
              refine oneA 4 85 hsel (h := ?_)
              simp only [Act.put, List.setIfInBounds_toArray, List.set_cons_zero, List.set_cons_succ]
              refine oneA 5 86 hsel (h := ?_)
              simp only [Act.put, List.setIfInBounds_toArray, List.set_cons_zero, List.set_cons_succ]
              refine oneA 6 87 hsel (h := ?_)
              simp only [Act.put, List.setIfInBounds_toArray, List.set_cons_zero, List.set_cons_succ]
              refine oneA 7 88 hsel (h := ?_)
              simp only [Act.put, List.setIfInBounds_toArray, List.set_cons_zero, List.set_cons_succ]
              refine wpAnyL_ready (rs := [8]) (by kernel_rfl) (by kernel_rfl) (by simp) ?_
              refine AllReadyL.cons (o := ?_) ?_ (fun K hK => ?_) AllReadyL.nil
              case refine_2 => (simp only [List.getElem?_cons_succ, List.getElem?_cons_zero]; rfl)
              go_simp
              (go_at_call 15; (with_reducible refine (HCS.out _ HDX.out).mono ?_); rintro e wv ⟨rfl, ho⟩; have HV := Lib.hid (on_new HDX.out ho); clear ho)
              go_wp2_with (fail)
              clear hHeld
              refine hK.out _ _ (KP.out _ HV.out) (fun hHeld => ?_)
              clear hK K
              try simp only [List.set_cons_zero, List.set_cons_succ]
              refine oneA 9 90 hsel (h := ?_)
              simp only [Act.put, List.setIfInBounds_toArray, List.set_cons_zero, List.set_cons_succ]
              refine oneA 10 91 hsel (h := ?_)
              simp only [Act.put, List.setIfInBounds_toArray, List.set_cons_zero, List.set_cons_succ]
              refine wpAnyL_done (by kernel_rfl) (by kernel_rfl) ?_ _
              clear hsel hHeld
              have HBV := Lib.hid (HBX.out.later HV.out)
              have HCV : Hid (CurAt l root hd seg (.func (.func 26) #[] #[.pointer (some ⟨bl, 0, none⟩)]) (fun j => j = cb ∨ j = bx) w3.heap.size cb wv (some k)) := Lib.hid (HCA.out.step (HV.out.mono fun j hj => .inr hj) fun j hj => .inl hj)
              have HXV := Lib.hid (on_new HXR.out HV.out)
              have HNX := Lib.hid (Prev_c HT.out wv (lat_of HXV.out _) cb (fun j => j = cb ∨ j = bx) (fun j hj => by have h1 := HBV.out.lt; have h2 := HCX.out; omega) (.inl rfl) HCW.out.1 _ HCV.out)
              obtain ⟨r0, r1, r2, r3⟩ := HBV.out.four
              go_wp2_with (go_at_call 19; (with_reducible refine HNX.out.mono ?_); rintro e w5 ⟨P5, pn5, pc5, U5, un5, uc5, i25, i35, t5, er5, rfl, ho5, hg5⟩; have HO5 := Lib.hid ho5; have HG5 := Lib.hid hg5; (have HB5 : Hid (Blk w5 bx 39 [.slice P pn pc, .slice U un uc, .int .i64 i2, .int .i64 i3]) := Lib.hid (HBV.out.only HO5.out (fun e => by have h2 := HCX.out; rcases e with e | e; omega; exact e.2 (.inr rfl)))); (obtain ⟨q0, q1, q2', q3⟩ := HB5.out.four); have f0 := HB5.out.frozen 0; have f1 := HB5.out.frozen 1; have f2 := HB5.out.frozen 2; have f3 := HB5.out.frozen 3; clear ho5 hg5 r0 r1 r2 r3)
              have hk := it_set (a' := .slice P5 pn5 pc5) (b' := .slice U5 un5 uc5) (c' := .int .i64 i25) (d' := .int .i64 i35) HB5.out
              have HWN := Lib.hid (wrel_next HXV.out HCW.out.1 HCX.out HBV.out.lt HO5.out HG5.out hk.1 hk.2)
              go_roundg (((k : Int) - 1) + 1).toNat
              case measure => omega
              case rel => exact ⟨(k : Int) - 1, (k : Int) + -1, rfl, (by first | rfl | rw [c2]), Lib.hid (by have h1 := HJ.out; omega), HWN⟩
            · have hj1 : ¬ (0 : Int) ≤ j := hj0
              rcases HG.out with ⟨y, a1, a2, _⟩ | ⟨a1, a2, a3, a4, a5, a6, a7, a8, a9, rfl, a11⟩
              case inl =>
                exfalso
                have h1 := HJ.out
                have h2 := (List.getElem?_eq_some_iff.1 a2).1
                have h3 := HM2.out
                omega
              clear a1 a2 a3 a4 a5 a6 a7 a8 a9 a11
              have HXF := Lib.hid (on_new HO3.out HXR.out)
              go_wp2_with (go_at_call 9; (with_reducible refine (calive_c _).mono ?_); rintro e w9 ⟨rfl, ho⟩; have HOF := Lib.hid (on_new HXF.out ho); clear ho)
              go_ret
              exact ⟨rfl, HOF.out⟩
end Go.Proofs.Ytnjhpjpeeehagaa
