/-
  CursorAll.
-/
import Derived.Test.YtnjhpjpeeehagaaGf
set_option linter.unusedVariables false
namespace Go.Proofs.Ytnjhpjpeeehagaa
open Go.RowKit

set_option maxRecDepth 100000 in
set_option maxHeartbeats 51200000 in
theorem all15_walk (HM : MeetC) (w : World) (A : Option Addr) (n c : Nat) (root : Int) (l : List Nm) (h : Nms w (.slice A n c) l) (hok : ∀ x ∈ l, OkN x) (hrt : -9223372036854775808 ≤ root ∧ root ≤ 9223372036854775807) (B : Option Addr) (m d : Nat) (s : List Opp) (hs : Ops w (.slice B m d) s) :
    Calls Try.prog 3 #[.slice A n c, .int .i64 root, .slice B m d] w (Told w (.bool true)) := by
  have HN := Lib.hid h
  have HOK := Lib.hid hok
  have HRT : Hid ((Lit.int .i64 root).wf = true) := Lib.hid (by simp [Lit.wf, IntKind.min, IntKind.max, IntKind.signed, IntKind.bits]; omega)
  have HFW := Lib.hid (few2_w w A n c l h B m d s hs (okN_len hok))
  obtain ⟨fb, hfb⟩ : ∃ b, b = few2B l s := ⟨_, rfl⟩
  rw [← hfb] at HFW
  have HFB := Lib.hid hfb
  have HS := Lib.hid hs
  have hmc := hs.cap
  clear hfb h hok hrt hs
  cases fb with
  | false =>
    go_enter Try.func3, Try.ntmps3
    go_wp2_with (first
      | (go_at_call 8; (with_reducible refine HFW.out.mono ?_); rintro e w1 ⟨rfl, ho⟩; have HO1 := Lib.hid ho; clear ho)
      | (go_at_call 9; (with_reducible refine (calive_c _).mono ?_); rintro e w9 ⟨rfl, ho⟩; have HOF := Lib.hid (on_new HO1.out ho); clear ho))
    go_ret
    exact ⟨rfl, HOF.out⟩
  | true =>
    have HFF := Lib.hid (few2_few HFB.out.symm)
    have HF := Lib.hid (few_FewN HOK.out HFF.out.1)
    obtain ⟨seg, hseg⟩ : ∃ z, z = (okS (allP l root)).its := ⟨_, rfl⟩
    obtain ⟨ok, hokk⟩ : ∃ b, b = decide ((allP l root).1 = 0) := ⟨_, rfl⟩
    have HSL : Hid (seg.length ≤ 200) := Lib.hid (by rw [hseg]; exact Nat.le_trans okS_sz HFF.out.2.1)
    have HIT : Hid (∀ W, Only (w.heap.size ≤ ·) w W → Calls Try.prog 10 #[.slice A n c, .int .i64 root] W (ItemsSays W seg ok)) := Lib.hid (fun W hW => items_c HM W A n c root l (Rw.later HN.out hW) HF.out HRT.out seg hseg.symm (by have h1 := HSL.out; omega) ok hokk)
    have HSEG := Lib.hid (And.intro hseg hokk)
    clear hseg hokk
    cases ok with
    | false =>
      go_enter Try.func3, Try.ntmps3
      go_wp2_with (first
        | (go_at_call 8; (with_reducible refine HFW.out.mono ?_); rintro e w1 ⟨rfl, ho⟩; have HO1 := Lib.hid ho; clear ho)
        | (go_at_call 10; (with_reducible refine (HIT.out w1 HO1.out).mono ?_); rintro e w2 ⟨⟨IA, ic, rfl, hi⟩, ho⟩; have HI2 := Lib.hid hi; have HO2 := Lib.hid (on_new HO1.out ho); clear hi ho)
        | (go_at_call 12; (with_reducible refine (Source_c w2 A n c).mono ?_); rintro e w3 ⟨⟨bl, rfl, _, hbl⟩, ho⟩; have HBL := Lib.hid hbl; have HO3 := Lib.hid (on_new HO2.out ho); have HI := Lib.hid (Rw.later HI2.out ho); clear hbl ho)
        | (go_at_call 11; (with_reducible refine (CrNew_c w3 26 _ root).mono ?_); rintro e w4 ⟨rfl, hc4, ho⟩; have HC4 := Lib.hid hc4; have HX4 := Lib.hid ho; clear hc4 ho)
        | (go_at_call 9; (with_reducible refine (calive_c w4).mono ?_); rintro e w9 ⟨rfl, ho⟩; have HOF := Lib.hid (on_new (on_new HO3.out HX4.out) ho); clear ho))
      go_ret
      exact ⟨rfl, HOF.out⟩
    | true =>
      obtain ⟨S9, hS9⟩ : ∃ S, allP l root = (0, S) := ⟨(allP l root).2, Prod.ext (of_decide_eq_true HSEG.out.2.symm) rfl⟩
      have hsg : seg = S9.its := by rw [HSEG.out.1, hS9]; rfl
      obtain ⟨hd, hhd⟩ : ∃ z, z = S9.dep := ⟨_, rfl⟩
      have HTR : Hid (∀ (w0 : World) (bl : Nat), Blk w0 bl 22 [.slice A n c] → Nms w0 (.slice A n c) l → Tr (fun _ => False) w0 (.func (.func 26) #[] #[.pointer (some ⟨bl, 0, none⟩)]) (fun lb r => downX l (fun _ => 11) (chE lb) 12 r) (fun key => downX l (fun _ => 11) (chP key) 12 root) False l root hd seg) := Lib.hid (fun w0 bl h1 h2 => by rw [hsg, hhd]; exact mk_tr (fun W hW => h1.later (lat_no hW)) (fun W hW => Rw.later h2 (lat_no hW)) HF.out hS9)
      clear hS9 hsg hhd HSEG
      go_enter Try.func3, Try.ntmps3
      go_upto_region 7 with (first
        | (go_at_call 8; (with_reducible refine HFW.out.mono ?_); rintro e w1 ⟨rfl, ho⟩; have HO1 := Lib.hid ho; clear ho)
        | (go_at_call 10; (with_reducible refine (HIT.out w1 HO1.out).mono ?_); rintro e w2 ⟨⟨IA, ic, rfl, hi⟩, ho⟩; have HI2 := Lib.hid hi; have HO2 := Lib.hid (on_new HO1.out ho); clear hi ho)
        | (go_at_call 12; (with_reducible refine (Source_c w2 A n c).mono ?_); rintro e w3 ⟨⟨bl, rfl, _, hbl⟩, ho⟩; have HBL := Lib.hid hbl; have HO3 := Lib.hid (on_new HO2.out ho); have HI := Lib.hid (Rw.later HI2.out ho); clear hbl ho)
        | (go_at_call 11; (with_reducible refine (CrNew_c w3 26 _ root).mono ?_); rintro e w4 ⟨rfl, hc4, ho⟩; have HC4 := Lib.hid hc4; have HX4 := Lib.hid ho; clear hc4 ho))
      obtain ⟨cb, hcb⟩ : ∃ z, z = w3.heap.size := ⟨_, rfl⟩
      rw [← hcb] at HC4 ⊢
      have HCW : Hid (w3.heap.size ≤ cb ∧ cb < w4.heap.size) := Lib.hid ⟨by omega, HC4.out.lt⟩
      have HT := Lib.hid (HTR.out w3 bl HBL.out (Rw.later HN.out HO3.out))
      clear hcb HTR HBL HIT HFW HFF HF HOK HRT HI2 HO2
      have m0 := HSL.out
      obtain ⟨sl, hsl⟩ : ∃ z, z = seg.length := ⟨_, rfl⟩
      have HM2 := Lib.hid hsl
      rw [← hsl] at HI m0 ⊢
      clear hsl
      have HSRT := Lib.hid HT.out.srt
      have HC0 : Hid (CurAt l root hd seg (.func (.func 26) #[] #[.pointer (some ⟨bl, 0, none⟩)]) (fun j => j = cb) w3.heap.size cb w4 none) := Lib.hid HC4.out
      go_upto_region 8 with (fail)
      go_wp2
      go_loopg [10, 44] m (fun gk av iv wr => ∃ (k : Nat) (o : Option Nat), gk = m - k ∧ k ≤ m ∧ av = .int .i64 (placeI o) ∧ iv = .int .i64 (k : Int) ∧ Hid (CurAt l root hd seg (.func (.func 26) #[] #[.pointer (some ⟨bl, 0, none⟩)]) (fun j => j = cb) w3.heap.size cb wr o) ∧ Hid (∀ q, o = some q → q < seg.length) ∧ Hid (Only (w3.heap.size ≤ ·) w3 wr) ∧ Hid (cb < wr.heap.size))
      case atStart => exact ⟨0, none, rfl, Nat.zero_le _, rfl, rfl, HC0, Lib.hid (fun q h => nomatch h), HX4, Lib.hid HCW.out.2⟩
      case round =>
        obtain ⟨k, o, rfl, hk, rfl, rfl, HCA, HQ, HX, HCL⟩ := hrel
        obtain ⟨pl, hpl⟩ : ∃ z, z = placeI o := ⟨_, rfl⟩
        have HPL := Lib.hid hpl
        rw [← hpl]
        clear hpl
        by_cases hlt : k < m
        · obtain ⟨ob, oo, x, KP, kp, rfl, hx, q0, q1, hsr⟩ := op_at (Rw.later HS.out (on_new HO3.out HX.out)) hlt
          have hlt' : (k : Int) < (m : Int) := by omega
          have HSR := Lib.hid hsr
          obtain ⟨kl, hkl⟩ : ∃ z, z = x.2.length := ⟨_, rfl⟩
          obtain ⟨xk, hxk⟩ : ∃ z, z = x.1 := ⟨_, rfl⟩
          rw [← hkl] at q1 HSR
          rw [← hxk] at q0
          obtain ⟨y2, hy2⟩ : ∃ W, W = wr.alloc (.cells #[.int .i64 xk, .slice KP kl kp] 36) := ⟨_, rfl⟩
          obtain ⟨b12, hb12⟩ : ∃ z, z = wr.heap.size := ⟨_, rfl⟩
          have HO2 : Hid (Only (wr.heap.size ≤ ·) wr y2) := Lib.hid (by rw [hy2]; exact (Only.refl _ wr).alloc (fun _ h => h) _)
          have HB12 : Hid (Blk y2 b12 36 [.int .i64 xk, .slice KP kl kp]) := Lib.hid (by rw [hy2, hb12]; exact Blk.new wr _ _)
          have HE2 := Lib.hid (And.intro hy2 hb12)
          have HX2 := Lib.hid (on_new HX.out HO2.out)
          have HC2 := Lib.hid (HCA.out.step (HO2.out.mono fun j hj => .inr hj) (D' := fun j => j = cb) fun j hj => .inl hj)
          clear hx hsr hkl hxk hy2 hb12
          go_upto_region 11 with (fail)
          rw [← HE2.out.1, ← HE2.out.2]
          clear HE2 q0 q1
          obtain ⟨q0, q1⟩ := HB12.out.pair
          by_cases hk0 : xk < 0
          · go_wp2
            go_roundg (m - (k + 1))
            case measure => omega
            case rel => exact ⟨k + 1, o, rfl, by omega, (by rw [HPL.out]), by go_num, HC2, HQ, HX2, Lib.hid (Nat.lt_of_lt_of_le HCL.out HO2.out.size)⟩
          by_cases hk4 : 4 < xk
          · go_wp2
            go_roundg (m - (k + 1))
            case measure => omega
            case rel => exact ⟨k + 1, o, rfl, by omega, (by rw [HPL.out]), by go_num, HC2, HQ, HX2, Lib.hid (Nat.lt_of_lt_of_le HCL.out HO2.out.size)⟩
          obtain ⟨n9, hn9⟩ : ∃ z, z = goTo seg o xk x.2 := ⟨_, rfl⟩
          have HDO := Lib.hid (do_any y2 IA sl ic seg (Rw.later HI.out HX2.out) (by omega) HSRT.out o HQ.out xk (by omega) (by omega) KP kl kp x.2 (HSR.out.later HO2.out))
          rw [← HPL.out, ← hn9] at HDO
          obtain ⟨p9, hp9⟩ : ∃ z, z = placeI (normP seg n9) := ⟨_, rfl⟩
          rw [← hp9] at HDO
          have HN9 := Lib.hid (And.intro hn9 hp9)
          have HDS : Hid (∀ W, Only (y2.heap.size ≤ ·) y2 W → Calls Try.prog 14 #[.pointer (some ⟨cb, 0, none⟩), .agg #[.int .i64 xk, .slice KP kl kp]] W (GotSays False l root hd seg (.func (.func 26) #[] #[.pointer (some ⟨bl, 0, none⟩)]) (fun j => j = cb) w3.heap.size cb (fun j => j = cb ∨ (w3.heap.size ≤ j ∧ ¬ j = cb)) W n9)) := Lib.hid (fun W hW => by
            rw [hn9]
            exact does_c HT.out W (lat_of (on_new HX2.out hW) _) cb (fun j => j = cb) (fun j hj => by have h1 := HCL.out; have h2 := HO2.out.size; have h3 := hW.size; have h4 : j = cb := hj; omega) rfl HCW.out.1 o (HC2.out.step (hW.mono fun j hj => .inr hj) fun j hj => .inl hj) xk KP kl kp x.2 ((HSR.out.later HO2.out).later hW))
          clear hn9 hp9
          have hnk0 : ¬ xk < 0 := hk0
          have hnk4 : ¬ (4 : Int) < xk := hk4
          go_upto_region 14 with (first
            | (go_at_call 13; (with_reducible refine HDO.out.mono ?_); rintro e y3 ⟨rfl, ho⟩; have HO3' := Lib.hid ho; (obtain ⟨q0, q1⟩ := (HB12.out.later ho).pair); clear ho)
            | (go_at_call 14; (with_reducible refine (HDS.out y3 HO3'.out).mono ?_); rintro e v5 ⟨P, pn, pc, U, un, uc, i2, i3, t, er, rfl, ho, hg⟩; have HOC := Lib.hid ho; have HG := Lib.hid hg; clear ho hg))
          clear q0 q1 hk0 hk4 hnk0 hnk4
          obtain ⟨wy, hwy⟩ : ∃ W, W = v5.alloc (.cells #[.slice P pn pc, .slice U un uc, .int .i64 i2, .int .i64 i3] 39) := ⟨_, rfl⟩
          obtain ⟨bx, hbx⟩ : ∃ z, z = v5.heap.size := ⟨_, rfl⟩
          have HON : Hid (Only (v5.heap.size ≤ ·) v5 wy) := Lib.hid (by rw [hwy]; exact (Only.refl _ v5).alloc (fun _ h => h) _)
          have HBX : Hid (Blk wy bx 39 [.slice P pn pc, .slice U un uc, .int .i64 i2, .int .i64 i3]) := Lib.hid (by rw [hwy, hbx]; exact Blk.new v5 _ _)
          rw [← hwy, ← hbx]
          clear hwy hbx
          have HXY : Hid (Only (w3.heap.size ≤ ·) w3 wy) := Lib.hid (on_new ((on_new HX2.out HO3'.out).trans (HOC.out.mono fun j hj => by have h1 := HCW.out.1; rcases hj with hj | hj; omega; exact hj.1)) HON.out)
          have HCL3 : Hid (cb < y3.heap.size) := Lib.hid (by have h1 := HCL.out; have h2 := HO2.out.size; have h3 := HO3'.out.size; omega)
          have HGY := Lib.hid (HG.out.step (D' := fun j => j = cb) (HON.out.mono fun j hj => .inr hj) (fun j hj => .inl hj) (fun j hj => by have h1 := HCL3.out; have h2 : j = cb := hj; omega) (Nat.le_refl _))
          have HCL4 : Hid (cb < wy.heap.size) := Lib.hid (by have h1 := HCL3.out; have h2 := HOC.out.size; have h3 := HON.out.size; omega)
          clear HG HDO HDS HC2 HCA
          rcases HGY.out with ⟨y, a1, a2, a3, a4, a5, a6, rfl, rfl, a9⟩ | ⟨a1, a2, a3, _, _, _, _, _, _, rfl, a11⟩
          · obtain ⟨q, hq⟩ : ∃ q : Nat, n9 = (q : Int) := ⟨n9.toNat, by omega⟩
            have a2' : seg[q]? = some y := by rw [hq] at a2; simpa using a2
            have hql := (List.getElem?_eq_some_iff.1 a2').1
            have hp9 : p9 = (q : Int) := by rw [HN9.out.2, hq]; exact norm_in (by omega) (by omega)
            subst hp9
            have HY : Hid (seg[q]? = some y ∧ Src wy (.slice P pn pc) y.1 ∧ Src wy (.slice U un uc) y.2.1 ∧ i2 = y.2.2.1 ∧ i3 = y.2.2.2) := Lib.hid ⟨a2', a3.src, a4.src, a5, a6⟩
            have HCN : Hid (CurAt l root hd seg (.func (.func 26) #[] #[.pointer (some ⟨bl, 0, none⟩)]) (fun j => j = cb) w3.heap.size cb wy (some q)) := Lib.hid (by have h9 := a9.step (Only.refl _ wy) (D' := fun j => j = cb) (fun j hj => .inl (.inl hj)); rw [hq, Int.toNat_natCast] at h9; exact h9)
            have hqs : q < sl := by have h1 := HM2.out; omega
            have HQL := Lib.hid hql
            clear a1 a2 a2' a3 a4 a5 a6 a9 hq hql
            obtain ⟨ib, io, P2, t2, p2, Q2, e2, q2, x2, x3, hIA, hKP, hCS⟩ := box_pair HBX.out (Rw.later HI.out HXY.out) hqs HY.out.1 HY.out.2.1 HY.out.2.2.1 HY.out.2.2.2.1 HY.out.2.2.2.2
            subst hIA
            have KP := Lib.hid hKP
            have HCS := Lib.hid hCS
            have HDX : Hid (Only (wy.heap.size ≤ ·) wy wy.drew) := Lib.hid (Only.refl _ wy).drew
            have HSX := Lib.hid (KP.out _ HDX.out)
            have hge : (0 : Int) ≤ (q : Int) := by omega
            clear hKP hCS
            refine wp_region_list (B := [false, false, false, false, false, false, false, false, false, false, false, false, false, false, false, false, false, false, false, false, false, false, false, false, false, false, false, false, false, false]) (S := (fun W : World => W.cell? ⟨bx, 0, none⟩ = some (.slice P pn pc) ∧ W.cell? ⟨bx, 1, none⟩ = some (.slice U un uc) ∧ W.cell? ⟨bx, 2, none⟩ = some (.int .i64 i2) ∧ W.cell? ⟨bx, 3, none⟩ = some (.int .i64 i3) ∧ W.cell? ⟨ib, io + q * 4, none⟩ = some (.slice P2 t2 p2) ∧ W.cell? ⟨ib, io + q * 4 + 1, none⟩ = some (.slice Q2 e2 q2) ∧ W.cell? ⟨ib, io + q * 4 + 2, none⟩ = some (.int .i64 x2) ∧ W.cell? ⟨ib, io + q * 4 + 3, none⟩ = some (.int .i64 x3))) (by kernel_rfl) (by kernel_rfl) (by kernel_rfl) HSX.out (fun hsel hHeld => ?_)
            generalize hwz : World.drew _ = wd at HDX HSX hHeld ⊢
            clear hwz
            refine oneA 0 67 hsel (h := ?_)
            simp only [Act.put, List.setIfInBounds_toArray, List.set_cons_zero, List.set_cons_succ]
            refine oneA 1 68 hsel (h := ?_)
            simp only [Act.put, List.setIfInBounds_toArray, List.set_cons_zero, List.set_cons_succ]
            refine oneA 2 69 hsel (h := ?_)
            simp only [Act.put, List.setIfInBounds_toArray, List.set_cons_zero, List.set_cons_succ]
            refine oneA 3 70 hsel (h := ?_)
            simp only [Act.put, List.setIfInBounds_toArray, List.set_cons_zero, List.set_cons_succ]
            refine oneA 4 71 hsel (h := ?_)
            simp only [Act.put, List.setIfInBounds_toArray, List.set_cons_zero, List.set_cons_succ]
            refine oneA 5 72 hsel (h := ?_)
            simp only [Act.put, List.setIfInBounds_toArray, List.set_cons_zero, List.set_cons_succ]
            refine oneA 6 73 hsel (h := ?_)
            simp only [Act.put, List.setIfInBounds_toArray, List.set_cons_zero, List.set_cons_succ]
            refine oneA 7 74 hsel (h := ?_)
            simp only [Act.put, List.setIfInBounds_toArray, List.set_cons_zero, List.set_cons_succ]
            refine oneA 8 75 hsel (h := ?_)
            simp only [Act.put, List.setIfInBounds_toArray, List.set_cons_zero, List.set_cons_succ]
            refine oneA 9 76 hsel (h := ?_)
            simp only [Act.put, List.setIfInBounds_toArray, List.set_cons_zero, List.set_cons_succ]
            refine oneA 10 77 hsel (h := ?_)
            simp only [Act.put, List.setIfInBounds_toArray, List.set_cons_zero, List.set_cons_succ]
            refine oneA 11 78 hsel (h := ?_)
            simp only [Act.put, List.setIfInBounds_toArray, List.set_cons_zero, List.set_cons_succ]
            refine take_skipL (i := 12) (d := 79) (oi := ?_) ?_ hsel (by kernel_rfl) (by kernel_rfl) (fun _ _ _ h => h) ?_ ?_ (by assumption) ?_
            case refine_2 => (simp only [List.getElem?_cons_succ, List.getElem?_cons_zero]; rfl)
            case refine_3 => rfl
            case refine_4 => rfl
            simp only [Act.put, List.setIfInBounds_toArray, List.set_cons_zero, List.set_cons_succ]
            refine take_skipL (i := 13) (d := 80) (oi := ?_) ?_ hsel (by kernel_rfl) (by kernel_rfl) (fun _ _ _ h => h) ?_ ?_ (by assumption) ?_
            case refine_2 => (simp only [List.getElem?_cons_succ, List.getElem?_cons_zero]; rfl)
            case refine_3 => rfl
            case refine_4 => rfl
            simp only [Act.put, List.setIfInBounds_toArray, List.set_cons_zero, List.set_cons_succ]
            refine take_skipL (i := 14) (d := 81) (oi := ?_) ?_ hsel (by kernel_rfl) (by kernel_rfl) (fun _ _ _ h => h) ?_ ?_ (by assumption) ?_
            case refine_2 => (simp only [List.getElem?_cons_succ, List.getElem?_cons_zero]; rfl)
            case refine_3 => rfl
            case refine_4 => rfl
            simp only [Act.put, List.setIfInBounds_toArray, List.set_cons_zero, List.set_cons_succ]
            refine take_skipL (i := 15) (d := 82) (oi := ?_) ?_ hsel (by kernel_rfl) (by kernel_rfl) (fun _ _ _ h => h) ?_ ?_ (by assumption) ?_
            case refine_2 => (simp only [List.getElem?_cons_succ, List.getElem?_cons_zero]; rfl)
            case refine_3 => rfl
            case refine_4 => rfl
            simp only [Act.put, List.setIfInBounds_toArray, List.set_cons_zero, List.set_cons_succ]
            refine oneA 16 83 hsel (h := ?_)
            simp only [Act.put, List.setIfInBounds_toArray, List.set_cons_zero, List.set_cons_succ]
            refine oneA 17 84 hsel (h := ?_)
            simp only [Act.put, List.setIfInBounds_toArray, List.set_cons_zero, List.set_cons_succ]
            refine oneA 18 85 hsel (h := ?_)
            simp only [Act.put, List.setIfInBounds_toArray, List.set_cons_zero, List.set_cons_succ]
            refine oneA 19 86 hsel (h := ?_)
            simp only [Act.put, List.setIfInBounds_toArray, List.set_cons_zero, List.set_cons_succ]
            refine oneA 20 87 hsel (h := ?_)
            simp only [Act.put, List.setIfInBounds_toArray, List.set_cons_zero, List.set_cons_succ]
            refine oneA 21 88 hsel (h := ?_)
            simp only [Act.put, List.setIfInBounds_toArray, List.set_cons_zero, List.set_cons_succ]
            refine oneA 22 89 hsel (h := ?_)
            simp only [Act.put, List.setIfInBounds_toArray, List.set_cons_zero, List.set_cons_succ]
            refine oneA 23 90 hsel (h := ?_)
            simp only [Act.put, List.setIfInBounds_toArray, List.set_cons_zero, List.set_cons_succ]
            refine oneA 24 91 hsel (h := ?_)
            simp only [Act.put, List.setIfInBounds_toArray, List.set_cons_zero, List.set_cons_succ]
            refine oneA 25 92 hsel (h := ?_)
            simp only [Act.put, List.setIfInBounds_toArray, List.set_cons_zero, List.set_cons_succ]
            refine wpAnyL_ready (rs := [26]) (by kernel_rfl) (by kernel_rfl) (by simp) ?_
            refine AllReadyL.cons (o := ?_) ?_ (fun K hK => ?_) AllReadyL.nil
            case refine_2 => (simp only [List.getElem?_cons_succ, List.getElem?_cons_zero]; rfl)
            go_simp
            (go_at_call 15; (with_reducible refine (HCS.out _ HDX.out).mono ?_); rintro e wv ⟨rfl, ho⟩; have HV := Lib.hid (on_new HDX.out ho); clear ho)
            go_wp2_with (fail)
            clear hHeld
            refine hK.out _ _ (KP.out _ HV.out) (fun hHeld => ?_)
            clear hK K
            try simp only [List.set_cons_zero, List.set_cons_succ]
            refine oneA 27 94 hsel (h := ?_)
            simp only [Act.put, List.setIfInBounds_toArray, List.set_cons_zero, List.set_cons_succ]
            refine oneA 28 95 hsel (h := ?_)
            simp only [Act.put, List.setIfInBounds_toArray, List.set_cons_zero, List.set_cons_succ]
            refine oneA 29 96 hsel (h := ?_)
            simp only [Act.put, List.setIfInBounds_toArray, List.set_cons_zero, List.set_cons_succ]
            refine wpAnyL_done (by kernel_rfl) (by kernel_rfl) ?_ _
            clear hsel hHeld
            go_wp2
            go_roundg (m - (k + 1))
            case measure => omega
            case rel => exact ⟨k + 1, some q, rfl, by omega, rfl, by go_num, Lib.hid (HCN.out.step (HV.out.mono fun j hj => .inr hj) fun j hj => .inl hj), Lib.hid (fun q' h => by cases h; exact HQL.out), Lib.hid (on_new HXY.out HV.out), Lib.hid (Nat.lt_of_lt_of_le HCL4.out HV.out.size)⟩
          · obtain rfl : er = 0 := by rcases a1 with h9 | h9; exact h9.2; exact h9.1.elim
            have hp9 : p9 = -1 := by rw [HN9.out.2]; exact norm_out (by rcases a1 with h9 | h9; exact h9.1; exact h9.1.elim)
            subst hp9
            subst a2 a3
            have HCN : Hid (CurAt l root hd seg (.func (.func 26) #[] #[.pointer (some ⟨bl, 0, none⟩)]) (fun j => j = cb) w3.heap.size cb wy none) := Lib.hid a11
            clear a1 a11
            have HDX : Hid (Only (wy.heap.size ≤ ·) wy wy.drew) := Lib.hid (Only.refl _ wy).drew
            have HSX : Hid ((fun W : World => W.cell? ⟨bx, 0, none⟩ = some (.slice none 0 pc) ∧ W.cell? ⟨bx, 1, none⟩ = some (.slice U un uc) ∧ W.cell? ⟨bx, 2, none⟩ = some (.int .i64 i2) ∧ W.cell? ⟨bx, 3, none⟩ = some (.int .i64 i3)) wy.drew) := Lib.hid (by obtain ⟨r0, r1, r2, r3⟩ := (HBX.out.later HDX.out).four; exact ⟨r0, r1, r2, r3⟩)
            refine wp_region_list (B := [false, false, false, false, false, false, false, false, false, false, false, false, false, false, false, false, false, false, false, false, false, false, false, false, false, false, false, false, false, false]) (S := (fun W : World => W.cell? ⟨bx, 0, none⟩ = some (.slice none 0 pc) ∧ W.cell? ⟨bx, 1, none⟩ = some (.slice U un uc) ∧ W.cell? ⟨bx, 2, none⟩ = some (.int .i64 i2) ∧ W.cell? ⟨bx, 3, none⟩ = some (.int .i64 i3))) (by kernel_rfl) (by kernel_rfl) (by kernel_rfl) HSX.out (fun hsel hHeld => ?_)
            generalize hwz : World.drew _ = wd at HDX HSX hHeld ⊢
            clear hwz
            refine oneA 0 67 hsel (h := ?_)
            simp only [Act.put, List.setIfInBounds_toArray, List.set_cons_zero, List.set_cons_succ]
            refine oneA 1 68 hsel (h := ?_)
            simp only [Act.put, List.setIfInBounds_toArray, List.set_cons_zero, List.set_cons_succ]
            refine oneA 2 69 hsel (h := ?_)
            simp only [Act.put, List.setIfInBounds_toArray, List.set_cons_zero, List.set_cons_succ]
            refine oneA 3 70 hsel (h := ?_)
            simp only [Act.put, List.setIfInBounds_toArray, List.set_cons_zero, List.set_cons_succ]
            refine oneA 4 71 hsel (h := ?_)
            simp only [Act.put, List.setIfInBounds_toArray, List.set_cons_zero, List.set_cons_succ]
            refine oneA 5 72 hsel (h := ?_)
            simp only [Act.put, List.setIfInBounds_toArray, List.set_cons_zero, List.set_cons_succ]
            refine oneA 6 73 hsel (h := ?_)
            simp only [Act.put, List.setIfInBounds_toArray, List.set_cons_zero, List.set_cons_succ]
            refine oneA 7 74 hsel (h := ?_)
            simp only [Act.put, List.setIfInBounds_toArray, List.set_cons_zero, List.set_cons_succ]
            refine oneA 8 75 hsel (h := ?_)
            simp only [Act.put, List.setIfInBounds_toArray, List.set_cons_zero, List.set_cons_succ]
            refine oneA 9 76 hsel (h := ?_)
            simp only [Act.put, List.setIfInBounds_toArray, List.set_cons_zero, List.set_cons_succ]
            refine oneA 10 77 hsel (h := ?_)
            simp only [Act.put, List.setIfInBounds_toArray, List.set_cons_zero, List.set_cons_succ]
            refine oneA 11 78 hsel (h := ?_)
            simp only [Act.put, List.setIfInBounds_toArray, List.set_cons_zero, List.set_cons_succ]
            refine oneA 12 79 hsel (h := ?_)
            simp only [Act.put, List.setIfInBounds_toArray, List.set_cons_zero, List.set_cons_succ]
            refine oneA 13 80 hsel (h := ?_)
            simp only [Act.put, List.setIfInBounds_toArray, List.set_cons_zero, List.set_cons_succ]
            refine oneA 14 81 hsel (h := ?_)
            simp only [Act.put, List.setIfInBounds_toArray, List.set_cons_zero, List.set_cons_succ]
            refine oneA 15 82 hsel (h := ?_)
            simp only [Act.put, List.setIfInBounds_toArray, List.set_cons_zero, List.set_cons_succ]
            refine oneA 16 83 hsel (h := ?_)
            simp only [Act.put, List.setIfInBounds_toArray, List.set_cons_zero, List.set_cons_succ]
            refine oneA 17 84 hsel (h := ?_)
            simp only [Act.put, List.setIfInBounds_toArray, List.set_cons_zero, List.set_cons_succ]
            refine oneA 18 85 hsel (h := ?_)
            simp only [Act.put, List.setIfInBounds_toArray, List.set_cons_zero, List.set_cons_succ]
            refine oneA 19 86 hsel (h := ?_)
            simp only [Act.put, List.setIfInBounds_toArray, List.set_cons_zero, List.set_cons_succ]
            refine oneA 20 87 hsel (h := ?_)
            simp only [Act.put, List.setIfInBounds_toArray, List.set_cons_zero, List.set_cons_succ]
            refine take_skipL (i := 21) (d := 88) (oi := ?_) ?_ hsel (by kernel_rfl) (by kernel_rfl) (fun _ _ _ h => h) ?_ ?_ (by assumption) ?_
            case refine_2 => (simp only [List.getElem?_cons_succ, List.getElem?_cons_zero]; rfl)
            case refine_3 => rfl
            case refine_4 => rfl
            simp only [Act.put, List.setIfInBounds_toArray, List.set_cons_zero, List.set_cons_succ]
            refine take_skipL (i := 22) (d := 89) (oi := ?_) ?_ hsel (by kernel_rfl) (by kernel_rfl) (fun _ _ _ h => h) ?_ ?_ (by assumption) ?_
            case refine_2 => (simp only [List.getElem?_cons_succ, List.getElem?_cons_zero]; rfl)
            case refine_3 => rfl
            case refine_4 => rfl
            simp only [Act.put, List.setIfInBounds_toArray, List.set_cons_zero, List.set_cons_succ]
            refine take_skipL (i := 23) (d := 90) (oi := ?_) ?_ hsel (by kernel_rfl) (by kernel_rfl) (fun _ _ _ h => h) ?_ ?_ (by assumption) ?_
            case refine_2 => (simp only [List.getElem?_cons_succ, List.getElem?_cons_zero]; rfl)
            case refine_3 => rfl
            case refine_4 => rfl
            simp only [Act.put, List.setIfInBounds_toArray, List.set_cons_zero, List.set_cons_succ]
            refine take_skipL (i := 24) (d := 91) (oi := ?_) ?_ hsel (by kernel_rfl) (by kernel_rfl) (fun _ _ _ h => h) ?_ ?_ (by assumption) ?_
            case refine_2 => (simp only [List.getElem?_cons_succ, List.getElem?_cons_zero]; rfl)
            case refine_3 => rfl
            case refine_4 => rfl
            simp only [Act.put, List.setIfInBounds_toArray, List.set_cons_zero, List.set_cons_succ]
            refine take_skipL (i := 25) (d := 92) (oi := ?_) ?_ hsel (by kernel_rfl) (by kernel_rfl) (fun _ _ _ h => h) ?_ ?_ (by assumption) ?_
            case refine_2 => (simp only [List.getElem?_cons_succ, List.getElem?_cons_zero]; rfl)
            case refine_3 => rfl
            case refine_4 => rfl
            simp only [Act.put, List.setIfInBounds_toArray, List.set_cons_zero, List.set_cons_succ]
            refine take_skipL (i := 26) (d := 93) (oi := ?_) ?_ hsel (by kernel_rfl) (by kernel_rfl) (fun _ _ _ h => h) ?_ ?_ (by assumption) ?_
            case refine_2 => (simp only [List.getElem?_cons_succ, List.getElem?_cons_zero]; rfl)
            case refine_3 => rfl
            case refine_4 => rfl
            simp only [Act.put, List.setIfInBounds_toArray, List.set_cons_zero, List.set_cons_succ]
            refine take_skipL (i := 27) (d := 94) (oi := ?_) ?_ hsel (by kernel_rfl) (by kernel_rfl) (fun _ _ _ h => h) ?_ ?_ (by assumption) ?_
            case refine_2 => (simp only [List.getElem?_cons_succ, List.getElem?_cons_zero]; rfl)
            case refine_3 => rfl
            case refine_4 => rfl
            simp only [Act.put, List.setIfInBounds_toArray, List.set_cons_zero, List.set_cons_succ]
            refine oneA 28 95 hsel (h := ?_)
            simp only [Act.put, List.setIfInBounds_toArray, List.set_cons_zero, List.set_cons_succ]
            refine oneA 29 96 hsel (h := ?_)
            simp only [Act.put, List.setIfInBounds_toArray, List.set_cons_zero, List.set_cons_succ]
            refine wpAnyL_done (by kernel_rfl) (by kernel_rfl) ?_ _
            clear hsel hHeld
            go_wp2
            go_roundg (m - (k + 1))
            case measure => omega
            case rel => exact ⟨k + 1, none, rfl, by omega, rfl, by go_num, Lib.hid (HCN.out.step (HDX.out.mono fun j hj => .inr hj) fun j hj => .inl hj), Lib.hid (fun q' h => nomatch h), Lib.hid (on_new HXY.out HDX.out), Lib.hid (Nat.lt_of_lt_of_le HCL4.out HDX.out.size)⟩
        · obtain rfl : m = k := by omega
          have hkm : ¬ (m : Int) < (m : Int) := by omega
          have HXF := Lib.hid (on_new HO3.out HX.out)
          go_wp2_with (go_at_call 9; (with_reducible refine (calive_c _).mono ?_); rintro e w9 ⟨rfl, ho⟩; have HOF := Lib.hid (on_new HXF.out ho); clear ho)
          go_ret
          exact ⟨rfl, HOF.out⟩
end Go.Proofs.Ytnjhpjpeeehagaa
