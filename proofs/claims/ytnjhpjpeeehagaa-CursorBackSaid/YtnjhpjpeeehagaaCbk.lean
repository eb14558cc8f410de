/-
  CursorBack.
-/
import Derived.Test.YtnjhpjpeeehagaaGf
set_option linter.unusedVariables false
namespace Go.Proofs.Ytnjhpjpeeehagaa
open Go.RowKit

set_option maxRecDepth 100000 in
set_option maxHeartbeats 51200000 in
theorem back_walk (HM : MeetC) (w : World) (A : Option Addr) (n c : Nat) (root : Int) (l : List Nm) (h : Nms w (.slice A n c) l) (hok : ∀ x ∈ l, OkN x) (hrt : -9223372036854775808 ≤ root ∧ root ≤ 9223372036854775807) (K : Option Addr) (kn kc : Nat) (key : Bytes) (hkey : Src w (.slice K kn kc) key) :
    Calls Try.prog 5 #[.slice A n c, .int .i64 root, .slice K kn kc] w (Told w (.bool true)) := by
  have HN := Lib.hid h
  have HOK := Lib.hid hok
  have HRT : Hid ((Lit.int .i64 root).wf = true) := Lib.hid (by simp [Lit.wf, IntKind.min, IntKind.max, IntKind.signed, IntKind.bits]; omega)
  have HFW := Lib.hid (few2_w w A n c l h none 0 0 [] (Rw.nil_ w) (okN_len hok))
  obtain ⟨fb, hfb⟩ : ∃ b, b = few2B l [] := ⟨_, rfl⟩
  rw [← hfb] at HFW
  have HFB := Lib.hid hfb
  have HKY := Lib.hid hkey
  have HKN : Hid (kn = key.length) := Lib.hid (src_n hkey)
  clear hfb h hok hrt hkey
  cases fb with
  | false =>
    go_enter Try.func5, Try.ntmps5
    go_wp2_with (first
      | (go_at_call 8; (with_reducible refine HFW.out.mono ?_); rintro e w1 ⟨rfl, ho⟩; have HO1 := Lib.hid ho; clear ho)
      | (go_at_call 9; (with_reducible refine (calive_c _).mono ?_); rintro e w9 ⟨rfl, ho⟩; have HOF := Lib.hid (on_new HO1.out ho); clear ho))
    go_ret
    exact ⟨rfl, HOF.out⟩
  | true =>
    have HFF := Lib.hid (few2_few HFB.out.symm)
    have HF := Lib.hid (few_FewN HOK.out HFF.out.1)
    obtain ⟨seg, hseg⟩ : ∃ z, z = (okS (allP l root)).its := ⟨_, rfl⟩
    obtain ⟨ok, hokk⟩ : ∃ b, b = decide ((allP l root).1 = 0) := ⟨_, rfl⟩
    have HSL : Hid (seg.length ≤ 200) := Lib.hid (by rw [hseg]; exact Nat.le_trans okS_sz HFF.out.2.1)
    have HIT : Hid (∀ W, Only (w.heap.size ≤ ·) w W → Calls Try.prog 10 #[.slice A n c, .int .i64 root] W (ItemsSays W seg ok)) := Lib.hid (fun W hW => items_c HM W A n c root l (Rw.later HN.out hW) HF.out HRT.out seg hseg.symm (by have h1 := HSL.out; omega) ok hokk)
    have HSEG := Lib.hid (And.intro hseg hokk)
    clear hseg hokk
    by_cases h100 : (100 : Int) < (kn : Int)
    · go_enter Try.func5, Try.ntmps5
      go_wp2_with (first
        | (go_at_call 8; (with_reducible refine HFW.out.mono ?_); rintro e w1 ⟨rfl, ho⟩; have HO1 := Lib.hid ho; clear ho)
        | (go_at_call 9; (with_reducible refine (calive_c _).mono ?_); rintro e w9 ⟨rfl, ho⟩; have HOF := Lib.hid (on_new HO1.out ho); clear ho))
      go_ret
      exact ⟨rfl, HOF.out⟩
    · have hk100 : ¬ (100 : Int) < (kn : Int) := h100
      cases ok with
      | false =>
        go_enter Try.func5, Try.ntmps5
        go_wp2_with (first
          | (go_at_call 8; (with_reducible refine HFW.out.mono ?_); rintro e w1 ⟨rfl, ho⟩; have HO1 := Lib.hid ho; clear ho)
          | (go_at_call 10; (with_reducible refine (HIT.out w1 HO1.out).mono ?_); rintro e w2 ⟨⟨IA, ic, rfl, hi⟩, ho⟩; have HI2 := Lib.hid hi; have HO2 := Lib.hid (on_new HO1.out ho); clear hi ho)
          | (go_at_call 12; (with_reducible refine (Source_c w2 A n c).mono ?_); rintro e w3 ⟨⟨bl, rfl, _, hbl⟩, ho⟩; have HBL := Lib.hid hbl; have HO3 := Lib.hid (on_new HO2.out ho); have HI := Lib.hid (Rw.later HI2.out ho); clear hbl ho)
          | (go_at_call 11; (with_reducible refine (CrNew_c w3 26 _ root).mono ?_); rintro e w4 ⟨rfl, hc4, ho⟩; have HC4 := Lib.hid hc4; have HX4 := Lib.hid ho; clear hc4 ho)
          | (go_at_call 9; (with_reducible refine (calive_c w4).mono ?_); rintro e w9 ⟨rfl, ho⟩; have HOF := Lib.hid (on_new (on_new HO3.out HX4.out) ho); clear ho))
        go_ret
        exact ⟨rfl, HOF.out⟩
      | true =>
        obtain ⟨S9, hS9⟩ : ∃ S, allP l root = (0, S) := ⟨(allP l root).2, Prod.ext (of_decide_eq_true HSEG.out.2.symm) rfl⟩
        have hsg : seg = S9.its := by rw [HSEG.out.1, hS9]; rfl
        obtain ⟨hd, hhd⟩ : ∃ z, z = S9.dep := ⟨_, rfl⟩
        have HTR : Hid (∀ (w0 : World) (bl : Nat), Blk w0 bl 22 [.slice A n c] → Nms w0 (.slice A n c) l → Tr (fun _ => False) w0 (.func (.func 26) #[] #[.pointer (some ⟨bl, 0, none⟩)]) (fun lb r => downX l (fun _ => 11) (chE lb) 12 r) (fun key => downX l (fun _ => 11) (chP key) 12 root) False l root hd seg) := Lib.hid (fun w0 bl h1 h2 => by rw [hsg, hhd]; exact mk_tr (fun W hW => h1.later (lat_no hW)) (fun W hW => Rw.later h2 (lat_no hW)) HF.out hS9)
        clear hS9 hsg hhd HSEG
        go_enter Try.func5, Try.ntmps5
        go_upto_region 7 with (first
          | (go_at_call 8; (with_reducible refine HFW.out.mono ?_); rintro e w1 ⟨rfl, ho⟩; have HO1 := Lib.hid ho; clear ho)
          | (go_at_call 10; (with_reducible refine (HIT.out w1 HO1.out).mono ?_); rintro e w2 ⟨⟨IA, ic, rfl, hi⟩, ho⟩; have HI2 := Lib.hid hi; have HO2 := Lib.hid (on_new HO1.out ho); clear hi ho)
          | (go_at_call 12; (with_reducible refine (Source_c w2 A n c).mono ?_); rintro e w3 ⟨⟨bl, rfl, _, hbl⟩, ho⟩; have HBL := Lib.hid hbl; have HO3 := Lib.hid (on_new HO2.out ho); have HI := Lib.hid (Rw.later HI2.out ho); clear hbl ho)
          | (go_at_call 11; (with_reducible refine (CrNew_c w3 26 _ root).mono ?_); rintro e w4 ⟨rfl, hc4, ho⟩; have HC4 := Lib.hid hc4; have HX4 := Lib.hid ho; clear hc4 ho))
        obtain ⟨cb, hcb⟩ : ∃ z, z = w3.heap.size := ⟨_, rfl⟩
        rw [← hcb] at HC4 ⊢
        have HCW : Hid (w3.heap.size ≤ cb ∧ cb < w4.heap.size) := Lib.hid ⟨by omega, HC4.out.lt⟩
        have HT := Lib.hid (HTR.out w3 bl HBL.out (Rw.later HN.out HO3.out))
        clear hcb HTR HBL HIT HFW HFF HF HOK HRT HI2 HO2
        have HSK := Lib.hid (Seek_c HT.out w4 (lat_of HX4.out _) cb (fun j => j = cb) (fun j hj => by have h1 := HCW.out.2; have h2 : j = cb := hj; omega) rfl HCW.out.1 _ HC4.out K kn kc key (HKY.out.later (on_new HO3.out HX4.out)))
        go_upto_region 8 with (go_at_call 20; (with_reducible refine HSK.out.mono ?_); rintro e v1 ⟨P1, pn1, pc1, U1, un1, uc1, i21, i31, t1, er1, rfl, ho, hg⟩; have HOC := Lib.hid ho; have HG1 := Lib.hid hg; clear ho hg)
        obtain ⟨y1, hy1⟩ : ∃ W, W = v1.alloc (.cells #[.slice P1 pn1 pc1, .slice U1 un1 uc1, .int .i64 i21, .int .i64 i31] 39) := ⟨_, rfl⟩
        obtain ⟨bx, hbx⟩ : ∃ z, z = v1.heap.size := ⟨_, rfl⟩
        have HON : Hid (Only (v1.heap.size ≤ ·) v1 y1) := Lib.hid (by rw [hy1]; exact (Only.refl _ v1).alloc (fun _ h => h) _)
        have HBX : Hid (Blk y1 bx 39 [.slice P1 pn1 pc1, .slice U1 un1 uc1, .int .i64 i21, .int .i64 i31]) := Lib.hid (by rw [hy1, hbx]; exact Blk.new v1 _ _)
        rw [← hy1, ← hbx]
        have HXY : Hid (Only (w3.heap.size ≤ ·) w3 y1) := Lib.hid (on_new (HX4.out.trans (HOC.out.mono fun j hj => by have h1 := HCW.out.1; rcases hj with hj | hj; omega; exact hj.1)) HON.out)
        have hcv : cb < v1.heap.size := by have h1 := HCW.out.2; have h2 := HOC.out.size; omega
        obtain ⟨D, d1, d2, d3, d4, d5, d6, d7⟩ := HG1.out.box HON.out (by have h1 := HBX.out.lt; omega) (fun j hj => by have h2 : j = cb := hj; omega)
        rw [← hbx] at d2
        have HDD : Hid (D cb ∧ D bx ∧ (∀ j, AtV (.slice P1 pn1 pc1) j → D j) ∧ (∀ j, AtV (.slice U1 un1 uc1) j → D j) ∧ (∀ j, D j → j < y1.heap.size) ∧ cb < bx ∧ cb < y1.heap.size ∧ ∀ j, AtV (.slice P1 pn1 pc1) j ∨ AtV (.slice U1 un1 uc1) j → cb < j) := Lib.hid ⟨d1 _ rfl, d2, d3, d4, d5, by omega, by have := d5 cb (d1 _ rfl); omega, fun j hj => by have h1 := d6 j hj; have h2 := HCW.out.2; omega⟩
        clear hy1 hbx HON HOC HG1 HSK d1 d2 d3 d4 d5 d6 hcv
        rcases d7 with ⟨y, rfl, rfl, e3, e4, e5, e6, e7, e8, e9⟩ | ⟨rfl, _⟩
        case inr =>
          have HXF := Lib.hid (on_new HO3.out HXY.out)
          go_wp2_with (go_at_call 9; (with_reducible refine (calive_c _).mono ?_); rintro e w9 ⟨rfl, ho⟩; have HOF := Lib.hid (on_new HXF.out ho); clear ho)
          go_ret
          exact ⟨rfl, HOF.out⟩
        obtain ⟨n0, hn0⟩ : ∃ z, z = findP seg key := ⟨_, rfl⟩
        rw [← hn0] at e4 e9
        rw [Int.toNat_natCast] at e4 e9
        have HN0 := Lib.hid hn0
        have HYY := Lib.hid (And.intro e4 (And.intro e7 e8))
        have HPU := Lib.hid (And.intro e5 e6)
        have HCA := Lib.hid e9
        clear e3 e4 e5 e6 e7 e8 e9 hn0
        obtain ⟨y2, hy2⟩ : ∃ W, W = y1.alloc (.cells #[.int .i64 3, .int .i64 4, .int .i64 4, .int .i64 3] 49) := ⟨_, rfl⟩
        obtain ⟨br, hbr⟩ : ∃ z, z = y1.heap.size := ⟨_, rfl⟩
        have HO2 : Hid (Only (y1.heap.size ≤ ·) y1 y2) := Lib.hid (by rw [hy2]; exact (Only.refl _ y1).alloc (fun _ h => h) _)
        have HBR : Hid (Blk y2 br 49 [.int .i64 3, .int .i64 4, .int .i64 4, .int .i64 3]) := Lib.hid (by rw [hy2, hbr]; exact Blk.new y1 _ _)
        have HBRE : Hid (y1.heap.size = br) := Lib.hid hbr.symm
        have HE2 := Lib.hid (And.intro hy2 hbr)
        clear hy2 hbr
        go_upto_region 11 with (fail)
        rw [← HE2.out.1, ← HE2.out.2]
        clear HE2
        have HX2 := Lib.hid (on_new HXY.out HO2.out)
        have HB2 := Lib.hid (HBX.out.later HO2.out)
        have HP2 : Hid (Src y2 (.slice P1 pn1 pc1) y.1 ∧ Src y2 (.slice U1 un1 uc1) y.2.1 ∧ Src y2 (.slice K kn kc) key) := Lib.hid ⟨HPU.out.1.later HO2.out, HPU.out.2.later HO2.out, HKY.out.later (on_new HO3.out HX2.out)⟩
        have HCA2 : Hid (CurAt l root hd seg (.func (.func 26) #[] #[.pointer (some ⟨bl, 0, none⟩)]) (fun j => D j ∨ j = br) w3.heap.size cb y2 (some n0)) := Lib.hid (HCA.out.step (HO2.out.mono fun j hj => .inr hj) fun j hj => hj.imp id fun h => Nat.le_of_eq (by rw [HBRE.out, h]))
        have HNF : Hid (∀ (W : World), y2.heap.size ≤ W.heap.size → ∀ j, W.heap.size ≤ j → (j = cb ∨ (w3.heap.size ≤ j ∧ ¬ (D j ∨ j = br)))) := Lib.hid (fun W hW j hj => .inr ⟨by have h1 := HX2.out.size; omega, fun e => by
          have h1 := HO2.out.size
          have h2 := HBR.out.lt
          rcases e with e | e
          · have h3 := HDD.out.2.2.2.2.1 j e
            omega
          · omega⟩)
        clear HCA HPU HBX HXY HO2
        go_loopg [68] 2 (fun gk iv wr => ∃ k : Nat, gk = 2 - k ∧ k ≤ 2 ∧ iv = .int .i64 (k : Int) ∧ Hid (CurAt l root hd seg (.func (.func 26) #[] #[.pointer (some ⟨bl, 0, none⟩)]) (fun j => D j ∨ j = br) w3.heap.size cb wr (some n0)) ∧ Hid (Only (fun j => j = cb ∨ (w3.heap.size ≤ j ∧ ¬ (D j ∨ j = br))) y2 wr))
        case atStart => exact ⟨0, rfl, by omega, rfl, HCA2, Lib.hid (Only.refl _ _)⟩
        case round =>
          clear HCA2
          obtain ⟨k, rfl, hk, rfl, HCA, HOF⟩ := hrel
          have HBW : Hid (Blk wr bx 39 [.slice P1 pn1 pc1, .slice U1 un1 uc1, .int .i64 i21, .int .i64 i31]) := Lib.hid (HB2.out.only HOF.out (fun e => by
            have h1 := HDD.out.2.2.2.2.2.1
            rcases e with e | e
            · omega
            · exact e.2 (.inl HDD.out.2.1)))
          have HRW : Hid (Blk wr br 49 [.int .i64 3, .int .i64 4, .int .i64 4, .int .i64 3]) := Lib.hid (HBR.out.only HOF.out (fun e => by
            have h1 := HDD.out.2.2.2.2.2.2.1
            have h2 := HBRE.out
            rcases e with e | e
            · omega
            · exact e.2 (.inr rfl)))
          have HPW : Hid (Src wr (.slice P1 pn1 pc1) y.1 ∧ Src wr (.slice U1 un1 uc1) y.2.1 ∧ Src wr (.slice K kn kc) key) := Lib.hid ⟨src_at HP2.out.1 HOF.out (fun j hj e => e.elim (fun e => by have h1 := HDD.out.2.2.2.2.2.2.2 j (.inl hj); omega) fun e => e.2 (.inl (HDD.out.2.2.1 j hj))), src_at HP2.out.2.1 HOF.out (fun j hj e => e.elim (fun e => by have h1 := HDD.out.2.2.2.2.2.2.2 j (.inr hj); omega) fun e => e.2 (.inl (HDD.out.2.2.2.1 j hj))), HKY.out.later (on_new HO3.out (HX2.out.trans (HOF.out.mono fun j hj => by have h1 := HCW.out.1; rcases hj with hj | hj; omega; exact hj.1)))⟩
          have HXW : Hid (Only (w3.heap.size ≤ ·) w3 wr) := Lib.hid (HX2.out.trans (HOF.out.mono fun j hj => by have h1 := HCW.out.1; rcases hj with hj | hj; omega; exact hj.1))
          by_cases h2 : k = 2
          · subst h2
            have HXG := Lib.hid (on_new HO3.out HXW.out)
            go_wp2_with (go_at_call 9; (with_reducible refine (calive_c _).mono ?_); rintro e w9 ⟨rfl, ho⟩; have HOFF := Lib.hid (on_new HXG.out ho); clear ho)
            go_ret
            exact ⟨rfl, HOFF.out⟩
          · obtain ⟨q0, q1, q2, q3⟩ := HRW.out.four
            rcases (show k = 0 ∨ k = 1 by omega) with rfl | rfl
            ·
              obtain ⟨y3, hy3⟩ : ∃ W, W = wr.alloc (.cells #[.int .i64 3, .int .i64 4] 49) := ⟨_, rfl⟩
              obtain ⟨b14, hb14⟩ : ∃ z, z = wr.heap.size := ⟨_, rfl⟩
              have HO3' : Hid (Only (wr.heap.size ≤ ·) wr y3) := Lib.hid (by rw [hy3]; exact (Only.refl _ wr).alloc (fun _ h => h) _)
              have HB14 : Hid (Blk y3 b14 49 [.int .i64 3, .int .i64 4]) := Lib.hid (by rw [hy3, hb14]; exact Blk.new wr _ _)
              have HE3 := Lib.hid (And.intro hy3 hb14)
              clear hy3 hb14
              go_upto_region 13 with (fail)
              rw [← HE3.out.1, ← HE3.out.2]
              have HX3 := Lib.hid (on_new HXW.out HO3'.out)
              have HC3 : Hid (CurAt l root hd seg (.func (.func 26) #[] #[.pointer (some ⟨bl, 0, none⟩)]) (fun j => (D j ∨ j = br) ∨ j = b14) w3.heap.size cb y3 (some n0)) := Lib.hid (HCA.out.step (HO3'.out.mono fun j hj => .inr hj) fun j hj => hj.imp id fun h => Nat.le_of_eq (by rw [h, HE3.out.2]))
              have HB14E : Hid (wr.heap.size = b14) := Lib.hid HE3.out.2.symm
              have HDB : Hid (∀ j, (fun j => (D j ∨ j = br) ∨ j = b14) j → j < y3.heap.size) := Lib.hid (fun j hj => by
                have h1 := HB14.out.lt
                have h2 := HRW.out.lt
                have h3 := HO3'.out.size
                have h4 := HBW.out.lt
                rcases hj with (hj | hj) | hj
                · have h5 := HDD.out.2.2.2.2.1 j hj
                  have h6 := HBRE.out
                  omega
                · omega
                · omega)
              clear HE3 q0 q1 q2 q3
              have HD1 := Lib.hid (does_c HT.out y3 (lat_of HX3.out _) cb (fun j => (D j ∨ j = br) ∨ j = b14) HDB.out (.inl (.inl HDD.out.1)) HCW.out.1 (some n0) HC3.out 3 none 0 0 [] (Src.nil_ _))
              obtain ⟨q0, q1⟩ := HB14.out.pair
              go_upto_region 14 with (go_at_call 14; (with_reducible refine HD1.out.mono ?_); rintro e v3 ⟨P3, pn3, pc3, U3, un3, uc3, i23, i33, t3, er3, rfl, ho, hg⟩; have HOC := Lib.hid ho; have HG3 := Lib.hid hg; clear ho hg)
              clear q0 q1
              obtain ⟨y4, hy4⟩ : ∃ W, W = v3.alloc (.cells #[.slice P3 pn3 pc3, .slice U3 un3 uc3, .int .i64 i23, .int .i64 i33] 39) := ⟨_, rfl⟩
              have HO4 : Hid (Only (v3.heap.size ≤ ·) v3 y4) := Lib.hid (by rw [hy4]; exact (Only.refl _ v3).alloc (fun _ h => h) _)
              rw [← hy4]
              clear hy4
              have HG4 := Lib.hid (HG3.out.step (D' := (fun j => (D j ∨ j = br) ∨ j = b14)) (HO4.out.mono fun j hj => .inr hj) (fun j hj => .inl hj) HDB.out (Nat.le_refl _))
              have HX4' : Hid (Only (w3.heap.size ≤ ·) w3 y4) := Lib.hid (on_new (HX3.out.trans (HOC.out.mono fun j hj => by have h1 := HCW.out.1; rcases hj with hj | hj; omega; exact hj.1)) HO4.out)
              have HF4 : Hid (Only (fun j => j = cb ∨ (w3.heap.size ≤ j ∧ ¬ (D j ∨ j = br))) wr y4) := Lib.hid (((HO3'.out.mono fun j hj => HNF.out wr HOF.out.size j hj).trans (HOC.out.mono fun j hj => hj.imp id fun h => ⟨h.1, fun e => h.2 (.inl e)⟩)).trans (HO4.out.mono fun j hj => HNF.out v3 (Nat.le_trans HOF.out.size (Nat.le_trans HO3'.out.size HOC.out.size)) j hj))
              have HB4 : Hid (Blk y4 b14 49 [.int .i64 3, .int .i64 4]) := Lib.hid ((HB14.out.only HOC.out (fun e => by have h1 := HDD.out.2.2.2.2.2.1; have h2 := HBW.out.lt; have h3 := HB14E.out; rcases e with e | e; omega; exact e.2 (.inr rfl))).later HO4.out)
              have HDB4 : Hid (∀ j, (fun j => (D j ∨ j = br) ∨ j = b14) j → j < y4.heap.size) := Lib.hid (fun j hj => Nat.lt_of_lt_of_le (HDB.out j hj) (Nat.le_trans HOC.out.size HO4.out.size))
              clear HG3 HD1
              rcases HG4.out with ⟨z, a1, a2, _, _, _, _, rfl, rfl, a9⟩ | ⟨a1, _, _, _, _, _, _, _, _, rfl, a11⟩
              · obtain ⟨n1, hn1⟩ : ∃ z, z = (((n0 : Int) + 1)).toNat := ⟨_, rfl⟩
                have HC4 : Hid (CurAt l root hd seg (.func (.func 26) #[] #[.pointer (some ⟨bl, 0, none⟩)]) (fun j => (D j ∨ j = br) ∨ j = b14) w3.heap.size cb y4 (some n1)) := Lib.hid (by rw [hn1]; exact a9.step (Only.refl _ y4) fun j hj => .inl (.inl hj))
                have HNB : Hid (goTo seg (some n1) 4 [] = (n0 : Int)) := Lib.hid (by
                  have h1 : 0 ≤ ((n0 : Int) + 1) := a1
                  show ((n1 : Int) + (-1)) = (n0 : Int)
                  omega)
                clear a1 a2 a9 hn1
                have HD2 := Lib.hid (does_c HT.out y4 (lat_of HX4'.out _) cb (fun j => (D j ∨ j = br) ∨ j = b14) HDB4.out (.inl (.inl HDD.out.1)) HCW.out.1 (some n1) HC4.out 4 none 0 0 [] (Src.nil_ _))
                obtain ⟨q0, q1⟩ := HB4.out.pair
                go_upto_region 16 with (go_at_call 14; (with_reducible refine HD2.out.mono ?_); rintro e v5 ⟨P5, pn5, pc5, U5, un5, uc5, i25, i35, t5, er5, rfl, ho, hg⟩; have HOC5 := Lib.hid ho; have HG5 := Lib.hid hg; clear ho hg)
                clear q0 q1
                obtain ⟨y5, hy5⟩ : ∃ W, W = v5.alloc (.cells #[.slice P5 pn5 pc5, .slice U5 un5 uc5, .int .i64 i25, .int .i64 i35] 39) := ⟨_, rfl⟩
                obtain ⟨b18, hb18⟩ : ∃ z, z = v5.heap.size := ⟨_, rfl⟩
                have HO5 : Hid (Only (v5.heap.size ≤ ·) v5 y5) := Lib.hid (by rw [hy5]; exact (Only.refl _ v5).alloc (fun _ h => h) _)
                have HB18 : Hid (Blk y5 b18 39 [.slice P5 pn5 pc5, .slice U5 un5 uc5, .int .i64 i25, .int .i64 i35]) := Lib.hid (by rw [hy5, hb18]; exact Blk.new v5 _ _)
                rw [← hy5, ← hb18]
                clear hy5 hb18
                have HF5 : Hid (Only (fun j => j = cb ∨ (w3.heap.size ≤ j ∧ ¬ (D j ∨ j = br))) wr y5) := Lib.hid ((HF4.out.trans (HOC5.out.mono fun j hj => hj.imp id fun h => ⟨h.1, fun e => h.2 (.inl e)⟩)).trans (HO5.out.mono fun j hj => HNF.out v5 (Nat.le_trans HOF.out.size (Nat.le_trans HF4.out.size HOC5.out.size)) j hj))
                have HG6 := Lib.hid (HG5.out.step (D' := (fun j => (D j ∨ j = br) ∨ j = b14)) (HO5.out.mono fun j hj => .inr hj) (fun j hj => .inl hj) HDB4.out (Nat.le_refl _))
                rw [HNB.out] at HG6
                rcases HG6.out with ⟨z5, a1, a2, a3, a4, a5, a6, rfl, rfl, a9⟩ | ⟨a1, _⟩
                case inr => exact absurd a1 (by have h1 := (List.getElem?_eq_some_iff.1 HYY.out.1).1; rintro (⟨h, _⟩ | ⟨h, _⟩); omega; exact h)
                rw [Int.toNat_natCast] at a2 a9
                have hzy : z5 = y := Option.some.inj (a2.symm.trans HYY.out.1)
                rw [hzy] at a3 a4 a5 a6
                have HC6 : Hid (CurAt l root hd seg (.func (.func 26) #[] #[.pointer (some ⟨bl, 0, none⟩)]) (fun j => D j ∨ j = br) w3.heap.size cb y5 (some n0)) := Lib.hid (a9.step (Only.refl _ y5) fun j hj => .inl (.inl (.inl hj)))
                have HBY : Hid (Blk y5 bx 39 [.slice P1 pn1 pc1, .slice U1 un1 uc1, .int .i64 i21, .int .i64 i31]) := Lib.hid (HBW.out.only HF5.out (fun e => by have h1 := HDD.out.2.2.2.2.2.1; rcases e with e | e; omega; exact e.2 (.inl HDD.out.2.1)))
                have HPY : Hid (Src y5 (.slice P1 pn1 pc1) y.1 ∧ Src y5 (.slice U1 un1 uc1) y.2.1) := Lib.hid ⟨src_at HPW.out.1 HF5.out (fun j hj e => e.elim (fun e => by have h1 := HDD.out.2.2.2.2.2.2.2 j (.inl hj); omega) fun e => e.2 (.inl (HDD.out.2.2.1 j hj))), src_at HPW.out.2.1 HF5.out (fun j hj e => e.elim (fun e => by have h1 := HDD.out.2.2.2.2.2.2.2 j (.inr hj); omega) fun e => e.2 (.inl (HDD.out.2.2.2.1 j hj)))⟩
                have HCS := Lib.hid (rSame_c y5 P5 U5 P1 U1 pn5 pc5 un5 uc5 pn1 pc1 un1 uc1 i25 i35 i21 i31 y.1 y.2.1 y.1 y.2.1 true a3.src a4.src HPY.out.1 HPY.out.2 (decide_eq_true ⟨rfl, rfl, a5.trans HYY.out.2.1.symm, a6.trans HYY.out.2.2.symm⟩))
                clear a1 a2 a3 a4 a5 a6 a9 hzy
                obtain ⟨r0, r1, r2, r3⟩ := HB18.out.four
                obtain ⟨s0, s1, s2, s3⟩ := HBY.out.four
                go_wp2_with (go_at_call 15; (with_reducible refine HCS.out.mono ?_); rintro e y6 ⟨rfl, ho⟩; have HO6 := Lib.hid ho; clear ho r0 r1 r2 r3 s0 s1 s2 s3)
                have HCZ := Lib.hid (HC6.out.step (HO6.out.mono fun j hj => .inr hj) (D' := fun j => D j ∨ j = br) fun j hj => .inl hj)
                have HOZ := Lib.hid ((HOF.out.trans HF5.out).trans (HO6.out.mono fun j hj => HNF.out y5 (Nat.le_trans HOF.out.size HF5.out.size) j hj))
                go_roundg (2 - 1)
                case measure => omega
                case rel => exact ⟨1, rfl, by omega, rfl, HCZ, HOZ⟩
              · have HCN : Hid (Blk y4 cb 75 [(.func (.func 26) #[] #[.pointer (some ⟨bl, 0, none⟩)]), .int .i64 root, .slice none 0 0]) := Lib.hid a11
                clear a1 a11
                have HD2 := Lib.hid (Seek_c HT.out y4 (lat_of HX4'.out _) cb (fun j => (D j ∨ j = br) ∨ j = b14) HDB4.out (.inl (.inl HDD.out.1)) HCW.out.1 _ HCN.out K kn kc key (HKY.out.later (on_new HO3.out HX4'.out)))
                go_upto_region 19 with (go_at_call 20; (with_reducible refine HD2.out.mono ?_); rintro e v5 ⟨P5, pn5, pc5, U5, un5, uc5, i25, i35, t5, er5, rfl, ho, hg⟩; have HOC5 := Lib.hid ho; have HG5 := Lib.hid hg; clear ho hg)
                obtain ⟨y5, hy5⟩ : ∃ W, W = v5.alloc (.cells #[.slice P5 pn5 pc5, .slice U5 un5 uc5, .int .i64 i25, .int .i64 i35] 39) := ⟨_, rfl⟩
                have HO5 : Hid (Only (v5.heap.size ≤ ·) v5 y5) := Lib.hid (by rw [hy5]; exact (Only.refl _ v5).alloc (fun _ h => h) _)
                rw [← hy5]
                clear hy5
                have HF5 : Hid (Only (fun j => j = cb ∨ (w3.heap.size ≤ j ∧ ¬ (D j ∨ j = br))) wr y5) := Lib.hid ((HF4.out.trans (HOC5.out.mono fun j hj => hj.imp id fun h => ⟨h.1, fun e => h.2 (.inl e)⟩)).trans (HO5.out.mono fun j hj => HNF.out v5 (Nat.le_trans HOF.out.size (Nat.le_trans HF4.out.size HOC5.out.size)) j hj))
                have HG6 := Lib.hid (HG5.out.step (D' := (fun j => (D j ∨ j = br) ∨ j = b14)) (HO5.out.mono fun j hj => .inr hj) (fun j hj => .inl hj) HDB4.out (Nat.le_refl _))
                rw [← HN0.out] at HG6
                rcases HG6.out with ⟨z5, a1, a2, a3, a4, a5, a6, rfl, rfl, a9⟩ | ⟨a1, _⟩
                case inr => exact absurd a1 (by have h1 := (List.getElem?_eq_some_iff.1 HYY.out.1).1; rintro (⟨h, _⟩ | ⟨h, _⟩); omega; exact h)
                rw [Int.toNat_natCast] at a9
                have HCZ : Hid (CurAt l root hd seg (.func (.func 26) #[] #[.pointer (some ⟨bl, 0, none⟩)]) (fun j => D j ∨ j = br) w3.heap.size cb y5 (some n0)) := Lib.hid (a9.step (Only.refl _ y5) fun j hj => .inl (.inl (.inl hj)))
                have HOZ := Lib.hid (HOF.out.trans HF5.out)
                clear a1 a2 a3 a4 a5 a6 a9
                go_wp2
                go_roundg (2 - 1)
                case measure => omega
                case rel => exact ⟨1, rfl, by omega, rfl, HCZ, HOZ⟩
            ·
              obtain ⟨y3, hy3⟩ : ∃ W, W = wr.alloc (.cells #[.int .i64 4, .int .i64 3] 49) := ⟨_, rfl⟩
              obtain ⟨b14, hb14⟩ : ∃ z, z = wr.heap.size := ⟨_, rfl⟩
              have HO3' : Hid (Only (wr.heap.size ≤ ·) wr y3) := Lib.hid (by rw [hy3]; exact (Only.refl _ wr).alloc (fun _ h => h) _)
              have HB14 : Hid (Blk y3 b14 49 [.int .i64 4, .int .i64 3]) := Lib.hid (by rw [hy3, hb14]; exact Blk.new wr _ _)
              have HE3 := Lib.hid (And.intro hy3 hb14)
              clear hy3 hb14
              go_upto_region 13 with (fail)
              rw [← HE3.out.1, ← HE3.out.2]
              have HX3 := Lib.hid (on_new HXW.out HO3'.out)
              have HC3 : Hid (CurAt l root hd seg (.func (.func 26) #[] #[.pointer (some ⟨bl, 0, none⟩)]) (fun j => (D j ∨ j = br) ∨ j = b14) w3.heap.size cb y3 (some n0)) := Lib.hid (HCA.out.step (HO3'.out.mono fun j hj => .inr hj) fun j hj => hj.imp id fun h => Nat.le_of_eq (by rw [h, HE3.out.2]))
              have HB14E : Hid (wr.heap.size = b14) := Lib.hid HE3.out.2.symm
              have HDB : Hid (∀ j, (fun j => (D j ∨ j = br) ∨ j = b14) j → j < y3.heap.size) := Lib.hid (fun j hj => by
                have h1 := HB14.out.lt
                have h2 := HRW.out.lt
                have h3 := HO3'.out.size
                have h4 := HBW.out.lt
                rcases hj with (hj | hj) | hj
                · have h5 := HDD.out.2.2.2.2.1 j hj
                  have h6 := HBRE.out
                  omega
                · omega
                · omega)
              clear HE3 q0 q1 q2 q3
              have HD1 := Lib.hid (does_c HT.out y3 (lat_of HX3.out _) cb (fun j => (D j ∨ j = br) ∨ j = b14) HDB.out (.inl (.inl HDD.out.1)) HCW.out.1 (some n0) HC3.out 4 none 0 0 [] (Src.nil_ _))
              obtain ⟨q0, q1⟩ := HB14.out.pair
              go_upto_region 14 with (go_at_call 14; (with_reducible refine HD1.out.mono ?_); rintro e v3 ⟨P3, pn3, pc3, U3, un3, uc3, i23, i33, t3, er3, rfl, ho, hg⟩; have HOC := Lib.hid ho; have HG3 := Lib.hid hg; clear ho hg)
              clear q0 q1
              obtain ⟨y4, hy4⟩ : ∃ W, W = v3.alloc (.cells #[.slice P3 pn3 pc3, .slice U3 un3 uc3, .int .i64 i23, .int .i64 i33] 39) := ⟨_, rfl⟩
              have HO4 : Hid (Only (v3.heap.size ≤ ·) v3 y4) := Lib.hid (by rw [hy4]; exact (Only.refl _ v3).alloc (fun _ h => h) _)
              rw [← hy4]
              clear hy4
              have HG4 := Lib.hid (HG3.out.step (D' := (fun j => (D j ∨ j = br) ∨ j = b14)) (HO4.out.mono fun j hj => .inr hj) (fun j hj => .inl hj) HDB.out (Nat.le_refl _))
              have HX4' : Hid (Only (w3.heap.size ≤ ·) w3 y4) := Lib.hid (on_new (HX3.out.trans (HOC.out.mono fun j hj => by have h1 := HCW.out.1; rcases hj with hj | hj; omega; exact hj.1)) HO4.out)
              have HF4 : Hid (Only (fun j => j = cb ∨ (w3.heap.size ≤ j ∧ ¬ (D j ∨ j = br))) wr y4) := Lib.hid (((HO3'.out.mono fun j hj => HNF.out wr HOF.out.size j hj).trans (HOC.out.mono fun j hj => hj.imp id fun h => ⟨h.1, fun e => h.2 (.inl e)⟩)).trans (HO4.out.mono fun j hj => HNF.out v3 (Nat.le_trans HOF.out.size (Nat.le_trans HO3'.out.size HOC.out.size)) j hj))
              have HB4 : Hid (Blk y4 b14 49 [.int .i64 4, .int .i64 3]) := Lib.hid ((HB14.out.only HOC.out (fun e => by have h1 := HDD.out.2.2.2.2.2.1; have h2 := HBW.out.lt; have h3 := HB14E.out; rcases e with e | e; omega; exact e.2 (.inr rfl))).later HO4.out)
              have HDB4 : Hid (∀ j, (fun j => (D j ∨ j = br) ∨ j = b14) j → j < y4.heap.size) := Lib.hid (fun j hj => Nat.lt_of_lt_of_le (HDB.out j hj) (Nat.le_trans HOC.out.size HO4.out.size))
              clear HG3 HD1
              rcases HG4.out with ⟨z, a1, a2, _, _, _, _, rfl, rfl, a9⟩ | ⟨a1, _, _, _, _, _, _, _, _, rfl, a11⟩
              · obtain ⟨n1, hn1⟩ : ∃ z, z = (((n0 : Int) + (-1))).toNat := ⟨_, rfl⟩
                have HC4 : Hid (CurAt l root hd seg (.func (.func 26) #[] #[.pointer (some ⟨bl, 0, none⟩)]) (fun j => (D j ∨ j = br) ∨ j = b14) w3.heap.size cb y4 (some n1)) := Lib.hid (by rw [hn1]; exact a9.step (Only.refl _ y4) fun j hj => .inl (.inl hj))
                have HNB : Hid (goTo seg (some n1) 3 [] = (n0 : Int)) := Lib.hid (by
                  have h1 : 0 ≤ ((n0 : Int) + (-1)) := a1
                  show ((n1 : Int) + 1) = (n0 : Int)
                  omega)
                clear a1 a2 a9 hn1
                have HD2 := Lib.hid (does_c HT.out y4 (lat_of HX4'.out _) cb (fun j => (D j ∨ j = br) ∨ j = b14) HDB4.out (.inl (.inl HDD.out.1)) HCW.out.1 (some n1) HC4.out 3 none 0 0 [] (Src.nil_ _))
                obtain ⟨q0, q1⟩ := HB4.out.pair
                go_upto_region 16 with (go_at_call 14; (with_reducible refine HD2.out.mono ?_); rintro e v5 ⟨P5, pn5, pc5, U5, un5, uc5, i25, i35, t5, er5, rfl, ho, hg⟩; have HOC5 := Lib.hid ho; have HG5 := Lib.hid hg; clear ho hg)
                clear q0 q1
                obtain ⟨y5, hy5⟩ : ∃ W, W = v5.alloc (.cells #[.slice P5 pn5 pc5, .slice U5 un5 uc5, .int .i64 i25, .int .i64 i35] 39) := ⟨_, rfl⟩
                obtain ⟨b18, hb18⟩ : ∃ z, z = v5.heap.size := ⟨_, rfl⟩
                have HO5 : Hid (Only (v5.heap.size ≤ ·) v5 y5) := Lib.hid (by rw [hy5]; exact (Only.refl _ v5).alloc (fun _ h => h) _)
                have HB18 : Hid (Blk y5 b18 39 [.slice P5 pn5 pc5, .slice U5 un5 uc5, .int .i64 i25, .int .i64 i35]) := Lib.hid (by rw [hy5, hb18]; exact Blk.new v5 _ _)
                rw [← hy5, ← hb18]
                clear hy5 hb18
                have HF5 : Hid (Only (fun j => j = cb ∨ (w3.heap.size ≤ j ∧ ¬ (D j ∨ j = br))) wr y5) := Lib.hid ((HF4.out.trans (HOC5.out.mono fun j hj => hj.imp id fun h => ⟨h.1, fun e => h.2 (.inl e)⟩)).trans (HO5.out.mono fun j hj => HNF.out v5 (Nat.le_trans HOF.out.size (Nat.le_trans HF4.out.size HOC5.out.size)) j hj))
                have HG6 := Lib.hid (HG5.out.step (D' := (fun j => (D j ∨ j = br) ∨ j = b14)) (HO5.out.mono fun j hj => .inr hj) (fun j hj => .inl hj) HDB4.out (Nat.le_refl _))
                rw [HNB.out] at HG6
                rcases HG6.out with ⟨z5, a1, a2, a3, a4, a5, a6, rfl, rfl, a9⟩ | ⟨a1, _⟩
                case inr => exact absurd a1 (by have h1 := (List.getElem?_eq_some_iff.1 HYY.out.1).1; rintro (⟨h, _⟩ | ⟨h, _⟩); omega; exact h)
                rw [Int.toNat_natCast] at a2 a9
                have hzy : z5 = y := Option.some.inj (a2.symm.trans HYY.out.1)
                rw [hzy] at a3 a4 a5 a6
                have HC6 : Hid (CurAt l root hd seg (.func (.func 26) #[] #[.pointer (some ⟨bl, 0, none⟩)]) (fun j => D j ∨ j = br) w3.heap.size cb y5 (some n0)) := Lib.hid (a9.step (Only.refl _ y5) fun j hj => .inl (.inl (.inl hj)))
                have HBY : Hid (Blk y5 bx 39 [.slice P1 pn1 pc1, .slice U1 un1 uc1, .int .i64 i21, .int .i64 i31]) := Lib.hid (HBW.out.only HF5.out (fun e => by have h1 := HDD.out.2.2.2.2.2.1; rcases e with e | e; omega; exact e.2 (.inl HDD.out.2.1)))
                have HPY : Hid (Src y5 (.slice P1 pn1 pc1) y.1 ∧ Src y5 (.slice U1 un1 uc1) y.2.1) := Lib.hid ⟨src_at HPW.out.1 HF5.out (fun j hj e => e.elim (fun e => by have h1 := HDD.out.2.2.2.2.2.2.2 j (.inl hj); omega) fun e => e.2 (.inl (HDD.out.2.2.1 j hj))), src_at HPW.out.2.1 HF5.out (fun j hj e => e.elim (fun e => by have h1 := HDD.out.2.2.2.2.2.2.2 j (.inr hj); omega) fun e => e.2 (.inl (HDD.out.2.2.2.1 j hj)))⟩
                have HCS := Lib.hid (rSame_c y5 P5 U5 P1 U1 pn5 pc5 un5 uc5 pn1 pc1 un1 uc1 i25 i35 i21 i31 y.1 y.2.1 y.1 y.2.1 true a3.src a4.src HPY.out.1 HPY.out.2 (decide_eq_true ⟨rfl, rfl, a5.trans HYY.out.2.1.symm, a6.trans HYY.out.2.2.symm⟩))
                clear a1 a2 a3 a4 a5 a6 a9 hzy
                obtain ⟨r0, r1, r2, r3⟩ := HB18.out.four
                obtain ⟨s0, s1, s2, s3⟩ := HBY.out.four
                go_wp2_with (go_at_call 15; (with_reducible refine HCS.out.mono ?_); rintro e y6 ⟨rfl, ho⟩; have HO6 := Lib.hid ho; clear ho r0 r1 r2 r3 s0 s1 s2 s3)
                have HCZ := Lib.hid (HC6.out.step (HO6.out.mono fun j hj => .inr hj) (D' := fun j => D j ∨ j = br) fun j hj => .inl hj)
                have HOZ := Lib.hid ((HOF.out.trans HF5.out).trans (HO6.out.mono fun j hj => HNF.out y5 (Nat.le_trans HOF.out.size HF5.out.size) j hj))
                go_roundg (2 - 2)
                case measure => omega
                case rel => exact ⟨2, rfl, by omega, rfl, HCZ, HOZ⟩
              · have HCN : Hid (Blk y4 cb 75 [(.func (.func 26) #[] #[.pointer (some ⟨bl, 0, none⟩)]), .int .i64 root, .slice none 0 0]) := Lib.hid a11
                clear a1 a11
                have HD2 := Lib.hid (Seek_c HT.out y4 (lat_of HX4'.out _) cb (fun j => (D j ∨ j = br) ∨ j = b14) HDB4.out (.inl (.inl HDD.out.1)) HCW.out.1 _ HCN.out K kn kc key (HKY.out.later (on_new HO3.out HX4'.out)))
                go_upto_region 19 with (go_at_call 20; (with_reducible refine HD2.out.mono ?_); rintro e v5 ⟨P5, pn5, pc5, U5, un5, uc5, i25, i35, t5, er5, rfl, ho, hg⟩; have HOC5 := Lib.hid ho; have HG5 := Lib.hid hg; clear ho hg)
                obtain ⟨y5, hy5⟩ : ∃ W, W = v5.alloc (.cells #[.slice P5 pn5 pc5, .slice U5 un5 uc5, .int .i64 i25, .int .i64 i35] 39) := ⟨_, rfl⟩
                have HO5 : Hid (Only (v5.heap.size ≤ ·) v5 y5) := Lib.hid (by rw [hy5]; exact (Only.refl _ v5).alloc (fun _ h => h) _)
                rw [← hy5]
                clear hy5
                have HF5 : Hid (Only (fun j => j = cb ∨ (w3.heap.size ≤ j ∧ ¬ (D j ∨ j = br))) wr y5) := Lib.hid ((HF4.out.trans (HOC5.out.mono fun j hj => hj.imp id fun h => ⟨h.1, fun e => h.2 (.inl e)⟩)).trans (HO5.out.mono fun j hj => HNF.out v5 (Nat.le_trans HOF.out.size (Nat.le_trans HF4.out.size HOC5.out.size)) j hj))
                have HG6 := Lib.hid (HG5.out.step (D' := (fun j => (D j ∨ j = br) ∨ j = b14)) (HO5.out.mono fun j hj => .inr hj) (fun j hj => .inl hj) HDB4.out (Nat.le_refl _))
                rw [← HN0.out] at HG6
                rcases HG6.out with ⟨z5, a1, a2, a3, a4, a5, a6, rfl, rfl, a9⟩ | ⟨a1, _⟩
                case inr => exact absurd a1 (by have h1 := (List.getElem?_eq_some_iff.1 HYY.out.1).1; rintro (⟨h, _⟩ | ⟨h, _⟩); omega; exact h)
                rw [Int.toNat_natCast] at a9
                have HCZ : Hid (CurAt l root hd seg (.func (.func 26) #[] #[.pointer (some ⟨bl, 0, none⟩)]) (fun j => D j ∨ j = br) w3.heap.size cb y5 (some n0)) := Lib.hid (a9.step (Only.refl _ y5) fun j hj => .inl (.inl (.inl hj)))
                have HOZ := Lib.hid (HOF.out.trans HF5.out)
                clear a1 a2 a3 a4 a5 a6 a9
                go_wp2
                go_roundg (2 - 2)
                case measure => omega
                case rel => exact ⟨2, rfl, by omega, rfl, HCZ, HOZ⟩
end Go.Proofs.Ytnjhpjpeeehagaa
