/-
  CursorSeeks.
-/
import Derived.Test.YtnjhpjpeeehagaaGf
set_option linter.unusedVariables false
namespace Go.Proofs.Ytnjhpjpeeehagaa
open Go.RowKit

set_option maxRecDepth 100000 in
set_option maxHeartbeats 51200000 in
theorem seeks_walk (HM : MeetC) (w : World) (A : Option Addr) (n c : Nat) (root : Int) (l : List Nm) (h : Nms w (.slice A n c) l) (hok : ∀ x ∈ l, OkN x) (hrt : -9223372036854775808 ≤ root ∧ root ≤ 9223372036854775807) (K : Option Addr) (kn kc : Nat) (key : Bytes) (hkey : Src w (.slice K kn kc) key) :
    Calls Try.prog 7 #[.slice A n c, .int .i64 root, .slice K kn kc] w (Told w (.bool true)) := by
  have HN := Lib.hid h
  have HOK := Lib.hid hok
  have HRT : Hid ((Lit.int .i64 root).wf = true) := Lib.hid (by simp [Lit.wf, IntKind.min, IntKind.max, IntKind.signed, IntKind.bits]; omega)
  have HFW := Lib.hid (few2_w w A n c l h none 0 0 [] (Rw.nil_ w) (okN_len hok))
  obtain ⟨fb, hfb⟩ : ∃ b, b = few2B l [] := ⟨_, rfl⟩
  rw [← hfb] at HFW
  have HFB := Lib.hid hfb
  have HKY := Lib.hid hkey
  have HKN : Hid (kn = key.length) := Lib.hid (src_n hkey)
  clear hfb h hok hrt hkey
  cases fb with
  | false =>
    go_enter Try.func7, Try.ntmps7
    go_wp2_with (first
      | (go_at_call 8; (with_reducible refine HFW.out.mono ?_); rintro e w1 ⟨rfl, ho⟩; have HO1 := Lib.hid ho; clear ho)
      | (go_at_call 9; (with_reducible refine (calive_c _).mono ?_); rintro e w9 ⟨rfl, ho⟩; have HOF := Lib.hid (on_new HO1.out ho); clear ho))
    go_ret
    exact ⟨rfl, HOF.out⟩
  | true =>
    have HFF := Lib.hid (few2_few HFB.out.symm)
    have HF := Lib.hid (few_FewN HOK.out HFF.out.1)
    obtain ⟨seg, hseg⟩ : ∃ z, z = (okS (allP l root)).its := ⟨_, rfl⟩
    obtain ⟨ok, hokk⟩ : ∃ b, b = decide ((allP l root).1 = 0) := ⟨_, rfl⟩
    have HSL : Hid (seg.length ≤ 200) := Lib.hid (by rw [hseg]; exact Nat.le_trans okS_sz HFF.out.2.1)
    have HIT : Hid (∀ W, Only (w.heap.size ≤ ·) w W → Calls Try.prog 10 #[.slice A n c, .int .i64 root] W (ItemsSays W seg ok)) := Lib.hid (fun W hW => items_c HM W A n c root l (Rw.later HN.out hW) HF.out HRT.out seg hseg.symm (by have h1 := HSL.out; omega) ok hokk)
    have HSEG := Lib.hid (And.intro hseg hokk)
    clear hseg hokk
    by_cases h100 : (100 : Int) < (kn : Int)
    · go_enter Try.func7, Try.ntmps7
      go_wp2_with (first
        | (go_at_call 8; (with_reducible refine HFW.out.mono ?_); rintro e w1 ⟨rfl, ho⟩; have HO1 := Lib.hid ho; clear ho)
        | (go_at_call 9; (with_reducible refine (calive_c _).mono ?_); rintro e w9 ⟨rfl, ho⟩; have HOF := Lib.hid (on_new HO1.out ho); clear ho))
      go_ret
      exact ⟨rfl, HOF.out⟩
    · have hk100 : ¬ (100 : Int) < (kn : Int) := h100
      cases ok with
      | false =>
        go_enter Try.func7, Try.ntmps7
        go_wp2_with (first
          | (go_at_call 8; (with_reducible refine HFW.out.mono ?_); rintro e w1 ⟨rfl, ho⟩; have HO1 := Lib.hid ho; clear ho)
          | (go_at_call 10; (with_reducible refine (HIT.out w1 HO1.out).mono ?_); rintro e w2 ⟨⟨IA, ic, rfl, hi⟩, ho⟩; have HI2 := Lib.hid hi; have HO2 := Lib.hid (on_new HO1.out ho); clear hi ho)
          | (go_at_call 12; (with_reducible refine (Source_c w2 A n c).mono ?_); rintro e w3 ⟨⟨bl, rfl, _, hbl⟩, ho⟩; have HBL := Lib.hid hbl; have HO3 := Lib.hid (on_new HO2.out ho); have HI := Lib.hid (Rw.later HI2.out ho); clear hbl ho)
          | (go_at_call 11; (with_reducible refine (CrNew_c w3 26 _ root).mono ?_); rintro e w4 ⟨rfl, hc4, ho⟩; have HC4 := Lib.hid hc4; have HX4 := Lib.hid ho; clear hc4 ho)
          | (go_at_call 9; (with_reducible refine (calive_c w4).mono ?_); rintro e w9 ⟨rfl, ho⟩; have HOF := Lib.hid (on_new (on_new HO3.out HX4.out) ho); clear ho))
        go_ret
        exact ⟨rfl, HOF.out⟩
      | true =>
        obtain ⟨S9, hS9⟩ : ∃ S, allP l root = (0, S) := ⟨(allP l root).2, Prod.ext (of_decide_eq_true HSEG.out.2.symm) rfl⟩
        have hsg : seg = S9.its := by rw [HSEG.out.1, hS9]; rfl
        obtain ⟨hd, hhd⟩ : ∃ z, z = S9.dep := ⟨_, rfl⟩
        have HTR : Hid (∀ (w0 : World) (bl : Nat), Blk w0 bl 22 [.slice A n c] → Nms w0 (.slice A n c) l → Tr (fun _ => False) w0 (.func (.func 26) #[] #[.pointer (some ⟨bl, 0, none⟩)]) (fun lb r => downX l (fun _ => 11) (chE lb) 12 r) (fun key => downX l (fun _ => 11) (chP key) 12 root) False l root hd seg) := Lib.hid (fun w0 bl h1 h2 => by rw [hsg, hhd]; exact mk_tr (fun W hW => h1.later (lat_no hW)) (fun W hW => Rw.later h2 (lat_no hW)) HF.out hS9)
        clear hS9 hsg hhd HSEG
        go_enter Try.func7, Try.ntmps7
        go_upto_region 7 with (first
          | (go_at_call 8; (with_reducible refine HFW.out.mono ?_); rintro e w1 ⟨rfl, ho⟩; have HO1 := Lib.hid ho; clear ho)
          | (go_at_call 10; (with_reducible refine (HIT.out w1 HO1.out).mono ?_); rintro e w2 ⟨⟨IA, ic, rfl, hi⟩, ho⟩; have HI2 := Lib.hid hi; have HO2 := Lib.hid (on_new HO1.out ho); clear hi ho)
          | (go_at_call 12; (with_reducible refine (Source_c w2 A n c).mono ?_); rintro e w3 ⟨⟨bl, rfl, _, hbl⟩, ho⟩; have HBL := Lib.hid hbl; have HO3 := Lib.hid (on_new HO2.out ho); have HI := Lib.hid (Rw.later HI2.out ho); clear hbl ho)
          | (go_at_call 11; (with_reducible refine (CrNew_c w3 26 _ root).mono ?_); rintro e w4 ⟨rfl, hc4, ho⟩; have HC4 := Lib.hid hc4; have HX4 := Lib.hid ho; clear hc4 ho))
        obtain ⟨cb, hcb⟩ : ∃ z, z = w3.heap.size := ⟨_, rfl⟩
        rw [← hcb] at HC4 ⊢
        have HCW : Hid (w3.heap.size ≤ cb ∧ cb < w4.heap.size) := Lib.hid ⟨by omega, HC4.out.lt⟩
        have HT := Lib.hid (HTR.out w3 bl HBL.out (Rw.later HN.out HO3.out))
        clear hcb HTR HBL HIT HFW HFF HF HOK HRT HI2 HO2
        have HSK := Lib.hid (Seek_c HT.out w4 (lat_of HX4.out _) cb (fun j => j = cb) (fun j hj => by have h1 := HCW.out.2; have h2 : j = cb := hj; omega) rfl HCW.out.1 _ HC4.out K kn kc key (HKY.out.later (on_new HO3.out HX4.out)))
        have HSR := Lib.hid HT.out.srt
        go_upto_region 8 with (go_at_call 20; (with_reducible refine HSK.out.mono ?_); rintro e v1 ⟨P1, pn1, pc1, U1, un1, uc1, i21, i31, t1, er1, rfl, ho, hg⟩; have HOC := Lib.hid ho; have HG1 := Lib.hid hg; clear ho hg)
        obtain ⟨y1, hy1⟩ : ∃ W, W = v1.alloc (.cells #[.slice P1 pn1 pc1, .slice U1 un1 uc1, .int .i64 i21, .int .i64 i31] 39) := ⟨_, rfl⟩
        obtain ⟨bx, hbx⟩ : ∃ z, z = v1.heap.size := ⟨_, rfl⟩
        have HON : Hid (Only (v1.heap.size ≤ ·) v1 y1) := Lib.hid (by rw [hy1]; exact (Only.refl _ v1).alloc (fun _ h => h) _)
        have HBX : Hid (Blk y1 bx 39 [.slice P1 pn1 pc1, .slice U1 un1 uc1, .int .i64 i21, .int .i64 i31]) := Lib.hid (by rw [hy1, hbx]; exact Blk.new v1 _ _)
        rw [← hy1, ← hbx]
        have HXY : Hid (Only (w3.heap.size ≤ ·) w3 y1) := Lib.hid (on_new (HX4.out.trans (HOC.out.mono fun j hj => by have h1 := HCW.out.1; rcases hj with hj | hj; omega; exact hj.1)) HON.out)
        have HGY := Lib.hid (HG1.out.step (D' := fun j => j = cb) (HON.out.mono fun j hj => .inr hj) (fun j hj => .inl hj) (fun j hj => by have h1 := HCW.out.2; have h2 : j = cb := hj; omega) (Nat.le_refl _))
        have HCY : Hid (cb < y1.heap.size) := Lib.hid (by have h1 := HCW.out.2; have h2 := HOC.out.size; have h3 := HON.out.size; omega)
        clear hy1 hbx HON HOC HG1 HSK
        obtain ⟨yz, hyz⟩ : ∃ W, W = y1.alloc (.cells #[.slice none 0 0, .slice none 0 0, .int .i64 0, .int .i64 0] 39) := ⟨_, rfl⟩
        obtain ⟨bz, hbz⟩ : ∃ z, z = y1.heap.size := ⟨_, rfl⟩
        have HOZ : Hid (Only (y1.heap.size ≤ ·) y1 yz) := Lib.hid (by rw [hyz]; exact (Only.refl _ y1).alloc (fun _ h => h) _)
        have HBZ : Hid (Blk yz bz 39 [.slice none 0 0, .slice none 0 0, .int .i64 0, .int .i64 0]) := Lib.hid (by rw [hyz, hbz]; exact Blk.new y1 _ _)
        have HEZ := Lib.hid (And.intro hyz hbz)
        have HXZ := Lib.hid (on_new HXY.out HOZ.out)
        have HCZ : Hid (cb < bz) := Lib.hid (by have h1 := HCY.out; omega)
        clear hyz hbz
        rcases HGY.out with ⟨y, a1, a2, a3, a4, a5, a6, rfl, rfl, a9⟩ | ⟨a1, _, _, _, _, _, _, _, _, rfl, a11⟩
        · have a2' : seg[findP seg key]? = some y := by simpa using a2
          have HNL : Hid (¬ cmp y.1 key < 0) := Lib.hid (fun h9 => Nat.lt_irrefl _ ((srt_find HSR.out a2').1 h9))
          have HCV : Hid (CurAt l root hd seg (.func (.func 26) #[] #[.pointer (some ⟨bl, 0, none⟩)]) (fun j => j = cb ∨ j = bz) w3.heap.size cb yz (some (findP seg key))) := Lib.hid (by
            have h9 := a9.step (D' := (fun j => j = cb ∨ j = bz)) (HOZ.out.mono fun j hj => .inr hj) (fun j hj => by have h2 := HEZ.out.2; rcases hj with hj | hj; exact .inl (.inl hj); exact .inr (by omega))
            rwa [Int.toNat_natCast] at h9)
          have HP1 : Hid (Src y1 (.slice P1 pn1 pc1) y.1 ∧ Src y1 (.slice K kn kc) key) := Lib.hid ⟨a3.src, HKY.out.later (on_new HO3.out HXY.out)⟩
          obtain ⟨cz, hcz⟩ : ∃ z, z = cmp y.1 key := ⟨_, rfl⟩
          have HCZE := Lib.hid hcz
          have hneg : ¬ cz < 0 := by rw [hcz]; exact HNL.out
          have r0 := HBX.out.cell 0
          clear a1 a2 a2' a3 a4 a5 a6 a9 hcz
          go_upto_region 12 with (go_at_call 23; (with_reducible refine (Compare_c y1 _ _ _ _ HP1.out.1 HP1.out.2).mono ?_); rintro e w10 ⟨rfl, rfl⟩; rw [← HCZE.out])
          rw [← HEZ.out.1, ← HEZ.out.2]
          clear HEZ r0 hneg HCZE
          have HNX := Lib.hid (Prev_c HT.out yz (lat_of HXZ.out _) cb (fun j => j = cb ∨ j = bz) (fun j hj => by have h1 := HBZ.out.lt; have h2 := HCZ.out; omega) (.inl rfl) HCW.out.1 _ HCV.out)
          go_upto_region 15 with (go_at_call 19; (with_reducible refine HNX.out.mono ?_); rintro e w5 ⟨P5, pn5, pc5, U5, un5, uc5, i25, i35, t5, er5, rfl, ho5, hg5⟩; have HO5 := Lib.hid ho5; have HG5 := Lib.hid hg5; (have HB5 : Hid (Blk w5 bz 39 [.slice none 0 0, .slice none 0 0, .int .i64 0, .int .i64 0]) := Lib.hid (HBZ.out.only HO5.out (fun e => by have h2 := HCZ.out; rcases e with e | e; omega; exact e.2 (.inr rfl)))); (obtain ⟨q0, q1, q2', q3⟩ := HB5.out.four); have f0 := HB5.out.frozen 0; have f1 := HB5.out.frozen 1; have f2 := HB5.out.frozen 2; have f3 := HB5.out.frozen 3; clear ho5 hg5)
          have hk := it_set (a' := .slice P5 pn5 pc5) (b' := .slice U5 un5 uc5) (c' := .int .i64 i25) (d' := .int .i64 i35) HB5.out
          have HK1 := Lib.hid hk.1
          have HK2 := Lib.hid hk.2
          generalize hw6 : (((w5.setCell ⟨bz, 0, none⟩ (.slice P5 pn5 pc5)).setCell ⟨bz, 1, none⟩ (.slice U5 un5 uc5)).setCell ⟨bz, 2, none⟩ (.int .i64 i25)).setCell ⟨bz, 3, none⟩ (.int .i64 i35) = w6 at HK1 HK2 ⊢
          clear hk hw6 q0 q1 q2' q3 f0 f1 f2 f3
          have HXF := Lib.hid (on_new HO3.out (((HXZ.out).trans (HO5.out.mono fun j hj => by have h1 := HCW.out.1; rcases hj with hj | hj; omega; exact hj.1)).trans (HK2.out.mono fun j hj => by have h1 := HCW.out.1; have h2 := HCZ.out; have h3 : j = bz := hj; omega)))
          have HGF := Lib.hid (HG5.out.step (D' := fun j => j = cb ∨ j = bz) (HK2.out.mono fun j hj => .inl ⟨.inr hj, fun e => by have h2 := HCZ.out; have h3 : j = bz := hj; omega⟩) (fun j hj => .inl hj) (fun j hj => by have h1 := HBZ.out.lt; have h2 := HCZ.out; omega) (Nat.le_refl _))
          rcases HGF.out with ⟨y5, a1, a2, a3, a4, a5, a6, rfl, rfl, a9⟩ | ⟨a1, _, _, _, _, _, _, _, _, rfl, _⟩
          · have HLS : Hid (cmp y5.1 key < 0) := Lib.hid (by have h8 : ((findP seg key : Nat) : Int) + -1 = ((findP seg key : Nat) : Int) + -1 := rfl; exact (srt_find HSR.out a2).2 (by have h7 : prvP seg (some (findP seg key)) = ((findP seg key : Nat) : Int) + -1 := rfl; rw [h7] at a1 ⊢; omega))
            have HP5 : Hid (∀ W, Only (w6.heap.size ≤ ·) w6 W → Src W (.slice P5 pn5 pc5) y5.1 ∧ Src W (.slice K kn kc) key) := Lib.hid (fun W hW => ⟨a3.src.later hW, (HKY.out.later HXF.out).later hW⟩)
            obtain ⟨cz, hcz⟩ : ∃ z, z = cmp y5.1 key := ⟨_, rfl⟩
            have HCZE := Lib.hid hcz
            have hneg : cz < 0 := by rw [hcz]; exact HLS.out
            clear a1 a2 a3 a4 a5 a6 a9 hcz
            go_wp2_with (first
              | (go_at_call 9; (with_reducible refine (calive_c _).mono ?_); rintro e w9 ⟨rfl, ho⟩; have HO9 := Lib.hid ho; have k9 : w9.cell? ⟨bz, 0, none⟩ = some (.slice P5 pn5 pc5) := (HK1.out.later ho).cell 0; have HOF := Lib.hid (on_new HXF.out ho); clear ho)
              | (go_at_call 23; (with_reducible refine (Compare_c w9 _ _ _ _ (HP5.out w9 HO9.out).1 (HP5.out w9 HO9.out).2).mono ?_); rintro e w10 ⟨rfl, rfl⟩; rw [← HCZE.out]))
            go_ret
            exact ⟨rfl, HOF.out⟩
          · obtain rfl : er5 = 0 := by rcases a1 with h9 | h9; exact h9.2; exact h9.1.elim
            clear a1
            go_wp2_with (go_at_call 9; (with_reducible refine (calive_c _).mono ?_); rintro e w9 ⟨rfl, ho⟩; have HOF := Lib.hid (on_new HXF.out ho); clear ho)
            go_ret
            exact ⟨rfl, HOF.out⟩
        · obtain rfl : er1 = 0 := by rcases a1 with h9 | h9; exact h9.2; exact h9.1.elim
          have HFA : Hid (seg.length ≤ findP seg key) := Lib.hid (by rcases a1 with h9 | h9; omega; exact h9.1.elim)
          have HCV := Lib.hid (a11.step (D' := (fun j => j = cb ∨ j = bz)) (HOZ.out.mono fun j hj => .inr hj) (fun j hj => by have h2 := HEZ.out.2; rcases hj with hj | hj; exact .inl hj; exact .inr (by omega)))
          have HCV2 : Hid (Blk yz cb 75 [(.func (.func 26) #[] #[.pointer (some ⟨bl, 0, none⟩)]), .int .i64 root, .slice none 0 0]) := HCV
          clear a1 a11
          go_upto_region 12 with (fail)
          rw [← HEZ.out.1, ← HEZ.out.2]
          clear HEZ
          have HNX := Lib.hid (Last_c HT.out yz (lat_of HXZ.out _) cb (fun j => j = cb ∨ j = bz) (fun j hj => by have h1 := HBZ.out.lt; have h2 := HCZ.out; omega) (.inl rfl) HCW.out.1 _ HCV2.out)
          go_upto_region 15 with (go_at_call 18; (with_reducible refine HNX.out.mono ?_); rintro e w5 ⟨P5, pn5, pc5, U5, un5, uc5, i25, i35, t5, er5, rfl, ho5, hg5⟩; have HO5 := Lib.hid ho5; have HG5 := Lib.hid hg5; (have HB5 : Hid (Blk w5 bz 39 [.slice none 0 0, .slice none 0 0, .int .i64 0, .int .i64 0]) := Lib.hid (HBZ.out.only HO5.out (fun e => by have h2 := HCZ.out; rcases e with e | e; omega; exact e.2 (.inr rfl)))); (obtain ⟨q0, q1, q2', q3⟩ := HB5.out.four); have f0 := HB5.out.frozen 0; have f1 := HB5.out.frozen 1; have f2 := HB5.out.frozen 2; have f3 := HB5.out.frozen 3; clear ho5 hg5)
          have hk := it_set (a' := .slice P5 pn5 pc5) (b' := .slice U5 un5 uc5) (c' := .int .i64 i25) (d' := .int .i64 i35) HB5.out
          have HK1 := Lib.hid hk.1
          have HK2 := Lib.hid hk.2
          generalize hw6 : (((w5.setCell ⟨bz, 0, none⟩ (.slice P5 pn5 pc5)).setCell ⟨bz, 1, none⟩ (.slice U5 un5 uc5)).setCell ⟨bz, 2, none⟩ (.int .i64 i25)).setCell ⟨bz, 3, none⟩ (.int .i64 i35) = w6 at HK1 HK2 ⊢
          clear hk hw6 q0 q1 q2' q3 f0 f1 f2 f3
          have HXF := Lib.hid (on_new HO3.out (((HXZ.out).trans (HO5.out.mono fun j hj => by have h1 := HCW.out.1; rcases hj with hj | hj; omega; exact hj.1)).trans (HK2.out.mono fun j hj => by have h1 := HCW.out.1; have h2 := HCZ.out; have h3 : j = bz := hj; omega)))
          have HGF := Lib.hid (HG5.out.step (D' := fun j => j = cb ∨ j = bz) (HK2.out.mono fun j hj => .inl ⟨.inr hj, fun e => by have h2 := HCZ.out; have h3 : j = bz := hj; omega⟩) (fun j hj => .inl hj) (fun j hj => by have h1 := HBZ.out.lt; have h2 := HCZ.out; omega) (Nat.le_refl _))
          rcases HGF.out with ⟨y5, a1, a2, a3, a4, a5, a6, rfl, rfl, a9⟩ | ⟨a1, _, _, _, _, _, _, _, _, rfl, _⟩
          · have HLS : Hid (cmp y5.1 key < 0) := Lib.hid (by exact (srt_find HSR.out a2).2 (by have h7 := (List.getElem?_eq_some_iff.1 a2).1; have h8 := HFA.out; omega))
            have HP5 : Hid (∀ W, Only (w6.heap.size ≤ ·) w6 W → Src W (.slice P5 pn5 pc5) y5.1 ∧ Src W (.slice K kn kc) key) := Lib.hid (fun W hW => ⟨a3.src.later hW, (HKY.out.later HXF.out).later hW⟩)
            obtain ⟨cz, hcz⟩ : ∃ z, z = cmp y5.1 key := ⟨_, rfl⟩
            have HCZE := Lib.hid hcz
            have hneg : cz < 0 := by rw [hcz]; exact HLS.out
            clear a1 a2 a3 a4 a5 a6 a9 hcz
            go_wp2_with (first
              | (go_at_call 9; (with_reducible refine (calive_c _).mono ?_); rintro e w9 ⟨rfl, ho⟩; have HO9 := Lib.hid ho; have k9 : w9.cell? ⟨bz, 0, none⟩ = some (.slice P5 pn5 pc5) := (HK1.out.later ho).cell 0; have HOF := Lib.hid (on_new HXF.out ho); clear ho)
              | (go_at_call 23; (with_reducible refine (Compare_c w9 _ _ _ _ (HP5.out w9 HO9.out).1 (HP5.out w9 HO9.out).2).mono ?_); rintro e w10 ⟨rfl, rfl⟩; rw [← HCZE.out]))
            go_ret
            exact ⟨rfl, HOF.out⟩
          · obtain rfl : er5 = 0 := by rcases a1 with h9 | h9; exact h9.2; exact h9.1.elim
            clear a1
            go_wp2_with (go_at_call 9; (with_reducible refine (calive_c _).mono ?_); rintro e w9 ⟨rfl, ho⟩; have HOF := Lib.hid (on_new HXF.out ho); clear ho)
            go_ret
            exact ⟨rfl, HOF.out⟩
end Go.Proofs.Ytnjhpjpeeehagaa
