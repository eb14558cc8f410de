/-
  meet.
-/
import Derived.Test.YtnjhpjpeeehagaaTmd
set_option linter.unusedVariables false
namespace Go.Proofs.Ytnjhpjpeeehagaa
open Go.RowKit

set_option maxRecDepth 100000 in
set_option maxHeartbeats 51200000 in
theorem Meet_c (w0 w : World) (B bs mb bl : Nat) (A0 : Option Addr) (n0 c0 : Nat) (l : List Nm) (hb : Blk w0 bl 22 [.slice A0 n0 c0]) (h : Nms w0 (.slice A0 n0 c0) l) (hf : FewN l) (h0 : Only (w0.heap.size ≤ ·) w0 w)
    (S : Sv) (vI vR : Value) (hS : Sur w B bs mb bl l S vI vR) (ref : Int) (href : (Lit.int .i64 ref).wf = true) (dp : Nat) (hdp : 1 ≤ dp) (hdp2 : dp ≤ 13) (L H : Option Addr) (ln lc hn hc : Nat) (b : Bool) (sp : Sn) (hsp : Stab (FrM bs mb vI vR) w (fun W => SnV W sp (.slice L ln lc) (.slice H hn hc) b)) :
    Calls Try.prog 38 #[.pointer (some ⟨bs, 0, none⟩), .int .i64 ref, .agg #[.int .i64 (dp : Int), .slice L ln lc, .slice H hn hc, .bool b]] w (MeetSays w B bs mb bl l vI vR (meetP l dp ref sp S)) := by
  obtain ⟨hB1, hB2, hB3, hSB, ⟨C, hCo, hCd⟩, hRo, ⟨D, hDm, hDk⟩, hnd, hrn, hil⟩ := hS
  have hrl := refs_few hnd hrn
  have hfl := hf.1
  obtain ⟨IA, ic, rfl, _⟩ := raw_of_own hCo
  obtain ⟨RA, rc, rfl, _⟩ := raw_of_own hRo
  obtain ⟨ni, hni⟩ : ∃ n, n = S.its.length := ⟨_, rfl⟩
  obtain ⟨nr, hnr⟩ : ∃ n, n = S.refs.length := ⟨_, rfl⟩
  rw [← hni] at hCo hCd hSB hsp hil ⊢
  rw [← hnr] at hRo hDm hSB hsp hil hrl hCd ⊢
  have HNI := Lib.hid hni
  have HNR := Lib.hid hnr
  have hni2 : ni ≤ 1000000 := by omega
  have hnr2 : nr ≤ 1000 := by omega
  obtain ⟨R, hR⟩ : ∃ R, R = meetP l dp ref sp S := ⟨_, rfl⟩
  rw [← hR]
  unfold meetP at hR
  have HR := Lib.hid hR
  have HBS := Lib.hid (And.intro hB1 (And.intro hB2 hB3))
  have HCO := Lib.hid hCo
  have HCD := Lib.hid hCd
  have HRO := Lib.hid hRo
  have HDM := Lib.hid hDm
  have HDK := Lib.hid hDk
  have HND := Lib.hid hnd
  have HRN := Lib.hid hrn
  have HIL := Lib.hid hil
  have HSP := Lib.hid hsp
  have HFW := Lib.hid hf
  have HREF := Lib.hid href
  have HDP := Lib.hid hdp
  have HBL := Lib.hid hb
  have HNM := Lib.hid h
  have HO0 := Lib.hid h0
  obtain ⟨w1, hw1⟩ : ∃ x, x = w.alloc (.cells #[.int .i64 (dp : Int), .slice L ln lc, .slice H hn hc, .bool b] 95) := ⟨_, rfl⟩
  obtain ⟨b5, hb5⟩ : ∃ x, x = w.heap.size := ⟨_, rfl⟩
  have Hb5 : Hid (Blk w1 b5 95 [.int .i64 (dp : Int), .slice L ln lc, .slice H hn hc, .bool b]) := Lib.hid (by rw [hw1, hb5]; exact Blk.new w _ [.int .i64 (dp : Int), .slice L ln lc, .slice H hn hc, .bool b])
  have HXb5 : Hid (Only (w.heap.size ≤ ·) w w1) := Lib.hid (by rw [hw1]; exact (Only.refl _ w).alloc (fun _ h => h) _)
  have HEQb5 : Hid (w1 = w.alloc (.cells #[.int .i64 (dp : Int), .slice L ln lc, .slice H hn hc, .bool b] 95) ∧ b5 = w.heap.size) := Lib.hid ⟨hw1, hb5⟩
  clear hw1 hb5
  obtain ⟨w2, hw2⟩ : ∃ x, x = w1.alloc (.cells #[.bool false, .slice none 0 0, .slice none 0 0] 55) := ⟨_, rfl⟩
  obtain ⟨b6, hb6⟩ : ∃ x, x = w1.heap.size := ⟨_, rfl⟩
  have Hb6 : Hid (Blk w2 b6 55 [.bool false, .slice none 0 0, .slice none 0 0]) := Lib.hid (by rw [hw2, hb6]; exact Blk.new w1 _ [.bool false, .slice none 0 0, .slice none 0 0])
  have HXb6 : Hid (Only (w1.heap.size ≤ ·) w1 w2) := Lib.hid (by rw [hw2]; exact (Only.refl _ w1).alloc (fun _ h => h) _)
  have HEQb6 : Hid (w2 = w1.alloc (.cells #[.bool false, .slice none 0 0, .slice none 0 0] 55) ∧ b6 = w1.heap.size) := Lib.hid ⟨hw2, hb6⟩
  clear hw2 hb6
  have HB6E : Hid (b6 = b5 + 1) := Lib.hid (by rw [HEQb6.out.2, HEQb5.out.1, HEQb5.out.2]; simp)
  have HN2 := Lib.hid (on_new HXb5.out HXb6.out)
  have HB5 := Lib.hid (Hb5.out.later HXb6.out)
  have HB6 := Hb6
  have HB6N : Hid (w.heap.size ≤ b6) := Lib.hid (by have := HB6E.out; have := HEQb5.out.2; omega)
  have HB5N : Hid (w.heap.size ≤ b5 ∧ b5 < w2.heap.size ∧ b6 < w2.heap.size) := Lib.hid ⟨by have := HEQb5.out.2; omega, HB5.out.lt, Hb6.out.lt⟩
  have HBSW : Hid (bs < w.heap.size ∧ mb < w.heap.size) := Lib.hid (by omega)
  have HS := Lib.hid (hSB.later HN2.out)
  have HOM : Hid (Only (fun j => j = bs ∨ j = mb ∨ w.heap.size ≤ j) w w2) := Lib.hid (HN2.out.mono fun j hj => .inr (.inr hj))
  clear hB1 hB2 hB3 hSB hCo hCd hRo hDm hDk hnd hrn hil hrl hfl hni hnr hR hsp hf href hdp hb h h0
  go_enter Try.func38, Try.ntmps38
  go_upto_region 1 with (fail)
  rw [← HEQb5.out.1, ← HEQb5.out.2, ← HEQb6.out.1, ← HB6E.out]
  obtain ⟨r0, r1, r2, r3⟩ := HB5.out.four
  obtain ⟨e0, e1, e2⟩ := HB6.out.tri
  obtain ⟨f0, f1, f2⟩ := HB6.out.melt3
  have s0 := HS.out.cell 0
  by_cases h12 : 12 < dp
  · have h12' : (12 : Int) < (dp : Int) := by omega
    have HRR : Hid (R = (130, none)) := Lib.hid (by rw [HR.out, if_pos h12])
    go_wp2_with (fail)
    have HF1 : Hid (Blk (((w2.setCell ⟨b6, 0, none⟩ (.bool false)).setCell ⟨b6, 1, none⟩ (.slice none 0 0)).setCell ⟨b6, 2, none⟩ (.slice none 0 0)) b6 55 [.bool false, .slice none 0 0, .slice none 0 0]) := Lib.hid (((HB6.out.set_ 0 _).set_ 1 _).set_ 2 _)
    have HF2 : Hid (Only (fun j => FrM bs mb (.slice IA ni ic) (.slice RA nr rc) j ∨ w.heap.size ≤ j) w (((w2.setCell ⟨b6, 0, none⟩ (.bool false)).setCell ⟨b6, 1, none⟩ (.slice none 0 0)).setCell ⟨b6, 2, none⟩ (.slice none 0 0))) := Lib.hid ((((HOM.out.mono fun j hj => frm_of hj).setCell (p := ⟨b6, 0, none⟩) (.inr HB6N.out) _).setCell (p := ⟨b6, 1, none⟩) (.inr HB6N.out) _).setCell (p := ⟨b6, 2, none⟩) (.inr HB6N.out) _)
    exact bodyPost_ret (v := .tuple #[.agg #[.bool false, .slice none 0 0, .slice none 0 0], .int .i64 130]) (results_cell2 rfl rfl rfl (load_node (.inr rfl) HF1.out)) rfl ⟨HF2.out, false, none, 0, 0, none, 0, 0, by rw [HRR.out], fun x S' h => by rw [HRR.out] at h; cases h⟩
  · have h12' : ¬ (12 : Int) < (dp : Int) := by omega
    have H12 := Lib.hid h12
    clear h12
    cases hno : nodeP l ref with
    | none =>
      have HRR : Hid (R = (11, none)) := Lib.hid (by rw [HR.out, if_neg H12.out, hno])
      go_upto_region 4 with (go_at_call 48; (with_reducible refine (ask_c _ bl A0 n0 c0 ref l (HBL.out.later (on_new HO0.out HN2.out)) (HNM.out.later (on_new HO0.out HN2.out)) HFW.out).mono ?_); rintro e w3 ⟨⟨lf, P, p, pc, Q, q, qc, er, rfl, her, hnk⟩, ho⟩; rw [hno] at her hnk; simp only [Option.isSome_none, Bool.false_eq_true, if_false] at her; subst her; have HNK := Lib.hid hnk; have HO3 := Lib.hid ho; clear hnk ho)
      replace HB6 := Lib.hid (HB6.out.later HO3.out)
      replace HOM := Lib.hid (HOM.out.trans (HO3.out.mono fun j hj => .inr (.inr (Nat.le_trans HN2.out.size hj))))
      clear e0 e1 e2 f0 f1 f2
      obtain ⟨w4, hw4⟩ : ∃ x, x = w3.alloc (.cells #[.bool lf, .slice P p pc, .slice Q q qc] 55) := ⟨_, rfl⟩
      obtain ⟨b8, hb8⟩ : ∃ x, x = w3.heap.size := ⟨_, rfl⟩
      have Hb8 : Hid (Blk w4 b8 55 [.bool lf, .slice P p pc, .slice Q q qc]) := Lib.hid (by rw [hw4, hb8]; exact Blk.new w3 _ [.bool lf, .slice P p pc, .slice Q q qc])
      have HXb8 : Hid (Only (w3.heap.size ≤ ·) w3 w4) := Lib.hid (by rw [hw4]; exact (Only.refl _ w3).alloc (fun _ h => h) _)
      have HEQb8 : Hid (w4 = w3.alloc (.cells #[.bool lf, .slice P p pc, .slice Q q qc] 55) ∧ b8 = w3.heap.size) := Lib.hid ⟨hw4, hb8⟩
      clear hw4 hb8
      rw [← HEQb8.out.1, ← HEQb8.out.2]
      replace HB6 := Lib.hid (HB6.out.later HXb8.out)
      replace HOM := Lib.hid (HOM.out.trans (HXb8.out.mono fun j hj => .inr (.inr (Nat.le_trans (Nat.le_trans HN2.out.size HO3.out.size) hj))))
      obtain ⟨e0, e1, e2⟩ := HB6.out.tri
      obtain ⟨f0, f1, f2⟩ := HB6.out.melt3
      go_wp2_with (fail)
      have HF1 : Hid (Blk (((w4.setCell ⟨b6, 0, none⟩ (.bool false)).setCell ⟨b6, 1, none⟩ (.slice none 0 0)).setCell ⟨b6, 2, none⟩ (.slice none 0 0)) b6 55 [.bool false, .slice none 0 0, .slice none 0 0]) := Lib.hid (((HB6.out.set_ 0 _).set_ 1 _).set_ 2 _)
      have HF2 : Hid (Only (fun j => FrM bs mb (.slice IA ni ic) (.slice RA nr rc) j ∨ w.heap.size ≤ j) w (((w4.setCell ⟨b6, 0, none⟩ (.bool false)).setCell ⟨b6, 1, none⟩ (.slice none 0 0)).setCell ⟨b6, 2, none⟩ (.slice none 0 0))) := Lib.hid ((((HOM.out.mono fun j hj => frm_of hj).setCell (p := ⟨b6, 0, none⟩) (.inr HB6N.out) _).setCell (p := ⟨b6, 1, none⟩) (.inr HB6N.out) _).setCell (p := ⟨b6, 2, none⟩) (.inr HB6N.out) _)
      exact bodyPost_ret (v := .tuple #[.agg #[.bool false, .slice none 0 0, .slice none 0 0], .int .i64 11]) (results_cell2 rfl rfl rfl (load_node (.inr rfl) HF1.out)) rfl ⟨HF2.out, false, none, 0, 0, none, 0, 0, by rw [HRR.out], fun x S' h => by rw [HRR.out] at h; cases h⟩
    | some x =>
      have HNO := Lib.hid hno
      have HSM : Hid (Sml x) := Lib.hid (by have := HFW.out.get ref; rw [hno] at this; exact this)
      go_upto_region 4 with (go_at_call 48; (with_reducible refine (ask_c _ bl A0 n0 c0 ref l (HBL.out.later (on_new HO0.out HN2.out)) (HNM.out.later (on_new HO0.out HN2.out)) HFW.out).mono ?_); rintro e w3 ⟨⟨lf, P, p, pc, Q, q, qc, er, rfl, her, hnk⟩, ho⟩; rw [hno] at her hnk; simp only [Option.isSome_some, if_true] at her; subst her; have HNK := Lib.hid hnk; have HO3 := Lib.hid ho; clear hnk ho)
      have HLF : Hid (lf = x.leaf) := Lib.hid HNK.out.now.1
      replace HB6 := Lib.hid (HB6.out.later HO3.out)
      replace HB5 := Lib.hid (HB5.out.later HO3.out)
      replace HS := Lib.hid (HS.out.later HO3.out)
      replace HOM := Lib.hid (HOM.out.trans (HO3.out.mono fun j hj => .inr (.inr (Nat.le_trans HN2.out.size hj))))
      clear e0 e1 e2 f0 f1 f2 r0 r1 r2 r3 s0
      obtain ⟨w4, hw4⟩ : ∃ x, x = w3.alloc (.cells #[.bool lf, .slice P p pc, .slice Q q qc] 55) := ⟨_, rfl⟩
      obtain ⟨b8, hb8⟩ : ∃ x, x = w3.heap.size := ⟨_, rfl⟩
      have Hb8 : Hid (Blk w4 b8 55 [.bool lf, .slice P p pc, .slice Q q qc]) := Lib.hid (by rw [hw4, hb8]; exact Blk.new w3 _ [.bool lf, .slice P p pc, .slice Q q qc])
      have HXb8 : Hid (Only (w3.heap.size ≤ ·) w3 w4) := Lib.hid (by rw [hw4]; exact (Only.refl _ w3).alloc (fun _ h => h) _)
      have HEQb8 : Hid (w4 = w3.alloc (.cells #[.bool lf, .slice P p pc, .slice Q q qc] 55) ∧ b8 = w3.heap.size) := Lib.hid ⟨hw4, hb8⟩
      clear hw4 hb8
      rw [← HEQb8.out.1, ← HEQb8.out.2]
      have HNK4 := Lib.hid (HNK.out.later HXb8.out)
      replace HB6 := Lib.hid (HB6.out.later HXb8.out)
      replace HB5 := Lib.hid (HB5.out.later HXb8.out)
      replace HS := Lib.hid (HS.out.later HXb8.out)
      replace HOM := Lib.hid (HOM.out.trans (HXb8.out.mono fun j hj => .inr (.inr (Nat.le_trans (Nat.le_trans HN2.out.size HO3.out.size) hj))))
      have HB8N : Hid (w3.heap.size ≤ b8 ∧ w.heap.size ≤ b8 ∧ w2.heap.size ≤ w3.heap.size) := Lib.hid (by have h1 := HN2.out.size; have h2 := HO3.out.size; have := HEQb8.out.2; omega)
      have HN4 := Lib.hid (on_new (on_new HN2.out HO3.out) HXb8.out)
      have HDM4 : Hid (MapB w4 mb nr D) := Lib.hid (HDM.out.on HN4.out (by have := HBSW.out; omega))
      have HS4 := HS
      have HHB8 := Hb8
      obtain ⟨t0, t1, t2⟩ := Hb8.out.tri
      have s1 := HS.out.cell 1
      by_cases hm : ref ∈ S.refs
      · have HRR : Hid (R = (131, none)) := Lib.hid (by
          rw [HR.out, if_neg H12.out, HNO.out]
          simp only [decide_eq_true hm, Bool.true_or, if_true])
        have hl := look13 HDM4.out HREF.out (c := 1) (by rw [HDK.out ref HREF.out, if_pos hm])
        obtain ⟨w5, hup, hm5, hg5⟩ := put13 HDM4.out (by omega) HREF.out 2
        have hl5 := look13 hm5 HREF.out (c := 2) (Maps.atKey_put_same (map_is HDM4.out) (keyed.key (Maps.keyOf_int_mk Try.underlying3 HREF.out)) _ _)
        have HU5 : Hid (Only (fun j => j = mb ∨ w4.heap.size ≤ j) w4 w5) := Lib.hid ((Only.refl _ w4).grown hg5 (fun k hk => .inr hk) (fun g e => by cases e; exact .inl rfl))
        replace HB6 := Lib.hid (HB6.out.only HU5.out (by have h1 := HB6N.out; have h2 := HBSW.out; have h3 := HB6.out.lt; omega))
        have HS5 := Lib.hid (HS.out.only HU5.out (by
          have h2 := HBSW.out
          have h3 := HS.out.lt
          rintro (h | h)
          · obtain ⟨es, ck, hh⟩ := HDM4.out.block
            have := HS.out
            unfold Blk at this
            rw [h, hh] at this
            cases this
          · omega))
        replace HOM : Hid (Only (fun j => j = bs ∨ j = mb ∨ w.heap.size ≤ j) w w5) := Lib.hid (HOM.out.trans (HU5.out.mono fun j hj => hj.elim (fun h => .inr (.inl h)) fun h => .inr (.inr (Nat.le_trans HN4.out.size h))))
        replace HS := HS5
        clear hg5
        clear hm
        go_upto_region 7 with (fail)
        clear hl hup
        obtain ⟨e0, e1, e2⟩ := HB6.out.tri
        obtain ⟨f0, f1, f2⟩ := HB6.out.melt3
        have s1 := HS.out.cell 1
        go_wp2_with (fail)
        have HF1 : Hid (Blk (((w5.setCell ⟨b6, 0, none⟩ (.bool false)).setCell ⟨b6, 1, none⟩ (.slice none 0 0)).setCell ⟨b6, 2, none⟩ (.slice none 0 0)) b6 55 [.bool false, .slice none 0 0, .slice none 0 0]) := Lib.hid (((HB6.out.set_ 0 _).set_ 1 _).set_ 2 _)
        have HF2 : Hid (Only (fun j => FrM bs mb (.slice IA ni ic) (.slice RA nr rc) j ∨ w.heap.size ≤ j) w (((w5.setCell ⟨b6, 0, none⟩ (.bool false)).setCell ⟨b6, 1, none⟩ (.slice none 0 0)).setCell ⟨b6, 2, none⟩ (.slice none 0 0))) := Lib.hid ((((HOM.out.mono fun j hj => frm_of hj).setCell (p := ⟨b6, 0, none⟩) (.inr HB6N.out) _).setCell (p := ⟨b6, 1, none⟩) (.inr HB6N.out) _).setCell (p := ⟨b6, 2, none⟩) (.inr HB6N.out) _)
        exact bodyPost_ret (v := .tuple #[.agg #[.bool false, .slice none 0 0, .slice none 0 0], .int .i64 131]) (results_cell2 rfl rfl rfl (load_node (.inr rfl) HF1.out)) rfl ⟨HF2.out, false, none, 0, 0, none, 0, 0, by rw [HRR.out], fun x S' h => by rw [HRR.out] at h; cases h⟩
      · have HMM := Lib.hid hm
        have hl := look13 HDM4.out HREF.out (c := 0) (by rw [HDK.out ref HREF.out, if_neg hm])
        obtain ⟨w5, hup, hm5, hg5⟩ := put13 HDM4.out (by omega) HREF.out 1
        have hl5 := look13 hm5 HREF.out (c := 1) (Maps.atKey_put_same (map_is HDM4.out) (keyed.key (Maps.keyOf_int_mk Try.underlying3 HREF.out)) _ _)
        have HM5 := Lib.hid hm5
        have HU5 : Hid (Only (fun j => j = mb ∨ w4.heap.size ≤ j) w4 w5) := Lib.hid ((Only.refl _ w4).grown hg5 (fun k hk => .inr hk) (fun g e => by cases e; exact .inl rfl))
        replace HB6 := Lib.hid (HB6.out.only HU5.out (by have h1 := HB6N.out; have h2 := HBSW.out; have h3 := HB6.out.lt; omega))
        have HS5 := Lib.hid (HS.out.only HU5.out (by
          have h2 := HBSW.out
          have h3 := HS.out.lt
          rintro (h | h)
          · obtain ⟨es, ck, hh⟩ := HDM4.out.block
            have := HS.out
            unfold Blk at this
            rw [h, hh] at this
            cases this
          · omega))
        replace HOM : Hid (Only (fun j => j = bs ∨ j = mb ∨ w.heap.size ≤ j) w w5) := Lib.hid (HOM.out.trans (HU5.out.mono fun j hj => hj.elim (fun h => .inr (.inl h)) fun h => .inr (.inr (Nat.le_trans HN4.out.size h))))
        replace HS := HS5
        clear hg5
        clear hm hm5
        go_upto_region 7 with (fail)
        clear hl hup
        have HB8 := Lib.hid (HHB8.out.only (HU5.out) (by have h1 := HB8N.out; have h2 := HBSW.out; have h3 := HHB8.out.lt; omega))
        have HB5' := Lib.hid (HB5.out.only (HU5.out) (by have h1 := HB5N.out; have h2 := HBSW.out; have h3 := HB5.out.lt; omega))
        have HN5 : Hid (NodK w2.heap.size none w5 x lf (.slice P p pc) (.slice Q q qc)) := Lib.hid (HNK4.out.step HU5.out (fun j h1 h2 h3 => by have h4 := HBSW.out; have h5 := HN2.out.size; omega) (.inl rfl))
        have HSP5 := Lib.hid (HSP.out w5 (HOM.out.mono fun j hj => frm_of hj))
        obtain ⟨fb, hfb⟩ : ∃ fb, formB x dp sp = fb := ⟨_, rfl⟩
        have HFB := Lib.hid hfb
        clear hfb
        obtain ⟨t0, t1, t2⟩ := HB8.out.tri
        obtain ⟨r0, r1, r2, r3⟩ := HB5'.out.four
        have s1 := HS.out.cell 1
        cases fb with
        | false =>
          have HRR : Hid (R = (131, none)) := Lib.hid (by
            rw [HR.out, if_neg H12.out, HNO.out]
            simp only [HFB.out, Bool.not_false, Bool.or_true, Bool.true_or, if_true])
          go_wp2_with ((go_at_call 49; (with_reducible refine (formed_c _ lf P Q L H p pc q qc ln lc hn hc b dp x sp HDP.out HN5.out.now HSM.out HSP5.out).mono ?_); rintro e w6 ⟨⟨r, rfl, hr⟩, ho⟩; have hr' := form_res hr; rw [HFB.out] at hr'; subst hr'; have HO6 := Lib.hid ho; replace HB6 := Lib.hid (HB6.out.later ho); replace HB8 := Lib.hid (HB8.out.later ho); replace HB5' := Lib.hid (HB5'.out.later ho); replace HS := Lib.hid (HS.out.later ho); replace HOM := Lib.hid (HOM.out.trans (ho.mono fun j hj => .inr (.inr (Nat.le_trans HOM.out.size hj)))); clear t0 t1 t2 r0 r1 r2 r3 s1; (obtain ⟨t0, t1, t2⟩ := HB8.out.tri); (obtain ⟨r0, r1, r2, r3⟩ := HB5'.out.four); clear hr ho); (obtain ⟨e0, e1, e2⟩ := HB6.out.tri); (obtain ⟨f0, f1, f2⟩ := HB6.out.melt3))
          have HF1 : Hid (Blk (((w6.setCell ⟨b6, 0, none⟩ (.bool false)).setCell ⟨b6, 1, none⟩ (.slice none 0 0)).setCell ⟨b6, 2, none⟩ (.slice none 0 0)) b6 55 [.bool false, .slice none 0 0, .slice none 0 0]) := Lib.hid (((HB6.out.set_ 0 _).set_ 1 _).set_ 2 _)
          have HF2 : Hid (Only (fun j => FrM bs mb (.slice IA ni ic) (.slice RA nr rc) j ∨ w.heap.size ≤ j) w (((w6.setCell ⟨b6, 0, none⟩ (.bool false)).setCell ⟨b6, 1, none⟩ (.slice none 0 0)).setCell ⟨b6, 2, none⟩ (.slice none 0 0))) := Lib.hid ((((HOM.out.mono fun j hj => frm_of hj).setCell (p := ⟨b6, 0, none⟩) (.inr HB6N.out) _).setCell (p := ⟨b6, 1, none⟩) (.inr HB6N.out) _).setCell (p := ⟨b6, 2, none⟩) (.inr HB6N.out) _)
          exact bodyPost_ret (v := .tuple #[.agg #[.bool false, .slice none 0 0, .slice none 0 0], .int .i64 131]) (results_cell2 rfl rfl rfl (load_node (.inr rfl) HF1.out)) rfl ⟨HF2.out, false, none, 0, 0, none, 0, 0, by rw [HRR.out], fun x S' h => by rw [HRR.out] at h; cases h⟩
        | true =>
          obtain ⟨eb, heb⟩ : ∃ eb, evenB x dp S.dep = eb := ⟨_, rfl⟩
          have HEB := Lib.hid heb
          clear heb
          cases eb with
          | false =>
            have HRR : Hid (R = (131, none)) := Lib.hid (by
              rw [HR.out, if_neg H12.out, HNO.out]
              simp only [HEB.out, Bool.not_false, Bool.or_true, if_true])
            go_wp2_with (first
              | (go_at_call 49; (with_reducible refine (formed_c _ lf P Q L H p pc q qc ln lc hn hc b dp x sp HDP.out HN5.out.now HSM.out HSP5.out).mono ?_); rintro e w6 ⟨⟨r, rfl, hr⟩, ho⟩; have hr' := form_res hr; rw [HFB.out] at hr'; subst hr'; have HO6 := Lib.hid ho; replace HB6 := Lib.hid (HB6.out.later ho); replace HB8 := Lib.hid (HB8.out.later ho); replace HB5' := Lib.hid (HB5'.out.later ho); replace HS := Lib.hid (HS.out.later ho); replace HOM := Lib.hid (HOM.out.trans (ho.mono fun j hj => .inr (.inr (Nat.le_trans HOM.out.size hj)))); clear t0 t1 t2 r0 r1 r2 r3 s1; (obtain ⟨t0, t1, t2⟩ := HB8.out.tri); (obtain ⟨r0, r1, r2, r3⟩ := HB5'.out.four); clear hr ho)
              | ((go_at_call 50; (with_reducible refine (Even_c _ bs mb (srcV bl) IA RA ni ic nr rc lf P Q L H p pc q qc ln lc hn hc b dp S.dep x HS.out HLF.out).mono ?_); rintro e w7 ⟨he, hS7, ho⟩; rw [HEB.out] at he; subst he; have HO7 := Lib.hid ho; have HB8W := Lib.hid (And.intro HB8.out.lt HB6.out.lt); replace HB6 := Lib.hid (HB6.out.only ho (by have h1 := HB6N.out; have h2 := HBSW.out; have h3 := HB6.out.lt; omega)); replace HB8 := Lib.hid (HB8.out.only ho (by have h1 := HB8N.out; have h2 := HBSW.out; have h3 := HB8.out.lt; omega)); have HS7 := Lib.hid hS7; replace HOM := Lib.hid (HOM.out.trans (ho.mono fun j hj => hj.elim (fun h => .inl h) fun h => .inr (.inr (Nat.le_trans HOM.out.size h)))); clear t0 t1 t2 r0 r1 r2 r3; clear hS7 ho); (obtain ⟨e0, e1, e2⟩ := HB6.out.tri); (obtain ⟨f0, f1, f2⟩ := HB6.out.melt3)))
            have HF1 : Hid (Blk (((w7.setCell ⟨b6, 0, none⟩ (.bool false)).setCell ⟨b6, 1, none⟩ (.slice none 0 0)).setCell ⟨b6, 2, none⟩ (.slice none 0 0)) b6 55 [.bool false, .slice none 0 0, .slice none 0 0]) := Lib.hid (((HB6.out.set_ 0 _).set_ 1 _).set_ 2 _)
            have HF2 : Hid (Only (fun j => FrM bs mb (.slice IA ni ic) (.slice RA nr rc) j ∨ w.heap.size ≤ j) w (((w7.setCell ⟨b6, 0, none⟩ (.bool false)).setCell ⟨b6, 1, none⟩ (.slice none 0 0)).setCell ⟨b6, 2, none⟩ (.slice none 0 0))) := Lib.hid ((((HOM.out.mono fun j hj => frm_of hj).setCell (p := ⟨b6, 0, none⟩) (.inr HB6N.out) _).setCell (p := ⟨b6, 1, none⟩) (.inr HB6N.out) _).setCell (p := ⟨b6, 2, none⟩) (.inr HB6N.out) _)
            exact bodyPost_ret (v := .tuple #[.agg #[.bool false, .slice none 0 0, .slice none 0 0], .int .i64 131]) (results_cell2 rfl rfl rfl (load_node (.inr rfl) HF1.out)) rfl ⟨HF2.out, false, none, 0, 0, none, 0, 0, by rw [HRR.out], fun x S' h => by rw [HRR.out] at h; cases h⟩
          | true =>
            have HRR : Hid (R = (0, some (x, ⟨S.its ++ x.its, S.refs ++ [ref], depP x dp S.dep⟩))) := Lib.hid (by
              rw [HR.out, if_neg H12.out, HNO.out]
              simp only [HFB.out, HEB.out, decide_eq_false HMM.out, Bool.not_true, Bool.or_self, Bool.false_eq_true, if_false])
            go_upto_region 9 with (first
              | (go_at_call 49; (with_reducible refine (formed_c _ lf P Q L H p pc q qc ln lc hn hc b dp x sp HDP.out HN5.out.now HSM.out HSP5.out).mono ?_); rintro e w6 ⟨⟨r, rfl, hr⟩, ho⟩; have hr' := form_res hr; rw [HFB.out] at hr'; subst hr'; have HO6 := Lib.hid ho; replace HB6 := Lib.hid (HB6.out.later ho); replace HB8 := Lib.hid (HB8.out.later ho); replace HB5' := Lib.hid (HB5'.out.later ho); replace HS := Lib.hid (HS.out.later ho); replace HOM := Lib.hid (HOM.out.trans (ho.mono fun j hj => .inr (.inr (Nat.le_trans HOM.out.size hj)))); clear t0 t1 t2 r0 r1 r2 r3 s1; (obtain ⟨t0, t1, t2⟩ := HB8.out.tri); (obtain ⟨r0, r1, r2, r3⟩ := HB5'.out.four); clear hr ho)
              | (go_at_call 50; (with_reducible refine (Even_c _ bs mb (srcV bl) IA RA ni ic nr rc lf P Q L H p pc q qc ln lc hn hc b dp S.dep x HS.out HLF.out).mono ?_); rintro e w7 ⟨he, hS7, ho⟩; rw [HEB.out] at he; subst he; have HO7 := Lib.hid ho; have HB8W := Lib.hid (And.intro HB8.out.lt HB6.out.lt); replace HB6 := Lib.hid (HB6.out.only ho (by have h1 := HB6N.out; have h2 := HBSW.out; have h3 := HB6.out.lt; omega)); replace HB8 := Lib.hid (HB8.out.only ho (by have h1 := HB8N.out; have h2 := HBSW.out; have h3 := HB8.out.lt; omega)); have HS7 := Lib.hid hS7; replace HOM := Lib.hid (HOM.out.trans (ho.mono fun j hj => hj.elim (fun h => .inl h) fun h => .inr (.inr (Nat.le_trans HOM.out.size h)))); clear t0 t1 t2 r0 r1 r2 r3; clear hS7 ho))
            obtain ⟨d', hd'⟩ : ∃ d', d' = depP x dp S.dep := ⟨_, rfl⟩
            rw [← hd'] at HS7 HRR
            clear hd'
            obtain ⟨i1, hi0, hz0, hz1, hz2⟩ := info_parts info_N
            have HIN := Lib.hid (And.intro hi0 (And.intro hz0 (And.intro hz1 hz2)))
            clear hi0 hz0 hz1 hz2
            obtain ⟨i2, hi0, hz0, hz1, hz2⟩ := info_parts info_I
            have HII := Lib.hid (And.intro hi0 (And.intro hz0 (And.intro hz1 hz2)))
            clear hi0 hz0 hz1 hz2
            have HMB : Hid (mb ≠ bs) := Lib.hid (fun e => by
              obtain ⟨es, ck, hh⟩ := HM5.out.block
              have := HS5.out
              unfold Blk at this
              rw [← e, hh] at this
              cases this)
            have HI7 := Lib.hid (own_on HCO.out HOM.out (fun k hk e => by have h1 := World.ownsRow.lt HCO.out k hk; have h2 := HBS.out; omega))
            have HR7 := Lib.hid (own_on HRO.out HOM.out (fun k hk e => by have h1 := World.ownsRow.lt HRO.out k hk; have h2 := HBS.out; omega))
            have HW7 : Hid (w3.heap.size ≤ w7.heap.size ∧ w.heap.size ≤ w2.heap.size ∧ w2.heap.size ≤ w3.heap.size ∧ w5.heap.size ≤ w7.heap.size) := Lib.hid (by have h1 := HXb8.out.size; have h2 := HU5.out.size; have h3 := HO6.out.size; have h4 := HO7.out.size; have h5 := HN2.out.size; have h6 := HO3.out.size; omega)
            have HC5 : Hid (Only (fun j => j = bs ∨ w5.heap.size ≤ j) w5 w7) := Lib.hid ((HO6.out.mono fun j hj => .inr hj).trans (HO7.out.mono fun j hj => hj.imp (fun h => h) fun h => Nat.le_trans HO6.out.size h))
            have HLI : Hid (∀ g, (Value.slice IA ni ic).ownBlock = some g → B ≤ g ∧ g < w.heap.size) := Lib.hid (World.ownsRow.lt HCO.out)
            have HLR : Hid (∀ g, (Value.slice RA nr rc).ownBlock = some g → B ≤ g ∧ g < w.heap.size) := Lib.hid (World.ownsRow.lt HRO.out)
            have s3 := HS7.out.cell 3
            have HBL7 : Hid (Blk (w7.alloc (.cells #[.int .i64 ref] 3)) w7.heap.size 3 [.int .i64 ref]) := Lib.hid (Blk.new w7 _ [.int .i64 ref])
            go_upto_region 10 with (at_builtin; go_loud (refine wpList_append_at rfl (.tmp 60) (.tmp 62) 68 rfl B 3 i1 (.int .i64 0) 1 8 Try.underlying68 HIN.out.1 HIN.out.2.1 HIN.out.2.2.1 HIN.out.2.2.2 (by rfl) (by omega) (.slice RA nr rc) nr (ic2 S.refs) rfl (World.ownsRow.alloc HR7.out _) ⟨w7.heap.size, 0, none⟩ 1 1 [.int .i64 ref] rfl rfl (fun j u hu => by rw [Addr.add_lit, HBL7.out.cell, Nat.zero_add]; exact hu) (by simp [Value.oneCell']) (by simp only [maxLen]; omega) (by omega) (by have h1 := HBS.out; have h2 := HW7.out; simp; omega) ?_; intro v8 w8 ho8 hg8 hat8; (obtain ⟨R2, t2, rfl, _⟩ := raw_of_own ho8); have HR8 := Lib.hid ho8; have HN8 : Hid ((Value.slice R2 (nr + 1) t2).ownBlock = (Value.slice RA nr rc).ownBlock ∨ ∃ g, (Value.slice R2 (nr + 1) t2).ownBlock = some g ∧ w3.heap.size ≤ g) := Lib.hid (hat8.imp (fun h => h) fun h => ⟨_, h, by have := HW7.out; simp; omega⟩); have HG8 : Hid (Only (fun j => (Value.slice RA nr rc).ownBlock = some j ∨ w7.heap.size ≤ j) w7 w8) := Lib.hid (Only.grown ((Only.refl _ w7).alloc (fun _ h => .inr h) (.cells #[.int .i64 ref] 3)) hg8 (fun k h => .inr h) (fun g hg => .inl hg)); have HS8 := Lib.hid (HS7.out.only HG8.out (fun h => h.elim (fun h => by have h1 := HLR.out bs h; have h2 := HBS.out; omega) fun h => by have := HS7.out.lt; omega)); have s3 := HS8.out.cell 3; have f3 := HS8.out.frozen 3; clear ho8 hg8 hat8))
            clear s3 f3
            obtain ⟨w9, hw9⟩ : ∃ z, z = w8.setCell ⟨bs, 3, none⟩ (.slice R2 (nr + 1) t2) := ⟨_, rfl⟩
            have HG9 : Hid (Only (fun j => j = bs ∨ (Value.slice RA nr rc).ownBlock = some j ∨ w7.heap.size ≤ j) w7 w9) := Lib.hid (by rw [hw9]; exact (HG8.out.mono fun j hj => .inr hj).setCell (p := ⟨bs, 3, none⟩) (.inl rfl) _)
            have HS9 : Hid (Blk w9 bs 90 [srcV bl, .map (some mb), .slice IA ni ic, .slice R2 (nr + 1) t2, .int .i64 (d' : Int)]) := Lib.hid (by rw [hw9]; exact HS8.out.set_ 3 _)
            have HR9 : Hid (w9.ownsRow B 3 1 (.slice R2 (nr + 1) t2) (nr + 1) (ic2 S.refs ++ [.int .i64 ref])) := Lib.hid (by rw [hw9]; exact own_on HR8.out (F := (· = bs)) ((Only.refl (· = bs) w8).setCell (p := ⟨bs, 3, none⟩) rfl _) (fun k hk e => by have h1 := World.ownsRow.lt HR8.out k hk; have h2 := HBS.out; omega))
            have HI9 := Lib.hid (own_on HI7.out HG9.out (fun k hk e => by
              have h1 := World.ownsRow.lt HI7.out k hk
              have h2 := HBS.out
              rcases e with e | e | e
              · omega
              · exact own_apart HI7.out HR7.out (by decide) hk e
              · omega))
            have HB89 := Lib.hid (HB8.out.only HG9.out (by
              have h1 := HB8N.out
              have h2 := HBSW.out
              have h3 := HB8.out.lt
              rintro (e | e | e)
              · omega
              · have := HLR.out _ e
                omega
              · omega))
            have HB69 := Lib.hid (HB6.out.only HG9.out (by
              have h1 := HB6N.out
              have h2 := HBSW.out
              have h3 := HB6.out.lt
              rintro (e | e | e)
              · omega
              · have := HLR.out _ e
                omega
              · omega))
            rw [← hw9]
            clear hw9
            obtain ⟨wd, hwd⟩ : ∃ z, z = w9.drew := ⟨_, rfl⟩
            have HGD : Hid (Only (fun j => j = bs ∨ (Value.slice RA nr rc).ownBlock = some j ∨ w7.heap.size ≤ j) w7 wd) := Lib.hid (by rw [hwd]; exact HG9.out.drew)
            replace HS9 : Hid (Blk wd bs 90 _) := Lib.hid (by rw [hwd]; exact HS9.out.drew)
            replace HR9 : Hid (wd.ownsRow B 3 1 _ _ _) := Lib.hid (by rw [hwd]; exact HR9.out)
            replace HI9 : Hid (wd.ownsRow B 39 4 _ _ _) := Lib.hid (by rw [hwd]; exact HI9.out)
            replace HB89 : Hid (Blk wd b8 55 _) := Lib.hid (by rw [hwd]; exact HB89.out.drew)
            replace HB69 : Hid (Blk wd b6 55 _) := Lib.hid (by rw [hwd]; exact HB69.out.drew)
            have HPL : Hid (p = x.its.length) := Lib.hid HNK.out.now.2.1.len
            obtain ⟨C1, hC1⟩ := HNK.out.2.1
            have HC1 := Lib.hid hC1
            have hp1 : p ≤ 1000 := by rw [HPL.out]; exact HSM.out.1
            have HPD : Hid (RwC itE wd (.slice P p pc) x.its C1) := Lib.hid (hC1 wd ((HXb8.out.mono fun j hj => .inr hj).trans ((HU5.out.mono fun j hj => by
                have h1 := HBSW.out; have h2 := HW7.out; have h3 := HXb8.out.size
                rcases hj with hj | hj
                · exact .inl (.inl (by omega))
                · exact .inr (by omega)).trans ((HC5.out.mono fun j hj => by
                have h1 := HBSW.out; have h2 := HW7.out; have h3 := HXb8.out.size; have h4 := HU5.out.size
                rcases hj with hj | hj
                · exact .inl (.inl (by omega))
                · exact .inr (by omega)).trans (HGD.out.mono fun j hj => by
                have h1 := HBSW.out; have h2 := HW7.out
                rcases hj with hj | hj | hj
                · exact .inl (.inl (by omega))
                · exact .inl (.inl (by have := HLR.out j hj; omega))
                · exact .inr (by omega))))))
            clear hC1
            have s2 := HS9.out.cell 2
            have f2s := HS9.out.frozen 2
            obtain ⟨t0, t1, t2'⟩ := HB89.out.tri
            cases P with
            | none =>
              have HP0 : Hid (p = 0 ∧ pc = 0 ∧ C1 = []) := Lib.hid (by
                obtain ⟨hd, A', c', e, hl, _, h5, h6, _⟩ := HPD.out
                simp only [Value.slice.injEq] at e
                obtain ⟨e1, e2, e3⟩ := e
                have h7 := h5 e1.symm
                have hp0 : p = 0 := by omega
                refine ⟨hp0, by omega, ?_⟩
                have : C1.length = 0 := by rw [hl, ← HPL.out, hp0, Nat.zero_mul]
                exact List.length_eq_zero_iff.1 this)
              obtain ⟨rfl, rfl, rfl⟩ := HP0.out
              refine wp_region_list (B := [false, false, false, false, false, false, false, false, false, false, false, false, false]) (S := (fun _ => True)) (by kernel_rfl) (by kernel_rfl) (by kernel_rfl) trivial (fun hsel hHeld => ?_)
              rw [← hwd]
              clear hwd
              refine oneA 0 67 hsel (h := ?_)
              simp only [Act.put, List.setIfInBounds_toArray, List.set_cons_zero, List.set_cons_succ]
              refine oneA 1 68 hsel (h := ?_)
              simp only [Act.put, List.setIfInBounds_toArray, List.set_cons_zero, List.set_cons_succ]
              refine oneA 2 69 hsel (h := ?_)
              simp only [Act.put, List.setIfInBounds_toArray, List.set_cons_zero, List.set_cons_succ]
              refine oneA 3 70 hsel (h := ?_)
              simp only [Act.put, List.setIfInBounds_toArray, List.set_cons_zero, List.set_cons_succ]
              refine oneA 4 71 hsel (h := ?_)
              simp only [Act.put, List.setIfInBounds_toArray, List.set_cons_zero, List.set_cons_succ]
              refine oneA 6 73 hsel (h := ?_)
              simp only [Act.put, List.setIfInBounds_toArray, List.set_cons_zero, List.set_cons_succ]
              refine wpAnyL_ready (rs := [5, 7]) (by kernel_rfl) (by kernel_rfl) (by simp) ?_
              refine AllReadyL.cons (o := ?_) ?_ (fun K hK => ?_) (AllReadyL.cons (o := ?_) ?_ (fun K hK => ?_) AllReadyL.nil)
              case refine_2 => (simp only [List.getElem?_cons_succ, List.getElem?_cons_zero]; rfl)
              case refine_5 => (simp only [List.getElem?_cons_succ, List.getElem?_cons_zero]; rfl)
              case refine_3 =>
                go_simp
                clear hHeld
                refine hK.out _ _ trivial (fun hHeld => ?_)
                clear hK K
                try simp only [List.set_cons_zero, List.set_cons_succ]
                refine wpAnyL_ready (rs := [7]) (by kernel_rfl) (by kernel_rfl) (by simp) ?_
                refine AllReadyL.cons (o := ?_) ?_ (fun K hK => ?_) AllReadyL.nil
                case refine_2 => (simp only [List.getElem?_cons_succ, List.getElem?_cons_zero]; rfl)
                go_simp
                clear hHeld
                refine hK.out _ _ trivial (fun hHeld => ?_)
                clear hK K
                try simp only [List.set_cons_zero, List.set_cons_succ]
                refine wpAnyL_ready (rs := [8]) (by kernel_rfl) (by kernel_rfl) (by simp) ?_
                refine AllReadyL.cons (o := ?_) ?_ (fun K hK => ?_) AllReadyL.nil
                case refine_2 => (simp only [List.getElem?_cons_succ, List.getElem?_cons_zero]; rfl)
                rw [if_pos (by kernel_rfl)]
                refine wp_append_none (.tmp 72) (.tmp 74) 52 rfl B 39 i2 4 Try.underlying52 HII.out.1 (.slice IA ni ic) ni C rfl HI9.out rfl ?_
                have HRI : Hid (wd.ownsRow B 39 4 (.slice IA ni ic) (ni + 0) (C ++ [])) := Lib.hid (by rw [List.append_nil]; exact HI9.out)
                have HGA : Hid (Only (fun j => (Value.slice IA ni ic).ownBlock = some j ∨ wd.heap.size ≤ j) wd wd) := Lib.hid (Only.refl _ _)
                have HSA := HS9
                have HB8A := HB89
                have HB6A := HB69
                have HNIA : Hid ((Value.slice IA ni ic).ownBlock = (Value.slice IA ni ic).ownBlock ∨ ∃ g, (Value.slice IA ni ic).ownBlock = some g ∧ w3.heap.size ≤ g) := Lib.hid (.inl rfl)
                clear hHeld
                refine hK.out _ _ trivial (fun hHeld => ?_)
                clear hK K
                try simp only [Act.put, List.setIfInBounds_toArray, List.set_cons_zero, List.set_cons_succ]
                refine oneA 9 76 hsel (h := ?_)
                simp only [Act.put, List.setIfInBounds_toArray, List.set_cons_zero, List.set_cons_succ]
                refine oneA 10 77 hsel (h := ?_)
                simp only [Act.put, List.setIfInBounds_toArray, List.set_cons_zero, List.set_cons_succ]
                refine oneA 11 78 hsel (h := ?_)
                simp only [Act.put, List.setIfInBounds_toArray, List.set_cons_zero, List.set_cons_succ]
                refine wpAnyL_ready (rs := [12]) (by kernel_rfl) (by kernel_rfl) (by simp) ?_
                refine AllReadyL.cons (o := ?_) ?_ (fun K hK => ?_) AllReadyL.nil
                case refine_2 => (simp only [List.getElem?_cons_succ, List.getElem?_cons_zero]; rfl)
                go_simp
                clear hHeld
                refine hK.out _ _ trivial (fun hHeld => ?_)
                clear hK K
                try simp only [List.set_cons_zero, List.set_cons_succ]
                refine wpAnyL_done (by kernel_rfl) (by kernel_rfl) ?_ _
                clear hsel hHeld
                obtain ⟨w11, hw11⟩ : ∃ z, z = wd.setCell ⟨bs, 2, none⟩ (.slice IA ni ic) := ⟨_, rfl⟩
                have HS11 : Hid (Blk w11 bs 90 [srcV bl, .map (some mb), .slice IA ni ic, .slice R2 (nr + 1) t2, .int .i64 (d' : Int)]) := Lib.hid (by rw [hw11]; exact HSA.out.set_ 2 _)
                have HB811 := Lib.hid (by have := HB8A.out.far (p := ⟨bs, 2, none⟩) (by have h1 := HB8N.out; have h2 := HBSW.out; simp only; omega) (.slice IA ni ic); rwa [← hw11] at this)
                have HB611 := Lib.hid (by have := HB6A.out.far (p := ⟨bs, 2, none⟩) (by have h1 := HB6N.out; have h2 := HBSW.out; simp only; omega) (.slice IA ni ic); rwa [← hw11] at this)
                have HG11 : Hid (Only (· = bs) wd w11) := Lib.hid (by rw [hw11]; exact (Only.refl (· = bs) wd).setCell (p := ⟨bs, 2, none⟩) rfl _)
                rw [← hw11]
                clear hw11
                try clear s2 f2s t0 t1 t2'
                obtain ⟨t0, t1, t2'⟩ := HB811.out.tri
                obtain ⟨e0, e1, e2⟩ := HB611.out.tri
                obtain ⟨f0, f1, f2⟩ := HB611.out.melt3
                go_wp2_with (fail)
                obtain ⟨w12, hw12⟩ : ∃ z, z = ((w11.setCell ⟨b6, 0, none⟩ (.bool lf)).setCell ⟨b6, 1, none⟩ (.slice none 0 0)).setCell ⟨b6, 2, none⟩ (.slice Q q qc) := ⟨_, rfl⟩
                have HF1 : Hid (Blk w12 b6 55 [.bool lf, .slice none 0 0, .slice Q q qc]) := Lib.hid (by rw [hw12]; exact ((HB611.out.set_ 0 _).set_ 1 _).set_ 2 _)
                have HG12 : Hid (Only (· = b6) w11 w12) := Lib.hid (by rw [hw12]; exact (((Only.refl (· = b6) w11).setCell (p := ⟨b6, 0, none⟩) rfl _).setCell (p := ⟨b6, 1, none⟩) rfl _).setCell (p := ⟨b6, 2, none⟩) rfl _)
                rw [← hw12]
                clear hw12
                have HC7 : Hid (Only (fun j => j = bs ∨ j = b6 ∨ (Value.slice IA ni ic).ownBlock = some j ∨ (Value.slice RA nr rc).ownBlock = some j ∨ w7.heap.size ≤ j) w7 w12) := Lib.hid (((HGD.out.mono fun j hj => by
                    rcases hj with h | h | h
                    · exact .inl h
                    · exact .inr (.inr (.inr (.inl h)))
                    · exact .inr (.inr (.inr (.inr h)))).trans (HGA.out.mono fun j hj => by
                    rcases hj with h | h
                    · exact .inr (.inr (.inl h))
                    · exact .inr (.inr (.inr (.inr (Nat.le_trans HGD.out.size h)))))).trans ((HG11.out.mono fun j hj => .inl hj).trans (HG12.out.mono fun j hj => .inr (.inl hj))))
                have hb1 := HBS.out
                have hb2 := HW7.out
                have hb3 := HB6N.out
                have hb4 := HB5N.out
                have hb5 := HBSW.out
                have hx8 := HXb8.out.size
                have hu5 := HU5.out.size
                refine bodyPost_ret (v := .tuple #[.agg #[.bool lf, .slice none 0 0, .slice Q q qc], .int .i64 0]) (results_cell2 rfl rfl rfl (load_node (.inr rfl) HF1.out)) rfl ?_
                have F5 : Only (fun j => FrM bs mb (.slice IA ni ic) (.slice RA nr rc) j ∨ w.heap.size ≤ j) w w12 := (HOM.out.mono fun j hj => frm_of hj).trans (HC7.out.mono fun j hj => by
                  rcases hj with h | h | h | h | h
                  · exact .inl (.inl h)
                  · exact .inr (by omega)
                  · exact .inl (.inr (.inr (.inl h)))
                  · exact .inl (.inr (.inr (.inr h)))
                  · exact .inr (by omega))
                have F6 : Only (fun j => j < w2.heap.size ∨ w3.heap.size ≤ j) w3 w12 := (HXb8.out.mono fun j hj => .inr hj).trans ((HU5.out.mono fun j hj => by
                    rcases hj with hj | hj
                    · exact .inl (by omega)
                    · exact .inr (by omega)).trans ((HC5.out.mono fun j hj => by
                    rcases hj with hj | hj
                    · exact .inl (by omega)
                    · exact .inr (by omega)).trans (HC7.out.mono fun j hj => by
                    rcases hj with h | h | h | h | h
                    · exact .inl (by omega)
                    · exact .inl (by omega)
                    · exact .inl (by have := HLI.out j h; omega)
                    · exact .inl (by have := HLR.out j h; omega)
                    · exact .inr (by omega))))
                have F2 := own_on (own_on HRI.out HG11.out (fun k hk e => by have h1 := World.ownsRow.lt HRI.out k hk; omega)) HG12.out (fun k hk e => own_ne HRI.out HB6A.out (by decide) (e ▸ hk))
                have F3 := own_on (own_on (own_on HR9.out HGA.out (fun k hk e => by
                    have h1 := World.ownsRow.lt HR9.out k hk
                    rcases e with e | e
                    · exact own_apart HI9.out HR9.out (by decide) e hk
                    · omega)) HG11.out (fun k hk e => by have h1 := World.ownsRow.lt HR9.out k hk; omega)) HG12.out (fun k hk e => own_ne HR9.out HB69.out (by decide) (e ▸ hk))
                have F4 := (HM5.out.on HC5.out (by have h1 := HMB.out; have h3 := HM5.out.lt13; rintro (h | h) <;> omega)).on HC7.out (by
                  have h1 := HMB.out
                  have h3 := HM5.out.lt13
                  rintro (h | h | h | h | h)
                  · exact h1 h
                  · omega
                  · have := HLI.out _ h
                    omega
                  · have := HLR.out _ h
                    omega
                  · omega)
                refine ⟨F5, lf, _, _, _, _, _, _, by rw [HRR.out], fun x' S' hx' => ?_⟩
                rw [HRR.out] at hx'
                simp only [Option.some.injEq, Prod.mk.injEq] at hx'
                obtain ⟨rfl, rfl⟩ := hx'
                rw [HNR.out] at F4
                exact ⟨.slice IA ni ic, .slice R2 (nr + 1) t2, meet_fin HBS.out hb2.2.1 hb2.2.2.1 HNO.out HSM.out.1 HMM.out HND.out HRN.out (by rw [← HNI.out, ← HNR.out]; exact HIL.out) HCD.out HCO.out HRO.out HC1.out HNK.out (HS11.out.far' HG12.out (by omega)) (own_cast F2 (by rw [HNI.out, HPL.out])) (own_cast F3 (by rw [HNR.out])) F4 (fun r hr => by
                  by_cases e : r = ref
                  · subst e
                    rw [Maps.atKey_put_same (map_is HDM4.out) (keyed.key (Maps.keyOf_int_mk Try.underlying3 HREF.out)), if_pos (by simp)]
                  · rw [Maps.atKey_put_other (fun h => e (by injection h)), HDK.out r hr]
                    simp [e]) F5 F6 (.inl rfl) HN8.out⟩
              case refine_6 =>
                go_simp
                clear hHeld
                refine hK.out _ _ trivial (fun hHeld => ?_)
                clear hK K
                try simp only [List.set_cons_zero, List.set_cons_succ]
                refine wpAnyL_ready (rs := [5]) (by kernel_rfl) (by kernel_rfl) (by simp) ?_
                refine AllReadyL.cons (o := ?_) ?_ (fun K hK => ?_) AllReadyL.nil
                case refine_2 => (simp only [List.getElem?_cons_succ, List.getElem?_cons_zero]; rfl)
                go_simp
                clear hHeld
                refine hK.out _ _ trivial (fun hHeld => ?_)
                clear hK K
                try simp only [List.set_cons_zero, List.set_cons_succ]
                refine wpAnyL_ready (rs := [8]) (by kernel_rfl) (by kernel_rfl) (by simp) ?_
                refine AllReadyL.cons (o := ?_) ?_ (fun K hK => ?_) AllReadyL.nil
                case refine_2 => (simp only [List.getElem?_cons_succ, List.getElem?_cons_zero]; rfl)
                rw [if_pos (by kernel_rfl)]
                refine wp_append_none (.tmp 72) (.tmp 74) 52 rfl B 39 i2 4 Try.underlying52 HII.out.1 (.slice IA ni ic) ni C rfl HI9.out rfl ?_
                have HRI : Hid (wd.ownsRow B 39 4 (.slice IA ni ic) (ni + 0) (C ++ [])) := Lib.hid (by rw [List.append_nil]; exact HI9.out)
                have HGA : Hid (Only (fun j => (Value.slice IA ni ic).ownBlock = some j ∨ wd.heap.size ≤ j) wd wd) := Lib.hid (Only.refl _ _)
                have HSA := HS9
                have HB8A := HB89
                have HB6A := HB69
                have HNIA : Hid ((Value.slice IA ni ic).ownBlock = (Value.slice IA ni ic).ownBlock ∨ ∃ g, (Value.slice IA ni ic).ownBlock = some g ∧ w3.heap.size ≤ g) := Lib.hid (.inl rfl)
                clear hHeld
                refine hK.out _ _ trivial (fun hHeld => ?_)
                clear hK K
                try simp only [Act.put, List.setIfInBounds_toArray, List.set_cons_zero, List.set_cons_succ]
                refine oneA 9 76 hsel (h := ?_)
                simp only [Act.put, List.setIfInBounds_toArray, List.set_cons_zero, List.set_cons_succ]
                refine oneA 10 77 hsel (h := ?_)
                simp only [Act.put, List.setIfInBounds_toArray, List.set_cons_zero, List.set_cons_succ]
                refine oneA 11 78 hsel (h := ?_)
                simp only [Act.put, List.setIfInBounds_toArray, List.set_cons_zero, List.set_cons_succ]
                refine wpAnyL_ready (rs := [12]) (by kernel_rfl) (by kernel_rfl) (by simp) ?_
                refine AllReadyL.cons (o := ?_) ?_ (fun K hK => ?_) AllReadyL.nil
                case refine_2 => (simp only [List.getElem?_cons_succ, List.getElem?_cons_zero]; rfl)
                go_simp
                clear hHeld
                refine hK.out _ _ trivial (fun hHeld => ?_)
                clear hK K
                try simp only [List.set_cons_zero, List.set_cons_succ]
                refine wpAnyL_done (by kernel_rfl) (by kernel_rfl) ?_ _
                clear hsel hHeld
                obtain ⟨w11, hw11⟩ : ∃ z, z = wd.setCell ⟨bs, 2, none⟩ (.slice IA ni ic) := ⟨_, rfl⟩
                have HS11 : Hid (Blk w11 bs 90 [srcV bl, .map (some mb), .slice IA ni ic, .slice R2 (nr + 1) t2, .int .i64 (d' : Int)]) := Lib.hid (by rw [hw11]; exact HSA.out.set_ 2 _)
                have HB811 := Lib.hid (by have := HB8A.out.far (p := ⟨bs, 2, none⟩) (by have h1 := HB8N.out; have h2 := HBSW.out; simp only; omega) (.slice IA ni ic); rwa [← hw11] at this)
                have HB611 := Lib.hid (by have := HB6A.out.far (p := ⟨bs, 2, none⟩) (by have h1 := HB6N.out; have h2 := HBSW.out; simp only; omega) (.slice IA ni ic); rwa [← hw11] at this)
                have HG11 : Hid (Only (· = bs) wd w11) := Lib.hid (by rw [hw11]; exact (Only.refl (· = bs) wd).setCell (p := ⟨bs, 2, none⟩) rfl _)
                rw [← hw11]
                clear hw11
                try clear s2 f2s t0 t1 t2'
                obtain ⟨t0, t1, t2'⟩ := HB811.out.tri
                obtain ⟨e0, e1, e2⟩ := HB611.out.tri
                obtain ⟨f0, f1, f2⟩ := HB611.out.melt3
                go_wp2_with (fail)
                obtain ⟨w12, hw12⟩ : ∃ z, z = ((w11.setCell ⟨b6, 0, none⟩ (.bool lf)).setCell ⟨b6, 1, none⟩ (.slice none 0 0)).setCell ⟨b6, 2, none⟩ (.slice Q q qc) := ⟨_, rfl⟩
                have HF1 : Hid (Blk w12 b6 55 [.bool lf, .slice none 0 0, .slice Q q qc]) := Lib.hid (by rw [hw12]; exact ((HB611.out.set_ 0 _).set_ 1 _).set_ 2 _)
                have HG12 : Hid (Only (· = b6) w11 w12) := Lib.hid (by rw [hw12]; exact (((Only.refl (· = b6) w11).setCell (p := ⟨b6, 0, none⟩) rfl _).setCell (p := ⟨b6, 1, none⟩) rfl _).setCell (p := ⟨b6, 2, none⟩) rfl _)
                rw [← hw12]
                clear hw12
                have HC7 : Hid (Only (fun j => j = bs ∨ j = b6 ∨ (Value.slice IA ni ic).ownBlock = some j ∨ (Value.slice RA nr rc).ownBlock = some j ∨ w7.heap.size ≤ j) w7 w12) := Lib.hid (((HGD.out.mono fun j hj => by
                    rcases hj with h | h | h
                    · exact .inl h
                    · exact .inr (.inr (.inr (.inl h)))
                    · exact .inr (.inr (.inr (.inr h)))).trans (HGA.out.mono fun j hj => by
                    rcases hj with h | h
                    · exact .inr (.inr (.inl h))
                    · exact .inr (.inr (.inr (.inr (Nat.le_trans HGD.out.size h)))))).trans ((HG11.out.mono fun j hj => .inl hj).trans (HG12.out.mono fun j hj => .inr (.inl hj))))
                have hb1 := HBS.out
                have hb2 := HW7.out
                have hb3 := HB6N.out
                have hb4 := HB5N.out
                have hb5 := HBSW.out
                have hx8 := HXb8.out.size
                have hu5 := HU5.out.size
                refine bodyPost_ret (v := .tuple #[.agg #[.bool lf, .slice none 0 0, .slice Q q qc], .int .i64 0]) (results_cell2 rfl rfl rfl (load_node (.inr rfl) HF1.out)) rfl ?_
                have F5 : Only (fun j => FrM bs mb (.slice IA ni ic) (.slice RA nr rc) j ∨ w.heap.size ≤ j) w w12 := (HOM.out.mono fun j hj => frm_of hj).trans (HC7.out.mono fun j hj => by
                  rcases hj with h | h | h | h | h
                  · exact .inl (.inl h)
                  · exact .inr (by omega)
                  · exact .inl (.inr (.inr (.inl h)))
                  · exact .inl (.inr (.inr (.inr h)))
                  · exact .inr (by omega))
                have F6 : Only (fun j => j < w2.heap.size ∨ w3.heap.size ≤ j) w3 w12 := (HXb8.out.mono fun j hj => .inr hj).trans ((HU5.out.mono fun j hj => by
                    rcases hj with hj | hj
                    · exact .inl (by omega)
                    · exact .inr (by omega)).trans ((HC5.out.mono fun j hj => by
                    rcases hj with hj | hj
                    · exact .inl (by omega)
                    · exact .inr (by omega)).trans (HC7.out.mono fun j hj => by
                    rcases hj with h | h | h | h | h
                    · exact .inl (by omega)
                    · exact .inl (by omega)
                    · exact .inl (by have := HLI.out j h; omega)
                    · exact .inl (by have := HLR.out j h; omega)
                    · exact .inr (by omega))))
                have F2 := own_on (own_on HRI.out HG11.out (fun k hk e => by have h1 := World.ownsRow.lt HRI.out k hk; omega)) HG12.out (fun k hk e => own_ne HRI.out HB6A.out (by decide) (e ▸ hk))
                have F3 := own_on (own_on (own_on HR9.out HGA.out (fun k hk e => by
                    have h1 := World.ownsRow.lt HR9.out k hk
                    rcases e with e | e
                    · exact own_apart HI9.out HR9.out (by decide) e hk
                    · omega)) HG11.out (fun k hk e => by have h1 := World.ownsRow.lt HR9.out k hk; omega)) HG12.out (fun k hk e => own_ne HR9.out HB69.out (by decide) (e ▸ hk))
                have F4 := (HM5.out.on HC5.out (by have h1 := HMB.out; have h3 := HM5.out.lt13; rintro (h | h) <;> omega)).on HC7.out (by
                  have h1 := HMB.out
                  have h3 := HM5.out.lt13
                  rintro (h | h | h | h | h)
                  · exact h1 h
                  · omega
                  · have := HLI.out _ h
                    omega
                  · have := HLR.out _ h
                    omega
                  · omega)
                refine ⟨F5, lf, _, _, _, _, _, _, by rw [HRR.out], fun x' S' hx' => ?_⟩
                rw [HRR.out] at hx'
                simp only [Option.some.injEq, Prod.mk.injEq] at hx'
                obtain ⟨rfl, rfl⟩ := hx'
                rw [HNR.out] at F4
                exact ⟨.slice IA ni ic, .slice R2 (nr + 1) t2, meet_fin HBS.out hb2.2.1 hb2.2.2.1 HNO.out HSM.out.1 HMM.out HND.out HRN.out (by rw [← HNI.out, ← HNR.out]; exact HIL.out) HCD.out HCO.out HRO.out HC1.out HNK.out (HS11.out.far' HG12.out (by omega)) (own_cast F2 (by rw [HNI.out, HPL.out])) (own_cast F3 (by rw [HNR.out])) F4 (fun r hr => by
                  by_cases e : r = ref
                  · subst e
                    rw [Maps.atKey_put_same (map_is HDM4.out) (keyed.key (Maps.keyOf_int_mk Try.underlying3 HREF.out)), if_pos (by simp)]
                  · rw [Maps.atKey_put_other (fun h => e (by injection h)), HDK.out r hr]
                    simp [e]) F5 F6 (.inl rfl) HN8.out⟩
            | some ad =>
              have HRAW : Hid (C1.length = p * 4 ∧ (∀ j u, C1[j]? = some u → wd.cell? (ad.add j) = some u) ∧ ∀ u ∈ C1, u.oneCell' = true) := Lib.hid (by
                obtain ⟨hd, A', c', e, hl, hr, h5, h6, _, h8⟩ := HPD.out
                simp only [Value.slice.injEq] at e
                obtain ⟨e1, e2, e3⟩ := e
                subst e1
                exact ⟨by rw [hl, ← HPL.out]; rfl, hr.src ad rfl, h8⟩)
              refine wp_region_list (B := [false, false, false, false, false, false, false, false, false, false, false, false, false]) (S := (fun _ => True)) (by kernel_rfl) (by kernel_rfl) (by kernel_rfl) trivial (fun hsel hHeld => ?_)
              rw [← hwd]
              clear hwd
              refine oneA 0 67 hsel (h := ?_)
              simp only [Act.put, List.setIfInBounds_toArray, List.set_cons_zero, List.set_cons_succ]
              refine oneA 1 68 hsel (h := ?_)
              simp only [Act.put, List.setIfInBounds_toArray, List.set_cons_zero, List.set_cons_succ]
              refine oneA 2 69 hsel (h := ?_)
              simp only [Act.put, List.setIfInBounds_toArray, List.set_cons_zero, List.set_cons_succ]
              refine oneA 3 70 hsel (h := ?_)
              simp only [Act.put, List.setIfInBounds_toArray, List.set_cons_zero, List.set_cons_succ]
              refine oneA 4 71 hsel (h := ?_)
              simp only [Act.put, List.setIfInBounds_toArray, List.set_cons_zero, List.set_cons_succ]
              refine oneA 6 73 hsel (h := ?_)
              simp only [Act.put, List.setIfInBounds_toArray, List.set_cons_zero, List.set_cons_succ]
              refine wpAnyL_ready (rs := [5, 7]) (by kernel_rfl) (by kernel_rfl) (by simp) ?_
              refine AllReadyL.cons (o := ?_) ?_ (fun K hK => ?_) (AllReadyL.cons (o := ?_) ?_ (fun K hK => ?_) AllReadyL.nil)
              case refine_2 => (simp only [List.getElem?_cons_succ, List.getElem?_cons_zero]; rfl)
              case refine_5 => (simp only [List.getElem?_cons_succ, List.getElem?_cons_zero]; rfl)
              case refine_3 =>
                go_simp
                clear hHeld
                refine hK.out _ _ trivial (fun hHeld => ?_)
                clear hK K
                try simp only [List.set_cons_zero, List.set_cons_succ]
                refine wpAnyL_ready (rs := [7]) (by kernel_rfl) (by kernel_rfl) (by simp) ?_
                refine AllReadyL.cons (o := ?_) ?_ (fun K hK => ?_) AllReadyL.nil
                case refine_2 => (simp only [List.getElem?_cons_succ, List.getElem?_cons_zero]; rfl)
                go_simp
                clear hHeld
                refine hK.out _ _ trivial (fun hHeld => ?_)
                clear hK K
                try simp only [List.set_cons_zero, List.set_cons_succ]
                refine wpAnyL_ready (rs := [8]) (by kernel_rfl) (by kernel_rfl) (by simp) ?_
                refine AllReadyL.cons (o := ?_) ?_ (fun K hK => ?_) AllReadyL.nil
                case refine_2 => (simp only [List.getElem?_cons_succ, List.getElem?_cons_zero]; rfl)
                rw [if_pos (by kernel_rfl)]
                refine wp_append_at (.tmp 72) (.tmp 74) 52 rfl B 39 i2 zI 4 64 Try.underlying52 HII.out.1 HII.out.2.1 HII.out.2.2.1 HII.out.2.2.2 (by rfl) (by omega) (.slice IA ni ic) ni C rfl HI9.out ad p pc C1 rfl HRAW.out.1 HRAW.out.2.1 HRAW.out.2.2 (by simp only [maxLen]; omega) (by omega) (by have h1 := HBS.out; have h2 := HW7.out; have h3 := HGD.out.size; omega) ?_
                intro v10 w10 ho10 hg10 hat10
                obtain ⟨I2, j2, rfl, _⟩ := raw_of_own ho10
                have HRI := Lib.hid ho10
                have HGA : Hid (Only (fun j => (Value.slice IA ni ic).ownBlock = some j ∨ wd.heap.size ≤ j) wd w10) := Lib.hid ((Only.refl _ wd).grown hg10 (fun k h => .inr h) (fun g hg => .inl hg))
                have HNIA : Hid ((Value.slice I2 (ni + p) j2).ownBlock = (Value.slice IA ni ic).ownBlock ∨ ∃ g, (Value.slice I2 (ni + p) j2).ownBlock = some g ∧ w3.heap.size ≤ g) := Lib.hid (hat10.imp (fun h => h) fun h => ⟨_, h, by have h2 := HW7.out; have h3 := HGD.out.size; omega⟩)
                have HSA := Lib.hid (HS9.out.only HGA.out (fun h => h.elim (fun h => by have h1 := HLI.out bs h; have h2 := HBS.out; omega) fun h => by have := HS9.out.lt; omega))
                have HB8A := Lib.hid (HB89.out.only HGA.out (fun h => h.elim (fun h => by have h1 := HLI.out b8 h; have h2 := HB8N.out; omega) fun h => by have := HB89.out.lt; omega))
                have HB6A := Lib.hid (HB69.out.only HGA.out (fun h => h.elim (fun h => by have h1 := HLI.out b6 h; have h2 := HB6N.out; omega) fun h => by have := HB69.out.lt; omega))
                clear s2 f2s
                have s2 := HSA.out.cell 2
                have f2s := HSA.out.frozen 2
                clear ho10 hg10 hat10
                clear hHeld
                refine hK.out _ _ trivial (fun hHeld => ?_)
                clear hK K
                try simp only [Act.put, List.setIfInBounds_toArray, List.set_cons_zero, List.set_cons_succ]
                refine oneA 9 76 hsel (h := ?_)
                simp only [Act.put, List.setIfInBounds_toArray, List.set_cons_zero, List.set_cons_succ]
                refine oneA 10 77 hsel (h := ?_)
                simp only [Act.put, List.setIfInBounds_toArray, List.set_cons_zero, List.set_cons_succ]
                refine oneA 11 78 hsel (h := ?_)
                simp only [Act.put, List.setIfInBounds_toArray, List.set_cons_zero, List.set_cons_succ]
                refine wpAnyL_ready (rs := [12]) (by kernel_rfl) (by kernel_rfl) (by simp) ?_
                refine AllReadyL.cons (o := ?_) ?_ (fun K hK => ?_) AllReadyL.nil
                case refine_2 => (simp only [List.getElem?_cons_succ, List.getElem?_cons_zero]; rfl)
                go_simp
                clear hHeld
                refine hK.out _ _ trivial (fun hHeld => ?_)
                clear hK K
                try simp only [List.set_cons_zero, List.set_cons_succ]
                refine wpAnyL_done (by kernel_rfl) (by kernel_rfl) ?_ _
                clear hsel hHeld
                obtain ⟨w11, hw11⟩ : ∃ z, z = w10.setCell ⟨bs, 2, none⟩ (.slice I2 (ni + p) j2) := ⟨_, rfl⟩
                have HS11 : Hid (Blk w11 bs 90 [srcV bl, .map (some mb), .slice I2 (ni + p) j2, .slice R2 (nr + 1) t2, .int .i64 (d' : Int)]) := Lib.hid (by rw [hw11]; exact HSA.out.set_ 2 _)
                have HB811 := Lib.hid (by have := HB8A.out.far (p := ⟨bs, 2, none⟩) (by have h1 := HB8N.out; have h2 := HBSW.out; simp only; omega) (.slice I2 (ni + p) j2); rwa [← hw11] at this)
                have HB611 := Lib.hid (by have := HB6A.out.far (p := ⟨bs, 2, none⟩) (by have h1 := HB6N.out; have h2 := HBSW.out; simp only; omega) (.slice I2 (ni + p) j2); rwa [← hw11] at this)
                have HG11 : Hid (Only (· = bs) w10 w11) := Lib.hid (by rw [hw11]; exact (Only.refl (· = bs) w10).setCell (p := ⟨bs, 2, none⟩) rfl _)
                rw [← hw11]
                clear hw11
                try clear s2 f2s t0 t1 t2'
                obtain ⟨t0, t1, t2'⟩ := HB811.out.tri
                obtain ⟨e0, e1, e2⟩ := HB611.out.tri
                obtain ⟨f0, f1, f2⟩ := HB611.out.melt3
                go_wp2_with (fail)
                obtain ⟨w12, hw12⟩ : ∃ z, z = ((w11.setCell ⟨b6, 0, none⟩ (.bool lf)).setCell ⟨b6, 1, none⟩ (.slice (some ad) p pc)).setCell ⟨b6, 2, none⟩ (.slice Q q qc) := ⟨_, rfl⟩
                have HF1 : Hid (Blk w12 b6 55 [.bool lf, .slice (some ad) p pc, .slice Q q qc]) := Lib.hid (by rw [hw12]; exact ((HB611.out.set_ 0 _).set_ 1 _).set_ 2 _)
                have HG12 : Hid (Only (· = b6) w11 w12) := Lib.hid (by rw [hw12]; exact (((Only.refl (· = b6) w11).setCell (p := ⟨b6, 0, none⟩) rfl _).setCell (p := ⟨b6, 1, none⟩) rfl _).setCell (p := ⟨b6, 2, none⟩) rfl _)
                rw [← hw12]
                clear hw12
                have HC7 : Hid (Only (fun j => j = bs ∨ j = b6 ∨ (Value.slice IA ni ic).ownBlock = some j ∨ (Value.slice RA nr rc).ownBlock = some j ∨ w7.heap.size ≤ j) w7 w12) := Lib.hid (((HGD.out.mono fun j hj => by
                    rcases hj with h | h | h
                    · exact .inl h
                    · exact .inr (.inr (.inr (.inl h)))
                    · exact .inr (.inr (.inr (.inr h)))).trans (HGA.out.mono fun j hj => by
                    rcases hj with h | h
                    · exact .inr (.inr (.inl h))
                    · exact .inr (.inr (.inr (.inr (Nat.le_trans HGD.out.size h)))))).trans ((HG11.out.mono fun j hj => .inl hj).trans (HG12.out.mono fun j hj => .inr (.inl hj))))
                have hb1 := HBS.out
                have hb2 := HW7.out
                have hb3 := HB6N.out
                have hb4 := HB5N.out
                have hb5 := HBSW.out
                have hx8 := HXb8.out.size
                have hu5 := HU5.out.size
                refine bodyPost_ret (v := .tuple #[.agg #[.bool lf, .slice (some ad) p pc, .slice Q q qc], .int .i64 0]) (results_cell2 rfl rfl rfl (load_node (.inr rfl) HF1.out)) rfl ?_
                have F5 : Only (fun j => FrM bs mb (.slice IA ni ic) (.slice RA nr rc) j ∨ w.heap.size ≤ j) w w12 := (HOM.out.mono fun j hj => frm_of hj).trans (HC7.out.mono fun j hj => by
                  rcases hj with h | h | h | h | h
                  · exact .inl (.inl h)
                  · exact .inr (by omega)
                  · exact .inl (.inr (.inr (.inl h)))
                  · exact .inl (.inr (.inr (.inr h)))
                  · exact .inr (by omega))
                have F6 : Only (fun j => j < w2.heap.size ∨ w3.heap.size ≤ j) w3 w12 := (HXb8.out.mono fun j hj => .inr hj).trans ((HU5.out.mono fun j hj => by
                    rcases hj with hj | hj
                    · exact .inl (by omega)
                    · exact .inr (by omega)).trans ((HC5.out.mono fun j hj => by
                    rcases hj with hj | hj
                    · exact .inl (by omega)
                    · exact .inr (by omega)).trans (HC7.out.mono fun j hj => by
                    rcases hj with h | h | h | h | h
                    · exact .inl (by omega)
                    · exact .inl (by omega)
                    · exact .inl (by have := HLI.out j h; omega)
                    · exact .inl (by have := HLR.out j h; omega)
                    · exact .inr (by omega))))
                have F2 := own_on (own_on HRI.out HG11.out (fun k hk e => by have h1 := World.ownsRow.lt HRI.out k hk; omega)) HG12.out (fun k hk e => own_ne HRI.out HB6A.out (by decide) (e ▸ hk))
                have F3 := own_on (own_on (own_on HR9.out HGA.out (fun k hk e => by
                    have h1 := World.ownsRow.lt HR9.out k hk
                    rcases e with e | e
                    · exact own_apart HI9.out HR9.out (by decide) e hk
                    · omega)) HG11.out (fun k hk e => by have h1 := World.ownsRow.lt HR9.out k hk; omega)) HG12.out (fun k hk e => own_ne HR9.out HB69.out (by decide) (e ▸ hk))
                have F4 := (HM5.out.on HC5.out (by have h1 := HMB.out; have h3 := HM5.out.lt13; rintro (h | h) <;> omega)).on HC7.out (by
                  have h1 := HMB.out
                  have h3 := HM5.out.lt13
                  rintro (h | h | h | h | h)
                  · exact h1 h
                  · omega
                  · have := HLI.out _ h
                    omega
                  · have := HLR.out _ h
                    omega
                  · omega)
                refine ⟨F5, lf, _, _, _, _, _, _, by rw [HRR.out], fun x' S' hx' => ?_⟩
                rw [HRR.out] at hx'
                simp only [Option.some.injEq, Prod.mk.injEq] at hx'
                obtain ⟨rfl, rfl⟩ := hx'
                rw [HNR.out] at F4
                exact ⟨.slice I2 (ni + p) j2, .slice R2 (nr + 1) t2, meet_fin HBS.out hb2.2.1 hb2.2.2.1 HNO.out HSM.out.1 HMM.out HND.out HRN.out (by rw [← HNI.out, ← HNR.out]; exact HIL.out) HCD.out HCO.out HRO.out HC1.out HNK.out (HS11.out.far' HG12.out (by omega)) (own_cast F2 (by rw [HNI.out, HPL.out])) (own_cast F3 (by rw [HNR.out])) F4 (fun r hr => by
                  by_cases e : r = ref
                  · subst e
                    rw [Maps.atKey_put_same (map_is HDM4.out) (keyed.key (Maps.keyOf_int_mk Try.underlying3 HREF.out)), if_pos (by simp)]
                  · rw [Maps.atKey_put_other (fun h => e (by injection h)), HDK.out r hr]
                    simp [e]) F5 F6 HNIA.out HN8.out⟩
              case refine_6 =>
                go_simp
                clear hHeld
                refine hK.out _ _ trivial (fun hHeld => ?_)
                clear hK K
                try simp only [List.set_cons_zero, List.set_cons_succ]
                refine wpAnyL_ready (rs := [5]) (by kernel_rfl) (by kernel_rfl) (by simp) ?_
                refine AllReadyL.cons (o := ?_) ?_ (fun K hK => ?_) AllReadyL.nil
                case refine_2 => (simp only [List.getElem?_cons_succ, List.getElem?_cons_zero]; rfl)
                go_simp
                clear hHeld
                refine hK.out _ _ trivial (fun hHeld => ?_)
                clear hK K
                try simp only [List.set_cons_zero, List.set_cons_succ]
                refine wpAnyL_ready (rs := [8]) (by kernel_rfl) (by kernel_rfl) (by simp) ?_
                refine AllReadyL.cons (o := ?_) ?_ (fun K hK => ?_) AllReadyL.nil
                case refine_2 => (simp only [List.getElem?_cons_succ, List.getElem?_cons_zero]; rfl)
                rw [if_pos (by kernel_rfl)]
                refine wp_append_at (.tmp 72) (.tmp 74) 52 rfl B 39 i2 zI 4 64 Try.underlying52 HII.out.1 HII.out.2.1 HII.out.2.2.1 HII.out.2.2.2 (by rfl) (by omega) (.slice IA ni ic) ni C rfl HI9.out ad p pc C1 rfl HRAW.out.1 HRAW.out.2.1 HRAW.out.2.2 (by simp only [maxLen]; omega) (by omega) (by have h1 := HBS.out; have h2 := HW7.out; have h3 := HGD.out.size; omega) ?_
                intro v10 w10 ho10 hg10 hat10
                obtain ⟨I2, j2, rfl, _⟩ := raw_of_own ho10
                have HRI := Lib.hid ho10
                have HGA : Hid (Only (fun j => (Value.slice IA ni ic).ownBlock = some j ∨ wd.heap.size ≤ j) wd w10) := Lib.hid ((Only.refl _ wd).grown hg10 (fun k h => .inr h) (fun g hg => .inl hg))
                have HNIA : Hid ((Value.slice I2 (ni + p) j2).ownBlock = (Value.slice IA ni ic).ownBlock ∨ ∃ g, (Value.slice I2 (ni + p) j2).ownBlock = some g ∧ w3.heap.size ≤ g) := Lib.hid (hat10.imp (fun h => h) fun h => ⟨_, h, by have h2 := HW7.out; have h3 := HGD.out.size; omega⟩)
                have HSA := Lib.hid (HS9.out.only HGA.out (fun h => h.elim (fun h => by have h1 := HLI.out bs h; have h2 := HBS.out; omega) fun h => by have := HS9.out.lt; omega))
                have HB8A := Lib.hid (HB89.out.only HGA.out (fun h => h.elim (fun h => by have h1 := HLI.out b8 h; have h2 := HB8N.out; omega) fun h => by have := HB89.out.lt; omega))
                have HB6A := Lib.hid (HB69.out.only HGA.out (fun h => h.elim (fun h => by have h1 := HLI.out b6 h; have h2 := HB6N.out; omega) fun h => by have := HB69.out.lt; omega))
                clear s2 f2s
                have s2 := HSA.out.cell 2
                have f2s := HSA.out.frozen 2
                clear ho10 hg10 hat10
                clear hHeld
                refine hK.out _ _ trivial (fun hHeld => ?_)
                clear hK K
                try simp only [Act.put, List.setIfInBounds_toArray, List.set_cons_zero, List.set_cons_succ]
                refine oneA 9 76 hsel (h := ?_)
                simp only [Act.put, List.setIfInBounds_toArray, List.set_cons_zero, List.set_cons_succ]
                refine oneA 10 77 hsel (h := ?_)
                simp only [Act.put, List.setIfInBounds_toArray, List.set_cons_zero, List.set_cons_succ]
                refine oneA 11 78 hsel (h := ?_)
                simp only [Act.put, List.setIfInBounds_toArray, List.set_cons_zero, List.set_cons_succ]
                refine wpAnyL_ready (rs := [12]) (by kernel_rfl) (by kernel_rfl) (by simp) ?_
                refine AllReadyL.cons (o := ?_) ?_ (fun K hK => ?_) AllReadyL.nil
                case refine_2 => (simp only [List.getElem?_cons_succ, List.getElem?_cons_zero]; rfl)
                go_simp
                clear hHeld
                refine hK.out _ _ trivial (fun hHeld => ?_)
                clear hK K
                try simp only [List.set_cons_zero, List.set_cons_succ]
                refine wpAnyL_done (by kernel_rfl) (by kernel_rfl) ?_ _
                clear hsel hHeld
                obtain ⟨w11, hw11⟩ : ∃ z, z = w10.setCell ⟨bs, 2, none⟩ (.slice I2 (ni + p) j2) := ⟨_, rfl⟩
                have HS11 : Hid (Blk w11 bs 90 [srcV bl, .map (some mb), .slice I2 (ni + p) j2, .slice R2 (nr + 1) t2, .int .i64 (d' : Int)]) := Lib.hid (by rw [hw11]; exact HSA.out.set_ 2 _)
                have HB811 := Lib.hid (by have := HB8A.out.far (p := ⟨bs, 2, none⟩) (by have h1 := HB8N.out; have h2 := HBSW.out; simp only; omega) (.slice I2 (ni + p) j2); rwa [← hw11] at this)
                have HB611 := Lib.hid (by have := HB6A.out.far (p := ⟨bs, 2, none⟩) (by have h1 := HB6N.out; have h2 := HBSW.out; simp only; omega) (.slice I2 (ni + p) j2); rwa [← hw11] at this)
                have HG11 : Hid (Only (· = bs) w10 w11) := Lib.hid (by rw [hw11]; exact (Only.refl (· = bs) w10).setCell (p := ⟨bs, 2, none⟩) rfl _)
                rw [← hw11]
                clear hw11
                try clear s2 f2s t0 t1 t2'
                obtain ⟨t0, t1, t2'⟩ := HB811.out.tri
                obtain ⟨e0, e1, e2⟩ := HB611.out.tri
                obtain ⟨f0, f1, f2⟩ := HB611.out.melt3
                go_wp2_with (fail)
                obtain ⟨w12, hw12⟩ : ∃ z, z = ((w11.setCell ⟨b6, 0, none⟩ (.bool lf)).setCell ⟨b6, 1, none⟩ (.slice (some ad) p pc)).setCell ⟨b6, 2, none⟩ (.slice Q q qc) := ⟨_, rfl⟩
                have HF1 : Hid (Blk w12 b6 55 [.bool lf, .slice (some ad) p pc, .slice Q q qc]) := Lib.hid (by rw [hw12]; exact ((HB611.out.set_ 0 _).set_ 1 _).set_ 2 _)
                have HG12 : Hid (Only (· = b6) w11 w12) := Lib.hid (by rw [hw12]; exact (((Only.refl (· = b6) w11).setCell (p := ⟨b6, 0, none⟩) rfl _).setCell (p := ⟨b6, 1, none⟩) rfl _).setCell (p := ⟨b6, 2, none⟩) rfl _)
                rw [← hw12]
                clear hw12
                have HC7 : Hid (Only (fun j => j = bs ∨ j = b6 ∨ (Value.slice IA ni ic).ownBlock = some j ∨ (Value.slice RA nr rc).ownBlock = some j ∨ w7.heap.size ≤ j) w7 w12) := Lib.hid (((HGD.out.mono fun j hj => by
                    rcases hj with h | h | h
                    · exact .inl h
                    · exact .inr (.inr (.inr (.inl h)))
                    · exact .inr (.inr (.inr (.inr h)))).trans (HGA.out.mono fun j hj => by
                    rcases hj with h | h
                    · exact .inr (.inr (.inl h))
                    · exact .inr (.inr (.inr (.inr (Nat.le_trans HGD.out.size h)))))).trans ((HG11.out.mono fun j hj => .inl hj).trans (HG12.out.mono fun j hj => .inr (.inl hj))))
                have hb1 := HBS.out
                have hb2 := HW7.out
                have hb3 := HB6N.out
                have hb4 := HB5N.out
                have hb5 := HBSW.out
                have hx8 := HXb8.out.size
                have hu5 := HU5.out.size
                refine bodyPost_ret (v := .tuple #[.agg #[.bool lf, .slice (some ad) p pc, .slice Q q qc], .int .i64 0]) (results_cell2 rfl rfl rfl (load_node (.inr rfl) HF1.out)) rfl ?_
                have F5 : Only (fun j => FrM bs mb (.slice IA ni ic) (.slice RA nr rc) j ∨ w.heap.size ≤ j) w w12 := (HOM.out.mono fun j hj => frm_of hj).trans (HC7.out.mono fun j hj => by
                  rcases hj with h | h | h | h | h
                  · exact .inl (.inl h)
                  · exact .inr (by omega)
                  · exact .inl (.inr (.inr (.inl h)))
                  · exact .inl (.inr (.inr (.inr h)))
                  · exact .inr (by omega))
                have F6 : Only (fun j => j < w2.heap.size ∨ w3.heap.size ≤ j) w3 w12 := (HXb8.out.mono fun j hj => .inr hj).trans ((HU5.out.mono fun j hj => by
                    rcases hj with hj | hj
                    · exact .inl (by omega)
                    · exact .inr (by omega)).trans ((HC5.out.mono fun j hj => by
                    rcases hj with hj | hj
                    · exact .inl (by omega)
                    · exact .inr (by omega)).trans (HC7.out.mono fun j hj => by
                    rcases hj with h | h | h | h | h
                    · exact .inl (by omega)
                    · exact .inl (by omega)
                    · exact .inl (by have := HLI.out j h; omega)
                    · exact .inl (by have := HLR.out j h; omega)
                    · exact .inr (by omega))))
                have F2 := own_on (own_on HRI.out HG11.out (fun k hk e => by have h1 := World.ownsRow.lt HRI.out k hk; omega)) HG12.out (fun k hk e => own_ne HRI.out HB6A.out (by decide) (e ▸ hk))
                have F3 := own_on (own_on (own_on HR9.out HGA.out (fun k hk e => by
                    have h1 := World.ownsRow.lt HR9.out k hk
                    rcases e with e | e
                    · exact own_apart HI9.out HR9.out (by decide) e hk
                    · omega)) HG11.out (fun k hk e => by have h1 := World.ownsRow.lt HR9.out k hk; omega)) HG12.out (fun k hk e => own_ne HR9.out HB69.out (by decide) (e ▸ hk))
                have F4 := (HM5.out.on HC5.out (by have h1 := HMB.out; have h3 := HM5.out.lt13; rintro (h | h) <;> omega)).on HC7.out (by
                  have h1 := HMB.out
                  have h3 := HM5.out.lt13
                  rintro (h | h | h | h | h)
                  · exact h1 h
                  · omega
                  · have := HLI.out _ h
                    omega
                  · have := HLR.out _ h
                    omega
                  · omega)
                refine ⟨F5, lf, _, _, _, _, _, _, by rw [HRR.out], fun x' S' hx' => ?_⟩
                rw [HRR.out] at hx'
                simp only [Option.some.injEq, Prod.mk.injEq] at hx'
                obtain ⟨rfl, rfl⟩ := hx'
                rw [HNR.out] at F4
                exact ⟨.slice I2 (ni + p) j2, .slice R2 (nr + 1) t2, meet_fin HBS.out hb2.2.1 hb2.2.2.1 HNO.out HSM.out.1 HMM.out HND.out HRN.out (by rw [← HNI.out, ← HNR.out]; exact HIL.out) HCD.out HCO.out HRO.out HC1.out HNK.out (HS11.out.far' HG12.out (by omega)) (own_cast F2 (by rw [HNI.out, HPL.out])) (own_cast F3 (by rw [HNR.out])) F4 (fun r hr => by
                  by_cases e : r = ref
                  · subst e
                    rw [Maps.atKey_put_same (map_is HDM4.out) (keyed.key (Maps.keyOf_int_mk Try.underlying3 HREF.out)), if_pos (by simp)]
                  · rw [Maps.atKey_put_other (fun h => e (by injection h)), HDK.out r hr]
                    simp [e]) F5 F6 HNIA.out HN8.out⟩
end Go.Proofs.Ytnjhpjpeeehagaa
