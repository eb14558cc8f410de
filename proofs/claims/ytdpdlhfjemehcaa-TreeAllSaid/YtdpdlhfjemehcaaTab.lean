/-
  The document's All.
-/
import Derived.Test.YtdpdlhfjemehcaaTra
set_option linter.unusedVariables false
namespace Go.Proofs.Ytdpdlhfjemehcaa
open Go.RowKit

set_option maxRecDepth 100000 in
set_option maxHeartbeats 51200000 in
theorem rAll_c (l : List Nm) (hf : FewN l) (w0 : World) (A : Option Addr) (n c : Nat) (hN : Nms w0 (.slice A n c) l) : ∀ (f : Nat) (hf12 : f ≤ 12) (w : World) (h0 : Only (w0.heap.size ≤ ·) w0 w) (ref : Int) (deep : Nat) (hdf : deep + f = 13) (lb hb : Bool) (LA HA : Option Addr) (lan lac hn hc : Nat) (lo hi : Option Bytes) (hlb : lb = lo.isSome) (hls : Src w0 (.slice LA lan lac) (lo.getD [])) (hhb : hb = hi.isSome) (hhs : Src w0 (.slice HA hn hc) (hi.getD []))
    (IA RA : Option Addr) (ni ic nr rc dep : Nat) (S : Sv) (hai : AInv w0 w l S (.slice IA ni ic) (.slice RA nr rc)) (hdep : dep = S.dep) (hok : SvOk l S),
    Calls Try.prog 17 #[.slice A n c, .int .i64 ref, .int .i64 (deep : Int), .agg #[.bool lb, .slice LA lan lac], .agg #[.bool hb, .slice HA hn hc], .agg #[.slice IA ni ic, .slice RA nr rc, .int .i64 (dep : Int), .int .i64 0]] w (AllR w0 w l (visitP l f ref (lo.getD [], hi) S)) := by
  obtain ⟨i1, hi0, hz0, hz1, hz2⟩ := info_parts info_RI
  have HI1 := Lib.hid (And.intro hi0 (And.intro hz0 (And.intro hz1 hz2)))
  clear hi0 hz0 hz1 hz2
  obtain ⟨i2, hi0, hz0, hz1, hz2⟩ := info_parts info_N
  have HI2 := Lib.hid (And.intro hi0 (And.intro hz0 (And.intro hz1 hz2)))
  clear hi0 hz0 hz1 hz2
  have HF := Lib.hid hf
  have HN := Lib.hid hN
  have HNL : Hid (n ≤ 1000000) := Lib.hid (by have h1 := hN.len; have h2 := hf.1; omega)
  clear hf hN
  intro f
  induction f with
  | zero =>
    intro hf12 w h0 ref deep hdf lb hb LA HA lan lac hn hc lo hi hlb hls hhb hhs IA RA ni ic nr rc dep S hai hdep hok
    have H0 := Lib.hid h0
    have HAI0 := Lib.hid hai
    have HDP := Lib.hid hdep
    have HOK := Lib.hid hok
    have HLB := Lib.hid hlb
    have HLS := Lib.hid hls
    have HHB := Lib.hid hhb
    have HHS := Lib.hid hhs
    obtain ⟨b9, hb9⟩ : ∃ z, z = w.heap.size := ⟨_, rfl⟩
    obtain ⟨b10, hb10⟩ : ∃ z, z = w.heap.size + 1 := ⟨_, rfl⟩
    obtain ⟨b11, hb11⟩ : ∃ z, z = w.heap.size + 1 + 1 := ⟨_, rfl⟩
    obtain ⟨b12, hb12⟩ : ∃ z, z = w.heap.size + 1 + 1 + 1 := ⟨_, rfl⟩
    obtain ⟨w4, hw4⟩ : ∃ z, z = (((w.alloc (.cells #[.bool lb, .slice LA lan lac] 56)).alloc (.cells #[.bool hb, .slice HA hn hc] 56)).alloc (.cells #[.slice IA ni ic, .slice RA nr rc, .int .i64 (dep : Int), .int .i64 0] 53)).alloc (.cells #[.slice none 0 0, .slice none 0 0, .int .i64 0, .int .i64 0] 53) := ⟨_, rfl⟩
    have HB9 : Hid (Blk w4 b9 56 [.bool lb, .slice LA lan lac]) := Lib.hid (by rw [hw4]; exact (((heapLast hb9).alloc _).alloc _).alloc _)
    have HB10 : Hid (Blk w4 b10 56 [.bool hb, .slice HA hn hc]) := Lib.hid (by rw [hw4]; exact ((heapLast (by rw [hb10]; simp)).alloc _).alloc _)
    have HB11 : Hid (Blk w4 b11 53 [.slice IA ni ic, .slice RA nr rc, .int .i64 (dep : Int), .int .i64 0]) := Lib.hid (by rw [hw4]; exact (heapLast (by rw [hb11]; simp)).alloc _)
    have HB12 : Hid (Blk w4 b12 53 [.slice none 0 0, .slice none 0 0, .int .i64 0, .int .i64 0]) := Lib.hid (by rw [hw4]; exact heapLast (by rw [hb12]; simp))
    have HO : Hid (Only (w.heap.size ≤ ·) w w4) := Lib.hid (by rw [hw4]; exact (((((Only.refl _ w).alloc (fun _ h => h) _).alloc (fun _ h => h) _).alloc (fun _ h => h) _).alloc (fun _ h => h) _))
    have HNE : Hid (w.heap.size ≤ b12 ∧ w.heap.size ≤ b11 ∧ ¬ b11 = b12 ∧ b9 ≠ b12 ∧ b10 ≠ b12 ∧ b9 ≠ b11 ∧ b10 ≠ b11) := Lib.hid (by omega)
    have HEQ : Hid (w4 = (((w.alloc (.cells #[.bool lb, .slice LA lan lac] 56)).alloc (.cells #[.bool hb, .slice HA hn hc] 56)).alloc (.cells #[.slice IA ni ic, .slice RA nr rc, .int .i64 (dep : Int), .int .i64 0] 53)).alloc (.cells #[.slice none 0 0, .slice none 0 0, .int .i64 0, .int .i64 0] 53) ∧ b9 = w.heap.size ∧ b10 = w.heap.size + 1 ∧ b11 = w.heap.size + 1 + 1 ∧ b12 = w.heap.size + 1 + 1 + 1) := Lib.hid ⟨hw4, hb9, hb10, hb11, hb12⟩
    have HAI := Lib.hid (HAI0.out.later HO.out)
    have H04 : Hid (Only (w0.heap.size ≤ ·) w0 w4) := Lib.hid (on_new H0.out HO.out)
    clear h0 hai hdep hok hlb hls hhb hhs hw4 hb9 hb10 hb11 hb12 HAI0
    have hgt : (12 : Int) < (deep : Int) := by omega
    have HVP : Hid (visitP l 0 ref (lo.getD [], hi) S = (130, S)) := Lib.hid rfl
    clear hdf hf12
    go_enter Try.func17, Try.ntmps17
    go_upto_region 1 with (fail)
    rw [← HEQ.out.2.2.2.2, ← HEQ.out.2.2.2.1, ← HEQ.out.2.2.1, ← HEQ.out.2.1, ← HEQ.out.1]
    obtain ⟨a0, a1⟩ := two_cells HB9.out
    obtain ⟨a2, a3⟩ := two_cells HB10.out
    obtain ⟨c0, c1, c2, c3⟩ := HB11.out.cell4
    obtain ⟨d0, d1, d2, d3⟩ := HB12.out.cell4
    obtain ⟨f0, f1, f2, f3⟩ := HB12.out.melt4
    go_wp2_with (fail)
    have HF1 : Hid (Blk ((((w4.setCell ⟨b12, 0, none⟩ (.slice none 0 0)).setCell ⟨b12, 1, none⟩ (.slice none 0 0)).setCell ⟨b12, 2, none⟩ (.int .i64 0)).setCell ⟨b12, 3, none⟩ (.int .i64 130)) b12 53 [(.slice none 0 0), (.slice none 0 0), (.int .i64 0), (.int .i64 130)]) := Lib.hid ((((HB12.out.set_ 0 _).set_ 1 _).set_ 2 _).set_ 3 _)
    have HF2 : Hid (Only (· = b12) w4 ((((w4.setCell ⟨b12, 0, none⟩ (.slice none 0 0)).setCell ⟨b12, 1, none⟩ (.slice none 0 0)).setCell ⟨b12, 2, none⟩ (.int .i64 0)).setCell ⟨b12, 3, none⟩ (.int .i64 130))) := Lib.hid (((((Only.refl (· = b12) w4).setCell (p := ⟨b12, 0, none⟩) rfl _).setCell (p := ⟨b12, 1, none⟩) rfl _).setCell (p := ⟨b12, 2, none⟩) rfl _).setCell (p := ⟨b12, 3, none⟩) rfl _)
    refine bodyPost_ret (v := .agg #[(.slice none 0 0), (.slice none 0 0), (.int .i64 0), (.int .i64 130)]) (results_cell1 rfl rfl (load_rwhole rfl rfl HF1.out)) rfl ?_
    rw [HVP.out]
    exact ⟨⟨_, _, rfl, ⟨⟨[], World.ownsRow_nil _ _ _ _, rfl⟩, World.ownsRow_nil _ _ _ _⟩⟩, HO.out.trans (HF2.out.mono fun j hj => by rw [show j = b12 from hj]; exact HNE.out.1)⟩
  | succ f ih =>
    intro hf12 w h0 ref deep hdf lb hb LA HA lan lac hn hc lo hi hlb hls hhb hhs IA RA ni ic nr rc dep S hai hdep hok
    have HIH := Lib.hid (ih (by omega))
    clear ih
    have H0 := Lib.hid h0
    have HAI0 := Lib.hid hai
    have HDP := Lib.hid hdep
    have HOK := Lib.hid hok
    have HLB := Lib.hid hlb
    have HLS := Lib.hid hls
    have HHB := Lib.hid hhb
    have HHS := Lib.hid hhs
    obtain ⟨b9, hb9⟩ : ∃ z, z = w.heap.size := ⟨_, rfl⟩
    obtain ⟨b10, hb10⟩ : ∃ z, z = w.heap.size + 1 := ⟨_, rfl⟩
    obtain ⟨b11, hb11⟩ : ∃ z, z = w.heap.size + 1 + 1 := ⟨_, rfl⟩
    obtain ⟨b12, hb12⟩ : ∃ z, z = w.heap.size + 1 + 1 + 1 := ⟨_, rfl⟩
    obtain ⟨w4, hw4⟩ : ∃ z, z = (((w.alloc (.cells #[.bool lb, .slice LA lan lac] 56)).alloc (.cells #[.bool hb, .slice HA hn hc] 56)).alloc (.cells #[.slice IA ni ic, .slice RA nr rc, .int .i64 (dep : Int), .int .i64 0] 53)).alloc (.cells #[.slice none 0 0, .slice none 0 0, .int .i64 0, .int .i64 0] 53) := ⟨_, rfl⟩
    have HB9 : Hid (Blk w4 b9 56 [.bool lb, .slice LA lan lac]) := Lib.hid (by rw [hw4]; exact (((heapLast hb9).alloc _).alloc _).alloc _)
    have HB10 : Hid (Blk w4 b10 56 [.bool hb, .slice HA hn hc]) := Lib.hid (by rw [hw4]; exact ((heapLast (by rw [hb10]; simp)).alloc _).alloc _)
    have HB11 : Hid (Blk w4 b11 53 [.slice IA ni ic, .slice RA nr rc, .int .i64 (dep : Int), .int .i64 0]) := Lib.hid (by rw [hw4]; exact (heapLast (by rw [hb11]; simp)).alloc _)
    have HB12 : Hid (Blk w4 b12 53 [.slice none 0 0, .slice none 0 0, .int .i64 0, .int .i64 0]) := Lib.hid (by rw [hw4]; exact heapLast (by rw [hb12]; simp))
    have HO : Hid (Only (w.heap.size ≤ ·) w w4) := Lib.hid (by rw [hw4]; exact (((((Only.refl _ w).alloc (fun _ h => h) _).alloc (fun _ h => h) _).alloc (fun _ h => h) _).alloc (fun _ h => h) _))
    have HNE : Hid (w.heap.size ≤ b12 ∧ w.heap.size ≤ b11 ∧ ¬ b11 = b12 ∧ b9 ≠ b12 ∧ b10 ≠ b12 ∧ b9 ≠ b11 ∧ b10 ≠ b11) := Lib.hid (by omega)
    have HEQ : Hid (w4 = (((w.alloc (.cells #[.bool lb, .slice LA lan lac] 56)).alloc (.cells #[.bool hb, .slice HA hn hc] 56)).alloc (.cells #[.slice IA ni ic, .slice RA nr rc, .int .i64 (dep : Int), .int .i64 0] 53)).alloc (.cells #[.slice none 0 0, .slice none 0 0, .int .i64 0, .int .i64 0] 53) ∧ b9 = w.heap.size ∧ b10 = w.heap.size + 1 ∧ b11 = w.heap.size + 1 + 1 ∧ b12 = w.heap.size + 1 + 1 + 1) := Lib.hid ⟨hw4, hb9, hb10, hb11, hb12⟩
    have HAI := Lib.hid (HAI0.out.later HO.out)
    have H04 : Hid (Only (w0.heap.size ≤ ·) w0 w4) := Lib.hid (on_new H0.out HO.out)
    clear h0 hai hdep hok hlb hls hhb hhs hw4 hb9 hb10 hb11 hb12 HAI0
    have hgt : ¬ (12 : Int) < (deep : Int) := by omega
    have HDF : Hid (deep = 12 - f ∧ f ≤ 11) := Lib.hid (by omega)
    have hdp1 : 1 ≤ deep := by omega
    have hdp2 : deep ≤ 12 := by omega
    clear hdf hf12
    go_enter Try.func17, Try.ntmps17
    go_upto_region 1 with (fail)
    rw [← HEQ.out.2.2.2.2, ← HEQ.out.2.2.2.1, ← HEQ.out.2.2.1, ← HEQ.out.2.1, ← HEQ.out.1]
    obtain ⟨a0, a1⟩ := two_cells HB9.out
    obtain ⟨a2, a3⟩ := two_cells HB10.out
    obtain ⟨c0, c1, c2, c3⟩ := HB11.out.cell4
    obtain ⟨d0, d1, d2, d3⟩ := HB12.out.cell4
    obtain ⟨f0, f1, f2, f3⟩ := HB12.out.melt4
    cases hno : nodeP l ref with
    | none =>
      have HVP : Hid (visitP l (f + 1) ref (lo.getD [], hi) S = (11, S)) := Lib.hid (visit_none hno)
      go_upto_region 4 with (go_at_call 27; (with_reducible refine (rNode_0 w0 _ A n c ref l HN.out H04.out HNL.out).mono ?_); rintro e w5 ⟨⟨lf, P, p, pc, Q, q, qc, er, rfl, her, hnd⟩, ho⟩; rw [hno] at her hnd; simp only [Option.isSome_none, Bool.false_eq_true, if_false, Option.getD_none] at her hnd; subst her; have HX5 := Lib.hid ho; clear hnd ho)
      clear hno
      obtain ⟨w6, hw6⟩ : ∃ z9, z9 = w5.alloc (.cells #[.bool lf, .slice P p pc, .slice Q q qc] 29) := ⟨_, rfl⟩
      obtain ⟨b13, hb13⟩ : ∃ z9, z9 = w5.heap.size := ⟨_, rfl⟩
      have Hb13 : Hid (Blk w6 b13 29 [.bool lf, .slice P p pc, .slice Q q qc]) := Lib.hid (by rw [hw6, hb13]; exact Blk.new w5 _ [.bool lf, .slice P p pc, .slice Q q qc])
      have HXb13 : Hid (Only (w5.heap.size ≤ ·) w5 w6) := Lib.hid (by rw [hw6]; exact (Only.refl _ w5).alloc (fun _ h => h) _)
      have HEQb13 : Hid (w6 = w5.alloc (.cells #[.bool lf, .slice P p pc, .slice Q q qc] 29) ∧ b13 = w5.heap.size) := Lib.hid ⟨hw6, hb13⟩
      clear hw6 hb13
      rw [← HEQb13.out.1, ← HEQb13.out.2]
      replace HB9 := Lib.hid (HB9.out.later (on_new HX5.out HXb13.out))
      replace HB10 := Lib.hid (HB10.out.later (on_new HX5.out HXb13.out))
      replace HB11 := Lib.hid (HB11.out.later (on_new HX5.out HXb13.out))
      replace HB12 := Lib.hid (HB12.out.later (on_new HX5.out HXb13.out))
      replace HAI := Lib.hid (HAI.out.later (on_new HX5.out HXb13.out))
      replace HO := Lib.hid (on_new HO.out (on_new HX5.out HXb13.out))
      clear a0 a1 a2 a3 c0 c1 c2 c3 d0 d1 d2 d3 f0 f1 f2 f3
      obtain ⟨a0, a1⟩ := two_cells HB9.out
      obtain ⟨a2, a3⟩ := two_cells HB10.out
      obtain ⟨c0, c1, c2, c3⟩ := HB11.out.cell4
      obtain ⟨d0, d1, d2, d3⟩ := HB12.out.cell4
      obtain ⟨f0, f1, f2, f3⟩ := HB12.out.melt4
      go_wp2_with (fail)
      have HF1 : Hid (Blk ((((w6.setCell ⟨b12, 0, none⟩ (.slice none 0 0)).setCell ⟨b12, 1, none⟩ (.slice none 0 0)).setCell ⟨b12, 2, none⟩ (.int .i64 0)).setCell ⟨b12, 3, none⟩ (.int .i64 11)) b12 53 [(.slice none 0 0), (.slice none 0 0), (.int .i64 0), (.int .i64 11)]) := Lib.hid ((((HB12.out.set_ 0 _).set_ 1 _).set_ 2 _).set_ 3 _)
      have HF2 : Hid (Only (· = b12) w6 ((((w6.setCell ⟨b12, 0, none⟩ (.slice none 0 0)).setCell ⟨b12, 1, none⟩ (.slice none 0 0)).setCell ⟨b12, 2, none⟩ (.int .i64 0)).setCell ⟨b12, 3, none⟩ (.int .i64 11))) := Lib.hid (((((Only.refl (· = b12) w6).setCell (p := ⟨b12, 0, none⟩) rfl _).setCell (p := ⟨b12, 1, none⟩) rfl _).setCell (p := ⟨b12, 2, none⟩) rfl _).setCell (p := ⟨b12, 3, none⟩) rfl _)
      refine bodyPost_ret (v := .agg #[(.slice none 0 0), (.slice none 0 0), (.int .i64 0), (.int .i64 11)]) (results_cell1 rfl rfl (load_rwhole rfl rfl HF1.out)) rfl ?_
      rw [HVP.out]
      exact ⟨⟨_, _, rfl, ⟨⟨[], World.ownsRow_nil _ _ _ _, rfl⟩, World.ownsRow_nil _ _ _ _⟩⟩, HO.out.trans (HF2.out.mono fun j hj => by rw [show j = b12 from hj]; exact HNE.out.1)⟩
    | some x =>
      go_upto_region 4 with (go_at_call 27; (with_reducible refine (rNode_0 w0 _ A n c ref l HN.out H04.out HNL.out).mono ?_); rintro e w5 ⟨⟨lf, P, p, pc, Q, q, qc, er, rfl, her, hnd⟩, ho⟩; rw [hno] at her hnd; simp only [Option.isSome_some, if_true, Option.getD_some] at her hnd; subst her; have HND := Lib.hid hnd; have HX5 := Lib.hid ho; clear hnd ho)
      have HNO := Lib.hid hno
      have HSM : Hid (Sml x) := Lib.hid (by have h1 := HF.out.get ref; rw [hno] at h1; exact h1)
      clear hno
      obtain ⟨w6, hw6⟩ : ∃ z9, z9 = w5.alloc (.cells #[.bool lf, .slice P p pc, .slice Q q qc] 29) := ⟨_, rfl⟩
      obtain ⟨b13, hb13⟩ : ∃ z9, z9 = w5.heap.size := ⟨_, rfl⟩
      have Hb13 : Hid (Blk w6 b13 29 [.bool lf, .slice P p pc, .slice Q q qc]) := Lib.hid (by rw [hw6, hb13]; exact Blk.new w5 _ [.bool lf, .slice P p pc, .slice Q q qc])
      have HXb13 : Hid (Only (w5.heap.size ≤ ·) w5 w6) := Lib.hid (by rw [hw6]; exact (Only.refl _ w5).alloc (fun _ h => h) _)
      have HEQb13 : Hid (w6 = w5.alloc (.cells #[.bool lf, .slice P p pc, .slice Q q qc] 29) ∧ b13 = w5.heap.size) := Lib.hid ⟨hw6, hb13⟩
      clear hw6 hb13
      rw [← HEQb13.out.1, ← HEQb13.out.2]
      replace HB9 := Lib.hid (HB9.out.later (on_new HX5.out HXb13.out))
      replace HB10 := Lib.hid (HB10.out.later (on_new HX5.out HXb13.out))
      replace HB11 := Lib.hid (HB11.out.later (on_new HX5.out HXb13.out))
      replace HB12 := Lib.hid (HB12.out.later (on_new HX5.out HXb13.out))
      replace HAI := Lib.hid (HAI.out.later (on_new HX5.out HXb13.out))
      replace HO := Lib.hid (on_new HO.out (on_new HX5.out HXb13.out))
      clear a0 a1 a2 a3 c0 c1 c2 c3 d0 d1 d2 d3 f0 f1 f2 f3
      obtain ⟨a0, a1⟩ := two_cells HB9.out
      obtain ⟨a2, a3⟩ := two_cells HB10.out
      obtain ⟨c0, c1, c2, c3⟩ := HB11.out.cell4
      obtain ⟨d0, d1, d2, d3⟩ := HB12.out.cell4
      obtain ⟨f0, f1, f2, f3⟩ := HB12.out.melt4
      obtain ⟨q0, q1, q2⟩ := Hb13.out.tri
      have HPL : Hid (p = x.its.length ∧ q = x.kds.length) := Lib.hid ⟨HND.out.2.1.len, HND.out.2.2.len⟩
      have hpb : p ≤ 1000 := by rw [HPL.out.1]; exact HSM.out.1
      have hqb : q ≤ 1000 := by rw [HPL.out.2]; exact HSM.out.2.1
      have HXL : Hid (x.leaf = lf) := Lib.hid HND.out.1.symm
      obtain ⟨kb, hkb⟩ : ∃ b, b = risesB (lo.getD [], hi) (restK x 0) := ⟨_, rfl⟩
      have HKB := Lib.hid hkb
      clear hkb
      have H06 : Hid (Only (w0.heap.size ≤ ·) w0 w6) := Lib.hid (on_new H0.out HO.out)
      have HRK : Hid (Calls Try.prog 38 #[.agg #[.bool lf, .slice P p pc, .slice Q q qc], .agg #[.bool lb, .slice LA lan lac], .agg #[.bool hb, .slice HA hn hc]] w6 (Told w6 (.bool kb))) := Lib.hid ((rkeys_c w6 lf P Q LA HA p pc q qc lan lac hn hc x lo hi lb hb (HND.out.later H06.out) HLB.out (HLS.out.later H06.out) HHB.out (HHS.out.later H06.out)).mono fun e W' ⟨⟨r, he, hr⟩, ho⟩ => ⟨by rw [he, show r = kb from Bool.eq_iff_iff.2 (by rw [hr, HKB.out, risesB_iff]; exact keys_rises (sp := (lo.getD [], hi)) rfl rfl _)], ho⟩)
      go_upto_region 7 with (go_at_call 38; (with_reducible refine HRK.out.mono ?_); rintro e w7 ⟨rfl, ho⟩; have HX7 := Lib.hid ho; clear ho)
      clear q0 q1 q2 HRK
      replace HB9 := Lib.hid (HB9.out.later HX7.out)
      replace HB10 := Lib.hid (HB10.out.later HX7.out)
      replace HB11 := Lib.hid (HB11.out.later HX7.out)
      replace HB12 := Lib.hid (HB12.out.later HX7.out)
      replace HAI := Lib.hid (HAI.out.later HX7.out)
      replace HO := Lib.hid (on_new HO.out HX7.out)
      clear a0 a1 a2 a3 c0 c1 c2 c3 d0 d1 d2 d3 f0 f1 f2 f3
      replace Hb13 := Lib.hid (Hb13.out.later HX7.out)
      obtain ⟨a0, a1⟩ := two_cells HB9.out
      obtain ⟨a2, a3⟩ := two_cells HB10.out
      obtain ⟨c0, c1, c2, c3⟩ := HB11.out.cell4
      obtain ⟨d0, d1, d2, d3⟩ := HB12.out.cell4
      obtain ⟨f0, f1, f2, f3⟩ := HB12.out.melt4
      obtain ⟨q0, q1, q2⟩ := Hb13.out.tri
      obtain ⟨hre, hRA, hRl, hRc⟩ := own_src HAI.out.r
      have HRC := Lib.hid hRc
      have HRE := Lib.hid hre
      have HNRB : Hid (nr ≤ 1000 ∧ ni ≤ 1000000) := Lib.hid (by
        have h1 := HOK.out.few HF.out
        obtain ⟨CI, h2, _⟩ := HAI.out.i
        have h3 := (own_src h2).1
        omega)
      have hrcc : nr ≤ rc ∧ rc ≤ 9223372036854775807 := by
        obtain ⟨_, _, e, _, _, h2, h3, _⟩ := raw_of_own HAI.out.r
        cases e
        rw [← hre] at h2
        exact ⟨h2, h3⟩
      have HRA := Lib.hid (And.intro hRA hRl)
      clear hre hRA hRl hRc
      go_upto_region 8 with (fail)
      go_loopg [15, 16] nr (fun gk bv i wr => ∃ (k : Nat) (b : Bool), gk = nr - k ∧ k ≤ nr ∧ bv = .bool b ∧ i = .int .i64 (k : Int) ∧ wr = w7 ∧ Hid (b = (!kb || decide (ref ∈ S.refs.take k))))
      case atStart => exact ⟨0, _, rfl, Nat.zero_le _, rfl, rfl, rfl, Lib.hid (by rw [List.take_zero]; cases kb <;> rfl)⟩
      case round =>
        obtain ⟨k, b, rfl, hk, rfl, rfl, rfl, HBK⟩ := hrel
        by_cases hlt : k < nr
        · have hlt' : (k : Int) < (nr : Int) := by omega
          obtain ⟨rk, hrk⟩ : ∃ r, S.refs[k]? = some r := ⟨_, List.getElem?_eq_getElem (by rw [← HRE.out]; exact hlt)⟩
          have HRK := Lib.hid hrk
          clear hrk
          obtain ⟨rg, rt, e, _⟩ := own_form (own_cast HAI.out.r HRE.out.symm) (show 0 < nr by omega)
          cases e
          have e0 : wr.cell? ⟨rg, k, none⟩ = some (.int .i64 rk) := own_cells (own_cast HAI.out.r HRE.out.symm) k _ (by unfold ic2; rw [List.getElem?_map, HRK.out]; rfl)
          by_cases he : rk = ref
          · subst he
            go_wp2_with (fail)
            go_roundg (nr - (k + 1))
            case measure => omega
            case rel => exact ⟨k + 1, _, rfl, by omega, rfl, by go_num, rfl, Lib.hid (by rw [List.take_add_one, HRK.out]; simp)⟩
          · go_wp2_with (fail)
            go_roundg (nr - (k + 1))
            case measure => omega
            case rel => exact ⟨k + 1, _, rfl, by omega, rfl, by go_num, rfl, Lib.hid (by rw [HBK.out, List.take_add_one, HRK.out]; simp [Ne.symm he])⟩
        · obtain rfl : k = nr := by omega
          have hkm : ¬ (k : Int) < (k : Int) := by omega
          have HWB : Hid (b = (!kb || decide (ref ∈ S.refs))) := Lib.hid (by rw [HBK.out, HRE.out, List.take_length])
          clear HBK
          cases lf with
          | false =>
            have HBE : Hid (badB x (12 - f) ref (lo.getD [], hi) S = (b || (decide (q < 2) || decide (0 < p)))) := Lib.hid (by rw [bad_branch HXL.out, HWB.out, HKB.out, HPL.out.1, HPL.out.2])
            by_cases hq2 : q < 2
            · have hq2' : (q : Int) < 2 := by omega
              have HVP : Hid (visitP l (f + 1) ref (lo.getD [], hi) S = (131, S)) := Lib.hid (visit_bad HNO.out (by rw [HBE.out]; simp [hq2]))
              clear hq2
              go_wp2_with (fail)
              have HF1 : Hid (Blk ((((wr.setCell ⟨b12, 0, none⟩ (.slice none 0 0)).setCell ⟨b12, 1, none⟩ (.slice none 0 0)).setCell ⟨b12, 2, none⟩ (.int .i64 0)).setCell ⟨b12, 3, none⟩ (.int .i64 131)) b12 53 [(.slice none 0 0), (.slice none 0 0), (.int .i64 0), (.int .i64 131)]) := Lib.hid ((((HB12.out.set_ 0 _).set_ 1 _).set_ 2 _).set_ 3 _)
              have HF2 : Hid (Only (· = b12) wr ((((wr.setCell ⟨b12, 0, none⟩ (.slice none 0 0)).setCell ⟨b12, 1, none⟩ (.slice none 0 0)).setCell ⟨b12, 2, none⟩ (.int .i64 0)).setCell ⟨b12, 3, none⟩ (.int .i64 131))) := Lib.hid (((((Only.refl (· = b12) wr).setCell (p := ⟨b12, 0, none⟩) rfl _).setCell (p := ⟨b12, 1, none⟩) rfl _).setCell (p := ⟨b12, 2, none⟩) rfl _).setCell (p := ⟨b12, 3, none⟩) rfl _)
              refine bodyPost_ret (v := .agg #[(.slice none 0 0), (.slice none 0 0), (.int .i64 0), (.int .i64 131)]) (results_cell1 rfl rfl (load_rwhole rfl rfl HF1.out)) rfl ?_
              rw [HVP.out]
              exact ⟨⟨_, _, rfl, ⟨⟨[], World.ownsRow_nil _ _ _ _, rfl⟩, World.ownsRow_nil _ _ _ _⟩⟩, HO.out.trans (HF2.out.mono fun j hj => by rw [show j = b12 from hj]; exact HNE.out.1)⟩
            · have hq2' : ¬ (q : Int) < 2 := by omega
              by_cases hp0 : 0 < p
              · have hp0' : (0 : Int) < (p : Int) := by omega
                have HVP : Hid (visitP l (f + 1) ref (lo.getD [], hi) S = (131, S)) := Lib.hid (visit_bad HNO.out (by rw [HBE.out]; simp [hp0]))
                clear hp0 hq2
                go_wp2_with (fail)
                have HF1 : Hid (Blk ((((wr.setCell ⟨b12, 0, none⟩ (.slice none 0 0)).setCell ⟨b12, 1, none⟩ (.slice none 0 0)).setCell ⟨b12, 2, none⟩ (.int .i64 0)).setCell ⟨b12, 3, none⟩ (.int .i64 131)) b12 53 [(.slice none 0 0), (.slice none 0 0), (.int .i64 0), (.int .i64 131)]) := Lib.hid ((((HB12.out.set_ 0 _).set_ 1 _).set_ 2 _).set_ 3 _)
                have HF2 : Hid (Only (· = b12) wr ((((wr.setCell ⟨b12, 0, none⟩ (.slice none 0 0)).setCell ⟨b12, 1, none⟩ (.slice none 0 0)).setCell ⟨b12, 2, none⟩ (.int .i64 0)).setCell ⟨b12, 3, none⟩ (.int .i64 131))) := Lib.hid (((((Only.refl (· = b12) wr).setCell (p := ⟨b12, 0, none⟩) rfl _).setCell (p := ⟨b12, 1, none⟩) rfl _).setCell (p := ⟨b12, 2, none⟩) rfl _).setCell (p := ⟨b12, 3, none⟩) rfl _)
                refine bodyPost_ret (v := .agg #[(.slice none 0 0), (.slice none 0 0), (.int .i64 0), (.int .i64 131)]) (results_cell1 rfl rfl (load_rwhole rfl rfl HF1.out)) rfl ?_
                rw [HVP.out]
                exact ⟨⟨_, _, rfl, ⟨⟨[], World.ownsRow_nil _ _ _ _, rfl⟩, World.ownsRow_nil _ _ _ _⟩⟩, HO.out.trans (HF2.out.mono fun j hj => by rw [show j = b12 from hj]; exact HNE.out.1)⟩
              · have hp0' : ¬ (0 : Int) < (p : Int) := by omega
                have HGD : Hid (badB x (12 - f) ref (lo.getD [], hi) S = b) := Lib.hid (by rw [HBE.out]; simp [hp0, hq2])
                cases b with
                | true =>
                  have HVP : Hid (visitP l (f + 1) ref (lo.getD [], hi) S = (131, S)) := Lib.hid (visit_bad HNO.out HGD.out)
                  clear hp0 hq2
                  go_wp2_with (fail)
                  have HF1 : Hid (Blk ((((wr.setCell ⟨b12, 0, none⟩ (.slice none 0 0)).setCell ⟨b12, 1, none⟩ (.slice none 0 0)).setCell ⟨b12, 2, none⟩ (.int .i64 0)).setCell ⟨b12, 3, none⟩ (.int .i64 131)) b12 53 [(.slice none 0 0), (.slice none 0 0), (.int .i64 0), (.int .i64 131)]) := Lib.hid ((((HB12.out.set_ 0 _).set_ 1 _).set_ 2 _).set_ 3 _)
                  have HF2 : Hid (Only (· = b12) wr ((((wr.setCell ⟨b12, 0, none⟩ (.slice none 0 0)).setCell ⟨b12, 1, none⟩ (.slice none 0 0)).setCell ⟨b12, 2, none⟩ (.int .i64 0)).setCell ⟨b12, 3, none⟩ (.int .i64 131))) := Lib.hid (((((Only.refl (· = b12) wr).setCell (p := ⟨b12, 0, none⟩) rfl _).setCell (p := ⟨b12, 1, none⟩) rfl _).setCell (p := ⟨b12, 2, none⟩) rfl _).setCell (p := ⟨b12, 3, none⟩) rfl _)
                  refine bodyPost_ret (v := .agg #[(.slice none 0 0), (.slice none 0 0), (.int .i64 0), (.int .i64 131)]) (results_cell1 rfl rfl (load_rwhole rfl rfl HF1.out)) rfl ?_
                  rw [HVP.out]
                  exact ⟨⟨_, _, rfl, ⟨⟨[], World.ownsRow_nil _ _ _ _, rfl⟩, World.ownsRow_nil _ _ _ _⟩⟩, HO.out.trans (HF2.out.mono fun j hj => by rw [show j = b12 from hj]; exact HNE.out.1)⟩
                | false =>
                  have HVG := Lib.hid (visit_good HNO.out HGD.out)
                  have HOK1 := Lib.hid (meet_ok HF.out HOK.out (by rw [meet_good HNO.out HGD.out])).1
                  clear HBE HGD HWB hp0
                  have HWR : Hid (w.heap.size ≤ wr.heap.size) := Lib.hid HO.out.size
                  have hkb := HNRB.out.1
                  have hib := HNRB.out.2
                  have HAL : Hid (Only (wr.heap.size ≤ ·) wr (wr.alloc (.cells #[] 3))) := Lib.hid ((Only.refl _ wr).alloc (fun _ h => h) _)
                  have g1 := cell_later c1 HAL.out
                  go_upto_region 21 with (at_builtin; first
                    | (refine wpList_append_row rfl (.tmp 100) (.tmp 102) 47 rfl wr.heap.size 3 i2 (.int .i64 0) 1 8 Try.underlying47 HI2.out.1 HI2.out.2.1 HI2.out.2.2.1 HI2.out.2.2.2 (by rfl) (by omega) (.slice (some ⟨wr.heap.size, 0, none⟩) 0 0) 0 [] rfl (own_none wr 3 1) RA k rc (ic2 S.refs) rfl HRA.out.1 HRA.out.2 (fun ad e j u hu => cell_later (HRC.out ad e j u hu) HAL.out) (ic2_one _) (by simp only [maxLen]; omega) (by omega) (by simp) ?_; intro v' w8 ho' hg' hat'; rw [Nat.zero_add, List.nil_append] at ho'; (obtain ⟨R1, t1, rfl, _⟩ := raw_of_own ho'); have HR8 := Lib.hid ho'; have HX8 : Hid (Only (wr.heap.size ≤ ·) wr w8) := Lib.hid ((grow_only hg').mono fun j hj => hj.elim (fun e => Nat.le_of_eq (Option.some.inj e)) fun h => h); have HBK8 : Hid (Blk (w8.alloc (.cells #[.int .i64 ref] 3)) w8.heap.size 3 [.int .i64 ref]) := Lib.hid (Blk.new w8 _ _); clear ho' hg' hat')
                    | (refine wpList_append_at rfl (.tmp 103) (.tmp 105) 47 rfl wr.heap.size 3 i2 (.int .i64 0) 1 8 Try.underlying47 HI2.out.1 HI2.out.2.1 HI2.out.2.2.1 HI2.out.2.2.2 (by rfl) (by omega) (.slice R1 k t1) k (ic2 S.refs) rfl (World.ownsRow.alloc HR8.out _) ⟨w8.heap.size, 0, none⟩ 1 1 [.int .i64 ref] rfl rfl (fun j u hu => by rw [Addr.add_lit, HBK8.out.cell, Nat.zero_add]; exact hu) (by simp [Value.oneCell']) (by simp only [maxLen]; omega) (by omega) (by have := HX8.out.size; simp; omega) ?_; intro v' w9 ho' hg' hat'; (obtain ⟨R2, t2, rfl, _⟩ := raw_of_own ho'); have HR9 := Lib.hid ho'; have HX9 : Hid (Only (wr.heap.size ≤ ·) wr w9) := Lib.hid (HX8.out.trans ((grow_only hg').mono fun j hj => hj.elim (fun e => (World.ownsRow.lt HR8.out j e).1) fun h => Nat.le_trans HX8.out.size h)); replace HB9 := Lib.hid (HB9.out.later HX9.out); replace HB10 := Lib.hid (HB10.out.later HX9.out); replace HB11 := Lib.hid (HB11.out.later HX9.out); replace HB12 := Lib.hid (HB12.out.later HX9.out); replace Hb13 := Lib.hid (Hb13.out.later HX9.out); replace HAI := Lib.hid (HAI.out.later HX9.out); replace HO := Lib.hid (on_new HO.out HX9.out); (obtain ⟨y0, y1, y2, y3⟩ := HB11.out.cell4); have y4 := HB11.out.frozen 1; clear ho' hg' hat'))
                  clear a0 a1 a2 a3 c0 c1 c2 c3 d0 d1 d2 d3 f0 f1 f2 f3 q0 q1 q2 g1 y0 y1 y2 y3 y4 HRC HRA HAL hp0'
                  obtain ⟨w10, hw10⟩ : ∃ z9, z9 = w9.setCell ⟨b11, 1, none⟩ (.slice R2 (k + 1) t2) := ⟨_, rfl⟩
                  have HS10 : Hid (Only (· = b11) w9 w10) := Lib.hid (by rw [hw10]; exact (Only.refl (· = b11) w9).setCell (p := ⟨b11, 1, none⟩) rfl _)
                  have HR10 := Lib.hid (own_on HR9.out HS10.out (fun j hj e => own_ne HR9.out HB11.out (by decide) (e ▸ hj)))
                  obtain ⟨CI, hI9, hID⟩ := HAI.out.i
                  have HI10 := Lib.hid (own_on hI9 HS10.out (fun j hj e => own_ne hI9 HB11.out (by decide) (e ▸ hj)))
                  have HID := Lib.hid hID
                  clear hI9 hID HAI
                  have HE13 : Hid (b13 ≠ b11) := Lib.hid (Blk.ne Hb13.out HB11.out (by decide))
                  replace HB9 := Lib.hid (HB9.out.only HS10.out (fun e => HNE.out.2.2.2.2.2.1 e))
                  replace HB10 := Lib.hid (HB10.out.only HS10.out (fun e => HNE.out.2.2.2.2.2.2 e))
                  replace HB12 := Lib.hid (HB12.out.only HS10.out (fun e => HNE.out.2.2.1 (Eq.symm e)))
                  replace Hb13 := Lib.hid (Hb13.out.only HS10.out (fun e => HE13.out e))
                  have HB11' : Hid (Blk w10 b11 53 [.slice IA ni ic, .slice R2 (k + 1) t2, .int .i64 (dep : Int), .int .i64 0]) := Lib.hid (by rw [hw10]; exact HB11.out.set_ 1 _)
                  clear HB11
                  have HB11 := HB11'
                  clear HB11'
                  replace HO := Lib.hid (HO.out.trans (HS10.out.mono fun j hj => by rw [show j = b11 from hj]; exact HNE.out.2.1))
                  have H10 : Hid (Only (w0.heap.size ≤ ·) w0 w10) := Lib.hid (on_new H0.out HO.out)
                  rw [← hw10]
                  clear hw10
                  obtain ⟨q0, q1, q2⟩ := Hb13.out.tri
                  have HPX : Hid (x.its = []) := Lib.hid (List.length_eq_zero_iff.1 (by have h1 := HPL.out.1; omega))
                  have HS1 : Hid ((⟨S.its ++ x.its, S.refs ++ [ref], depP x (12 - f) S.dep⟩ : Sv) = ⟨S.its, S.refs ++ [ref], dep⟩) := Lib.hid (by
                    rw [HPX.out, List.append_nil, HDP.out]
                    unfold depP
                    rw [if_neg (fun h => by rw [HXL.out] at h; cases h.1)])
                  have HA1 : Hid (AInv w0 w10 l ⟨S.its, S.refs ++ [ref], dep⟩ (.slice IA ni ic) (.slice R2 (k + 1) t2)) := Lib.hid ⟨⟨CI, HI10.out, HID.out⟩, own_cast (by have h0 := own_le HR10.out (B' := w0.heap.size) (by have h1 := H0.out.size; have h2 := HWR.out; omega); unfold ic2 at h0 ⊢; rw [List.map_append]; exact h0) (by rw [List.length_append, ← HRE.out]; rfl)⟩
                  have HO1 : Hid (SvOk l ⟨S.its, S.refs ++ [ref], dep⟩) := Lib.hid (by rw [← HS1.out]; exact HOK1.out)
                  have HV1 : Hid (visitP l (f + 1) ref (lo.getD [], hi) S = kidsP (visitP l f) x.kds (lo.getD [], hi) 0 q ⟨S.its, S.refs ++ [ref], dep⟩) := Lib.hid (by rw [HVG.out, HS1.out, HPL.out.2])
                  go_upto_region 26 with (fail)
                  clear HVG HS1 HPX HX8 HX9 HR8 HR9 HBK8 HR10 HI10 HID HWR HX7 HEQ HEQb13 HXb13 H06 HX5
                  go_loopg [17] q (fun gk i wr => ∃ (j dj : Nat) (er : Int) (Sj : Sv) (JA : Option Addr) (jn jc : Nat) (KA : Option Addr) (kn kc : Nat), gk = q - j ∧ j ≤ q ∧ i = .int .i64 (j : Int) ∧ Hid (Blk wr b9 56 [.bool lb, .slice LA lan lac]) ∧ Hid (Blk wr b10 56 [.bool hb, .slice HA hn hc]) ∧ Hid (Blk wr b11 53 [.slice JA jn jc, .slice KA kn kc, .int .i64 (dj : Int), .int .i64 er]) ∧ Hid (Blk wr b12 53 [.slice none 0 0, .slice none 0 0, .int .i64 0, .int .i64 0]) ∧ Hid (Blk wr b13 29 [.bool false, .slice P p pc, .slice Q q qc]) ∧ Hid (Only (w.heap.size ≤ ·) w wr) ∧ Hid (AInv w0 wr l (okS (er, Sj)) (.slice JA jn jc) (.slice KA kn kc)) ∧ Hid (dj = (okS (er, Sj)).dep) ∧ Hid (er = 0 → SvOk l Sj) ∧ Hid (visitP l (f + 1) ref (lo.getD [], hi) S = if er = 0 then kidsP (visitP l f) x.kds (lo.getD [], hi) j (q - j) Sj else (er, Sj)))
                  case atStart => exact ⟨0, dep, 0, ⟨S.its, S.refs ++ [ref], dep⟩, IA, ni, ic, R2, k + 1, t2, rfl, Nat.zero_le _, rfl, HB9, HB10, HB11, HB12, Hb13, HO, HA1, Lib.hid rfl, Lib.hid (fun _ => HO1.out), Lib.hid (by rw [if_pos rfl]; exact HV1.out)⟩
                  case round =>
                    clear HB9 HB10 HB11 HB12 Hb13 HO HA1 HO1 HV1 q0 q1 q2
                    obtain ⟨j, dj, er, Sj, JA, jn, jc, KA, kn, kc, rfl, hj, rfl, HB9, HB10, HB11, HB12, Hb13, HO, HAJ, HDJ0, HOJ0, HVJ⟩ := hrel
                    by_cases hlt : j < q
                    · have hlt' : (j : Int) < (q : Int) := by omega
                      by_cases her : er = 0
                      · subst her
                        have HDJ : Hid (dj = Sj.dep) := Lib.hid HDJ0.out
                        have HOJ := Lib.hid (HOJ0.out rfl)
                        have HAI : Hid (AInv w0 wr l Sj (.slice JA jn jc) (.slice KA kn kc)) := Lib.hid HAJ.out
                        have HVK : Hid (visitP l (f + 1) ref (lo.getD [], hi) S = kidsP (visitP l f) x.kds (lo.getD [], hi) j (q - j) Sj) := Lib.hid (by rw [HVJ.out, if_pos rfl])
                        clear HDJ0 HOJ0 HAJ HVJ
                        obtain ⟨kb0, ko0, ky0, KP0, kp0, hQ0, _, hky0, z00, z10, zs0⟩ := kds_at HND.out.2.2 hlt
                        obtain ⟨kk0, kr0⟩ := ky0
                        obtain ⟨kl0, hkl0⟩ : ∃ z9, z9 = kk0.length := ⟨_, rfl⟩
                        simp only at z00 z10 zs0
                        rw [← hkl0] at z00 zs0
                        have HKY0 := Lib.hid hky0
                        have HZS0 := Lib.hid zs0
                        have HZ00 := Lib.hid z00
                        have HZ10 := Lib.hid z10
                        clear hkl0 hky0 zs0 z00 z10
                        obtain ⟨a0, a1⟩ := two_cells HB9.out
                        obtain ⟨a2, a3⟩ := two_cells HB10.out
                        obtain ⟨c0, c1, c2, c3⟩ := HB11.out.cell4
                        obtain ⟨d0, d1, d2, d3⟩ := HB12.out.cell4
                        obtain ⟨f0, f1, f2, f3⟩ := HB12.out.melt4
                        obtain ⟨q0, q1, q2⟩ := Hb13.out.tri
                        subst hQ0
                        go_upto_region 29 with (fail)
                        obtain ⟨wA, hwA⟩ : ∃ z9, z9 = wr.alloc (.cells #[.bool lb, .slice LA lan lac] 56) := ⟨_, rfl⟩
                        obtain ⟨b18, hb18⟩ : ∃ z9, z9 = wr.heap.size := ⟨_, rfl⟩
                        have Hb18 : Hid (Blk wA b18 56 [.bool lb, .slice LA lan lac]) := Lib.hid (by rw [hwA, hb18]; exact Blk.new wr _ [.bool lb, .slice LA lan lac])
                        have HXb18 : Hid (Only (wr.heap.size ≤ ·) wr wA) := Lib.hid (by rw [hwA]; exact (Only.refl _ wr).alloc (fun _ h => h) _)
                        have HEQb18 : Hid (wA = wr.alloc (.cells #[.bool lb, .slice LA lan lac] 56) ∧ b18 = wr.heap.size) := Lib.hid ⟨hwA, hb18⟩
                        clear hwA hb18
                        rw [← HEQb18.out.1, ← HEQb18.out.2]
                        replace a2 := cell_later a2 HXb18.out
                        replace a3 := cell_later a3 HXb18.out
                        go_upto_region 30 with (fail)
                        obtain ⟨wB, hwB⟩ : ∃ z9, z9 = wA.alloc (.cells #[.bool hb, .slice HA hn hc] 56) := ⟨_, rfl⟩
                        obtain ⟨b19, hb19⟩ : ∃ z9, z9 = wA.heap.size := ⟨_, rfl⟩
                        have Hb19 : Hid (Blk wB b19 56 [.bool hb, .slice HA hn hc]) := Lib.hid (by rw [hwB, hb19]; exact Blk.new wA _ [.bool hb, .slice HA hn hc])
                        have HXb19 : Hid (Only (wA.heap.size ≤ ·) wA wB) := Lib.hid (by rw [hwB]; exact (Only.refl _ wA).alloc (fun _ h => h) _)
                        have HEQb19 : Hid (wB = wA.alloc (.cells #[.bool hb, .slice HA hn hc] 56) ∧ b19 = wA.heap.size) := Lib.hid ⟨hwB, hb19⟩
                        clear hwB hb19
                        have HAB := Lib.hid (on_new HXb18.out HXb19.out)
                        rw [← HEQb19.out.1, ← HEQb19.out.2]
                        have HNB : Hid (w.heap.size ≤ b18 ∧ w.heap.size ≤ b19 ∧ b9 < b18 ∧ b10 < b18 ∧ b11 < b18 ∧ b12 < b18 ∧ b13 < b18 ∧ wr.heap.size ≤ b18 ∧ b18 < b19) := Lib.hid (by
                          have h1 := HB9.out.lt
                          have h2 := HB10.out.lt
                          have h3 := HB11.out.lt
                          have h4 := HB12.out.lt
                          have h5 := Hb13.out.lt
                          have h6 := HEQb18.out.2
                          have h7 := HEQb19.out.2
                          have h8 := HO.out.size
                          have h9 := Hb18.out.lt
                          omega)
                        have HNI : Hid ((∀ g, (Value.slice JA jn jc).ownBlock = some g → g < b18) ∧ ∀ g, (Value.slice KA kn kc).ownBlock = some g → g < b18) := Lib.hid (by
                          obtain ⟨⟨C, k1, _⟩, k3⟩ := HAI.out
                          have h1 := HNB.out
                          exact ⟨fun g hg => by have := (World.ownsRow.lt k1 g hg).2; omega, fun g hg => by have := (World.ownsRow.lt k3 g hg).2; omega⟩)
                        clear a0 a1 a2 a3 c0 c1 c2 c3 d0 d1 d2 d3 f0 f1 f2 f3
                        clear q0 q1 q2
                        have HB18 := Lib.hid (Hb18.out.later HXb19.out)
                        have HB19 := Hb19
                        have HE18 : Hid (b18 ≠ b11 ∧ b19 ≠ b11) := Lib.hid (by have h1 := HNB.out; omega)
                        have HKE : Hid (kb0 ≠ b11) := Lib.hid (fun e => by
                          have h1 := World.block_lt_of_cell? w0 _ HZ00.out
                          have h2 := H0.out.size
                          have h3 := HNE.out.2.1
                          simp only at h1
                          omega)
                        have HBF : Hid (∀ (k : Nat) (u : Value), w0.cell? ⟨kb0, k, none⟩ = some u → ∀ W, Only (w.heap.size ≤ ·) w W → W.cell? ⟨kb0, k, none⟩ = some u) := Lib.hid (fun k u h W hW => cell_later h (on_new H0.out hW))
                        clear HEQb18 HEQb19 HXb18 HXb19 Hb18 Hb19
                        replace HB9 := Lib.hid (HB9.out.later HAB.out)
                        replace HB10 := Lib.hid (HB10.out.later HAB.out)
                        replace HB11 := Lib.hid (HB11.out.later HAB.out)
                        replace HB12 := Lib.hid (HB12.out.later HAB.out)
                        replace Hb13 := Lib.hid (Hb13.out.later HAB.out)
                        replace HAI := Lib.hid (HAI.out.later HAB.out)
                        replace HO := Lib.hid (on_new HO.out HAB.out)
                        by_cases hjp : 0 < j
                        · have hjp' : (0 : Int) < (j : Int) := by omega
                          have z0 := cell_later HZ00.out (on_new H0.out HO.out)
                          obtain ⟨e0, e1⟩ := two_cells HB18.out
                          have e2 := HB18.out.frozen 0
                          have e3 := HB18.out.frozen 1
                          obtain ⟨q0, q1, q2⟩ := Hb13.out.tri
                          go_upto_region 32 with (fail)
                          clear z0 e0 e1 e2 e3 q0 q1 q2
                          obtain ⟨wC, hwC⟩ : ∃ z9, z9 = (wB.setCell ⟨b18, 0, none⟩ (.bool true)).setCell ⟨b18, 1, none⟩ (.slice KP0 kl0 kp0) := ⟨_, rfl⟩
                          have HSwC : Hid (Only (· = b18) wB wC) := Lib.hid (by rw [hwC]; exact ((Only.refl (· = b18) wB).setCell (p := ⟨b18, 0, none⟩) rfl _).setCell (p := ⟨b18, 1, none⟩) rfl _)
                          have HB18' : Hid (Blk wC b18 56 [.bool true, .slice KP0 kl0 kp0]) := Lib.hid (by rw [hwC]; exact (HB18.out.set_ 0 _).set_ 1 _)
                          clear HB18
                          have HB18 := HB18'
                          clear HB18'
                          rw [← hwC]
                          clear hwC
                          replace HB9 := Lib.hid (HB9.out.only HSwC.out (fun e => by have h1 := HNB.out; have h2 : b9 = b18 := e; omega))
                          replace HB10 := Lib.hid (HB10.out.only HSwC.out (fun e => by have h1 := HNB.out; have h2 : b10 = b18 := e; omega))
                          replace HB11 := Lib.hid (HB11.out.only HSwC.out (fun e => by have h1 := HNB.out; have h2 : b11 = b18 := e; omega))
                          replace HB12 := Lib.hid (HB12.out.only HSwC.out (fun e => by have h1 := HNB.out; have h2 : b12 = b18 := e; omega))
                          replace Hb13 := Lib.hid (Hb13.out.only HSwC.out (fun e => by have h1 := HNB.out; have h2 : b13 = b18 := e; omega))
                          replace HB19 := Lib.hid (HB19.out.only HSwC.out (fun e => by have h1 := HNB.out; have h2 : b19 = b18 := e; omega))
                          replace HAI := Lib.hid (AInv.only HAI.out HSwC.out (fun i hi => ⟨fun g hg e => by have h1 := HNB.out; have h2 := HNI.out.1 g hg; have h3 : i = b18 := hi; omega, fun g hg e => by have h1 := HNB.out; have h2 := HNI.out.2 g hg; have h3 : i = b18 := hi; omega⟩))
                          replace HO := Lib.hid (HO.out.trans (HSwC.out.mono fun i hi => by have h1 := HNB.out; rw [show i = b18 from hi]; omega))
                          by_cases hj1 : j + 1 < q
                          · have hj1' : (j : Int) + 1 < (q : Int) := by omega
                            obtain ⟨kb1, ko1, ky1, KP1, kp1, hQ1, _, hky1, z01, z11, zs1⟩ := kds_at HND.out.2.2 hj1
                            obtain ⟨kk1, kr1⟩ := ky1
                            obtain ⟨kl1, hkl1⟩ : ∃ z9, z9 = kk1.length := ⟨_, rfl⟩
                            simp only at z01 z11 zs1
                            rw [← hkl1] at z01 zs1
                            have HKY1 := Lib.hid hky1
                            have HZS1 := Lib.hid zs1
                            have HZ01 := Lib.hid z01
                            have HZ11 := Lib.hid z11
                            clear hkl1 hky1 zs1 z01 z11
                            cases hQ1
                            have z0 := cell_later HZ01.out (on_new H0.out HO.out)
                            obtain ⟨e0, e1⟩ := two_cells HB19.out
                            have e2 := HB19.out.frozen 0
                            have e3 := HB19.out.frozen 1
                            obtain ⟨q0, q1, q2⟩ := Hb13.out.tri
                            have hjw : IntKind.i64.wrap ((j : Int) + 1) = (j : Int) + 1 := IntWalk.i64_in _ (by omega)
                            go_upto_region 34 with (fail)
                            clear z0 e0 e1 e2 e3 q0 q1 q2
                            obtain ⟨wT, hwT⟩ : ∃ z9, z9 = (wC.setCell ⟨b19, 0, none⟩ (.bool true)).setCell ⟨b19, 1, none⟩ (.slice KP1 kl1 kp1) := ⟨_, rfl⟩
                            have HSwT : Hid (Only (· = b19) wC wT) := Lib.hid (by rw [hwT]; exact ((Only.refl (· = b19) wC).setCell (p := ⟨b19, 0, none⟩) rfl _).setCell (p := ⟨b19, 1, none⟩) rfl _)
                            have HB19' : Hid (Blk wT b19 56 [.bool true, .slice KP1 kl1 kp1]) := Lib.hid (by rw [hwT]; exact (HB19.out.set_ 0 _).set_ 1 _)
                            clear HB19
                            have HB19 := HB19'
                            clear HB19'
                            rw [← hwT]
                            clear hwT
                            replace HB9 := Lib.hid (HB9.out.only HSwT.out (fun e => by have h1 := HNB.out; have h2 : b9 = b19 := e; omega))
                            replace HB10 := Lib.hid (HB10.out.only HSwT.out (fun e => by have h1 := HNB.out; have h2 : b10 = b19 := e; omega))
                            replace HB11 := Lib.hid (HB11.out.only HSwT.out (fun e => by have h1 := HNB.out; have h2 : b11 = b19 := e; omega))
                            replace HB12 := Lib.hid (HB12.out.only HSwT.out (fun e => by have h1 := HNB.out; have h2 : b12 = b19 := e; omega))
                            replace Hb13 := Lib.hid (Hb13.out.only HSwT.out (fun e => by have h1 := HNB.out; have h2 : b13 = b19 := e; omega))
                            replace HB18 := Lib.hid (HB18.out.only HSwT.out (fun e => by have h1 := HNB.out; have h2 : b18 = b19 := e; omega))
                            replace HAI := Lib.hid (AInv.only HAI.out HSwT.out (fun i hi => ⟨fun g hg e => by have h1 := HNB.out; have h2 := HNI.out.1 g hg; have h3 : i = b19 := hi; omega, fun g hg e => by have h1 := HNB.out; have h2 := HNI.out.2 g hg; have h3 : i = b19 := hi; omega⟩))
                            replace HO := Lib.hid (HO.out.trans (HSwT.out.mono fun i hi => by have h1 := HNB.out; rw [show i = b19 from hi]; omega))
                            have HLB1 : Hid (true = ((some kk0) : Option Bytes).isSome ∧ Src w0 (.slice KP0 kl0 kp0) (((some kk0) : Option Bytes).getD [])) := Lib.hid ⟨rfl, HZS0.out⟩
                            have HHB1 : Hid (true = ((some kk1) : Option Bytes).isSome ∧ Src w0 (.slice KP1 kl1 kp1) (((some kk1) : Option Bytes).getD [])) := Lib.hid ⟨rfl, HZS1.out⟩
                            have HUN : Hid (underP (lo.getD [], hi) x.kds j = (((some kk0) : Option Bytes).getD [], (some kk1))) := Lib.hid (by
                              unfold underP
                              rw [if_pos (by omega), if_pos (by rw [← HPL.out.2]; omega), List.getD_eq_getElem?_getD, List.getD_eq_getElem?_getD, HKY0.out, HKY1.out]; rfl)
                            have HDX : Hid (Only (wT.heap.size ≤ ·) wT wT.drew) := Lib.hid ((Only.refl _ wT).drew)
                            replace HB9 := Lib.hid (HB9.out.later HDX.out)
                            replace HB10 := Lib.hid (HB10.out.later HDX.out)
                            replace HB11 := Lib.hid (HB11.out.later HDX.out)
                            replace HB12 := Lib.hid (HB12.out.later HDX.out)
                            replace Hb13 := Lib.hid (Hb13.out.later HDX.out)
                            replace HO := Lib.hid (on_new HO.out HDX.out)
                            replace HAI := Lib.hid (HAI.out.later HDX.out)
                            replace HB18 := Lib.hid (HB18.out.later HDX.out)
                            replace HB19 := Lib.hid (HB19.out.later HDX.out)
                            have HSX : Hid ((fun W : World => W.cell? ⟨b13, 2, none⟩ = some (.slice (some ⟨kb0, ko0, none⟩) q qc) ∧ W.cell? ⟨kb0, ko0 + j * 2 + 1, none⟩ = some (.int .i64 kr0) ∧ W.cell? ⟨b18, 0, none⟩ = some (.bool true) ∧ W.cell? ⟨b18, 1, none⟩ = some (.slice KP0 kl0 kp0) ∧ W.cell? ⟨b19, 0, none⟩ = some (.bool true) ∧ W.cell? ⟨b19, 1, none⟩ = some (.slice KP1 kl1 kp1)) wT.drew) := Lib.hid ⟨Hb13.out.cell 2, cell_later HZ10.out (on_new H0.out HO.out), HB18.out.cell 0, HB18.out.cell 1, HB19.out.cell 0, HB19.out.cell 1⟩
                            obtain ⟨v0, v1, v2, v3⟩ := HB11.out.cell4
                            have hdw : IntKind.i64.wrap ((deep : Int) + 1) = (deep : Int) + 1 := IntWalk.i64_in _ (by omega)
                            have hjz : (0 : Int) ≤ (j : Int) := by omega
                            obtain ⟨R9, hR9⟩ : ∃ z9, z9 = visitP l f kr0 (((some kk0) : Option Bytes).getD [], (some kk1)) Sj := ⟨_, rfl⟩
                            obtain ⟨er2, Sk⟩ := R9
                            have HRR := Lib.hid hR9
                            clear hR9
                            have HSO : Hid (SvOk l Sk) := Lib.hid (by have h1 := visit_ok HF.out f kr0 (((some kk0) : Option Bytes).getD [], (some kk1)) Sj HOJ.out; rw [← HRR.out] at h1; exact h1)
                            have HGR : Hid ((x.kds.getD j ([], 0)).2 = kr0) := Lib.hid (by rw [List.getD_eq_getElem?_getD, HKY0.out]; rfl)
                            have HCC : Hid (Calls Try.prog 17 #[.slice A n c, .int .i64 kr0, .int .i64 ((deep : Int) + 1), .agg #[.bool true, .slice KP0 kl0 kp0], .agg #[.bool true, .slice KP1 kl1 kp1], .agg #[.slice JA jn jc, .slice KA kn kc, .int .i64 (dj : Int), .int .i64 0]] wT.drew (AllR w0 wT.drew l (er2, Sk))) := Lib.hid (by
                              have h1 := HIH.out wT.drew (on_new H0.out HO.out) kr0 (deep + 1) (by have := HDF.out; omega) true true KP0 KP1 kl0 kp0 kl1 kp1 (some kk0) (some kk1) HLB1.out.1 HLB1.out.2 HHB1.out.1 HHB1.out.2 JA KA jn jc kn kc dj Sj HAI.out HDJ.out HOJ.out
                              rw [← HRR.out, Int.natCast_succ] at h1
                              exact h1)
                            refine wp_region_list (B := [false, false, false, false, false, false, false, false, false, false, false, false, false, false]) (S := (fun W : World => W.cell? ⟨b13, 2, none⟩ = some (.slice (some ⟨kb0, ko0, none⟩) q qc) ∧ W.cell? ⟨kb0, ko0 + j * 2 + 1, none⟩ = some (.int .i64 kr0) ∧ W.cell? ⟨b18, 0, none⟩ = some (.bool true) ∧ W.cell? ⟨b18, 1, none⟩ = some (.slice KP0 kl0 kp0) ∧ W.cell? ⟨b19, 0, none⟩ = some (.bool true) ∧ W.cell? ⟨b19, 1, none⟩ = some (.slice KP1 kl1 kp1))) (by kernel_rfl) (by kernel_rfl) (by kernel_rfl) HSX.out (fun hsel hHeld => ?_)
                            generalize hwz : World.drew _ = wx at HDX HB9 HB10 HB11 HB12 Hb13 HO HAI HSX HCC v0 v1 v2 v3 hHeld ⊢
                            clear hwz
                            refine oneA 0 158 hsel (h := ?_)
                            simp only [Act.put, List.setIfInBounds_toArray, List.set_cons_zero, List.set_cons_succ]
                            refine oneA 1 159 hsel (h := ?_)
                            simp only [Act.put, List.setIfInBounds_toArray, List.set_cons_zero, List.set_cons_succ]
                            refine oneA 2 160 hsel (h := ?_)
                            simp only [Act.put, List.setIfInBounds_toArray, List.set_cons_zero, List.set_cons_succ]
                            refine oneA 3 161 hsel (h := ?_)
                            simp only [Act.put, List.setIfInBounds_toArray, List.set_cons_zero, List.set_cons_succ]
                            refine oneA 4 162 hsel (h := ?_)
                            simp only [Act.put, List.setIfInBounds_toArray, List.set_cons_zero, List.set_cons_succ]
                            refine oneA 5 163 hsel (h := ?_)
                            simp only [Act.put, List.setIfInBounds_toArray, List.set_cons_zero, List.set_cons_succ]
                            refine oneA 6 164 hsel (h := ?_)
                            simp only [Act.put, List.setIfInBounds_toArray, List.set_cons_zero, List.set_cons_succ]
                            refine oneA 7 165 hsel (h := ?_)
                            simp only [Act.put, List.setIfInBounds_toArray, List.set_cons_zero, List.set_cons_succ]
                            refine oneA 8 166 hsel (h := ?_)
                            simp only [Act.put, List.setIfInBounds_toArray, List.set_cons_zero, List.set_cons_succ]
                            refine oneA 9 167 hsel (h := ?_)
                            simp only [Act.put, List.setIfInBounds_toArray, List.set_cons_zero, List.set_cons_succ]
                            refine oneA 10 168 hsel (h := ?_)
                            simp only [Act.put, List.setIfInBounds_toArray, List.set_cons_zero, List.set_cons_succ]
                            refine wpAnyL_ready (rs := [11]) (by kernel_rfl) (by kernel_rfl) (by simp) ?_
                            refine AllReadyL.cons (o := ?_) ?_ (fun K hK => ?_) AllReadyL.nil
                            case refine_2 => (simp only [List.getElem?_cons_succ, List.getElem?_cons_zero]; rfl)
                            go_simp
                            clear hHeld
                            refine hK.out _ _ HSX.out (fun hHeld => ?_)
                            clear hK K
                            try simp only [List.set_cons_zero, List.set_cons_succ]
                            refine wpAnyL_ready (rs := [12]) (by kernel_rfl) (by kernel_rfl) (by simp) ?_
                            refine AllReadyL.cons (o := ?_) ?_ (fun K hK => ?_) AllReadyL.nil
                            case refine_2 => (simp only [List.getElem?_cons_succ, List.getElem?_cons_zero]; rfl)
                            go_simp
                            (go_at_call 17; (with_reducible refine HCC.out.mono ?_); rintro e wc ⟨⟨vI', vR', rfl, hai⟩, ho⟩; (obtain ⟨JB, jc', KB, kc', rfl, rfl⟩ := hai.form); have HAC := Lib.hid hai; have HXC := Lib.hid ho; have HSC := Lib.hid (six_later HSX.out ho); have HB11c := Lib.hid (HB11.out.later ho); (obtain ⟨x0, x1, x2, x3⟩ := HB11c.out.cell4); (obtain ⟨y0, y1, y2, y3⟩ := HB11c.out.melt4); (have HSE : Hid (Only (· = b11) wc ((((wc.setCell ⟨b11, 0, none⟩ (.slice JB (okS (er2, Sk)).its.length jc')).setCell ⟨b11, 1, none⟩ (.slice KB (okS (er2, Sk)).refs.length kc')).setCell ⟨b11, 2, none⟩ (.int .i64 (((okS (er2, Sk)).dep : Nat) : Int))).setCell ⟨b11, 3, none⟩ (.int .i64 er2))) := Lib.hid (((((Only.refl (· = b11) wc).setCell (p := ⟨b11, 0, none⟩) rfl _).setCell (p := ⟨b11, 1, none⟩) rfl _).setCell (p := ⟨b11, 2, none⟩) rfl _).setCell (p := ⟨b11, 3, none⟩) rfl _)); have HST := Lib.hid (six_other HSC.out HSE.out (fun e => HE13.out e) (fun e => HKE.out e) (fun e => HE18.out.1 e) (fun e => HE18.out.2 e)); clear hai ho)
                            go_wp2_with (fail)
                            clear hHeld
                            refine hK.out _ _ HSC.out (fun hHeld => ?_)
                            clear hK K
                            try simp only [List.set_cons_zero, List.set_cons_succ]
                            refine wpAnyL_ready (rs := [13]) (by kernel_rfl) (by kernel_rfl) (by simp) ?_
                            refine AllReadyL.cons (o := ?_) ?_ (fun K hK => ?_) AllReadyL.nil
                            case refine_2 => (simp only [List.getElem?_cons_succ, List.getElem?_cons_zero]; rfl)
                            go_simp
                            clear hHeld
                            refine hK.out _ _ HST.out (fun hHeld => ?_)
                            clear hK K
                            try simp only [List.set_cons_zero, List.set_cons_succ]
                            refine wpAnyL_done (by kernel_rfl) (by kernel_rfl) ?_ _
                            clear hsel hHeld
                            clear x0 x1 x2 x3 y0 y1 y2 y3
                            have HB11e : Hid (Blk ((((wc.setCell ⟨b11, 0, none⟩ (.slice JB (okS (er2, Sk)).its.length jc')).setCell ⟨b11, 1, none⟩ (.slice KB (okS (er2, Sk)).refs.length kc')).setCell ⟨b11, 2, none⟩ (.int .i64 (((okS (er2, Sk)).dep : Nat) : Int))).setCell ⟨b11, 3, none⟩ (.int .i64 er2)) b11 53 [(.slice JB (okS (er2, Sk)).its.length jc'), (.slice KB (okS (er2, Sk)).refs.length kc'), (.int .i64 (((okS (er2, Sk)).dep : Nat) : Int)), (.int .i64 er2)]) := Lib.hid ((((HB11c.out.set_ 0 _).set_ 1 _).set_ 2 _).set_ 3 _)
                            have HAE := Lib.hid (AInv.other HAC.out HB11c.out (by decide) (by decide) HSE.out)
                            have HB9e := Lib.hid ((HB9.out.later HXC.out).only HSE.out (fun e => HNE.out.2.2.2.2.2.1 e))
                            have HB10e := Lib.hid ((HB10.out.later HXC.out).only HSE.out (fun e => HNE.out.2.2.2.2.2.2 e))
                            have HB12e := Lib.hid ((HB12.out.later HXC.out).only HSE.out (fun e => HNE.out.2.2.1 (Eq.symm e)))
                            have HB13e := Lib.hid ((Hb13.out.later HXC.out).only HSE.out (fun e => HE13.out e))
                            have HOE : Hid (Only (w.heap.size ≤ ·) w ((((wc.setCell ⟨b11, 0, none⟩ (.slice JB (okS (er2, Sk)).its.length jc')).setCell ⟨b11, 1, none⟩ (.slice KB (okS (er2, Sk)).refs.length kc')).setCell ⟨b11, 2, none⟩ (.int .i64 (((okS (er2, Sk)).dep : Nat) : Int))).setCell ⟨b11, 3, none⟩ (.int .i64 er2))) := Lib.hid ((on_new HO.out HXC.out).trans (HSE.out.mono fun i hi => by rw [show i = b11 from hi]; exact HNE.out.2.1))
                            have HVE : Hid (visitP l (f + 1) ref (lo.getD [], hi) S = if er2 = 0 then kidsP (visitP l f) x.kds (lo.getD [], hi) (j + 1) (q - (j + 1)) Sk else (er2, Sk)) := Lib.hid (by
                              rw [HVK.out, show q - j = (q - (j + 1)) + 1 by omega, kidsP, HUN.out, HGR.out, ← HRR.out])
                            go_wp2_with (fail)
                            go_roundg (q - (j + 1))
                            case measure => omega
                            case rel => exact ⟨j + 1, _, er2, Sk, JB, _, jc', KB, _, kc', rfl, by omega, by go_num, HB9e, HB10e, HB11e, HB12e, HB13e, HOE, HAE, Lib.hid rfl, Lib.hid (fun _ => by have h1 := HSO.out; exact h1), HVE⟩
                          · have hj1' : ¬ (j : Int) + 1 < (q : Int) := by omega
                            obtain ⟨q0, q1, q2⟩ := Hb13.out.tri
                            have hjw : IntKind.i64.wrap ((j : Int) + 1) = (j : Int) + 1 := IntWalk.i64_in _ (by omega)
                            obtain ⟨wT, hwT⟩ : ∃ z9, z9 = wC := ⟨_, rfl⟩
                            subst hwT
                            go_upto_region 34 with (fail)
                            clear q0 q1 q2
                            have HLB1 : Hid (true = ((some kk0) : Option Bytes).isSome ∧ Src w0 (.slice KP0 kl0 kp0) (((some kk0) : Option Bytes).getD [])) := Lib.hid ⟨rfl, HZS0.out⟩
                            have HHB1 : Hid (hb = (hi : Option Bytes).isSome ∧ Src w0 (.slice HA hn hc) ((hi : Option Bytes).getD [])) := Lib.hid ⟨HHB.out, HHS.out⟩
                            have HUN : Hid (underP (lo.getD [], hi) x.kds j = (((some kk0) : Option Bytes).getD [], hi)) := Lib.hid (by
                              unfold underP
                              rw [if_pos (by omega), if_neg (by rw [← HPL.out.2]; omega), List.getD_eq_getElem?_getD, HKY0.out]; rfl)
                            have HDX : Hid (Only (wT.heap.size ≤ ·) wT wT.drew) := Lib.hid ((Only.refl _ wT).drew)
                            replace HB9 := Lib.hid (HB9.out.later HDX.out)
                            replace HB10 := Lib.hid (HB10.out.later HDX.out)
                            replace HB11 := Lib.hid (HB11.out.later HDX.out)
                            replace HB12 := Lib.hid (HB12.out.later HDX.out)
                            replace Hb13 := Lib.hid (Hb13.out.later HDX.out)
                            replace HO := Lib.hid (on_new HO.out HDX.out)
                            replace HAI := Lib.hid (HAI.out.later HDX.out)
                            replace HB18 := Lib.hid (HB18.out.later HDX.out)
                            replace HB19 := Lib.hid (HB19.out.later HDX.out)
                            have HSX : Hid ((fun W : World => W.cell? ⟨b13, 2, none⟩ = some (.slice (some ⟨kb0, ko0, none⟩) q qc) ∧ W.cell? ⟨kb0, ko0 + j * 2 + 1, none⟩ = some (.int .i64 kr0) ∧ W.cell? ⟨b18, 0, none⟩ = some (.bool true) ∧ W.cell? ⟨b18, 1, none⟩ = some (.slice KP0 kl0 kp0) ∧ W.cell? ⟨b19, 0, none⟩ = some (.bool hb) ∧ W.cell? ⟨b19, 1, none⟩ = some (.slice HA hn hc)) wT.drew) := Lib.hid ⟨Hb13.out.cell 2, cell_later HZ10.out (on_new H0.out HO.out), HB18.out.cell 0, HB18.out.cell 1, HB19.out.cell 0, HB19.out.cell 1⟩
                            obtain ⟨v0, v1, v2, v3⟩ := HB11.out.cell4
                            have hdw : IntKind.i64.wrap ((deep : Int) + 1) = (deep : Int) + 1 := IntWalk.i64_in _ (by omega)
                            have hjz : (0 : Int) ≤ (j : Int) := by omega
                            obtain ⟨R9, hR9⟩ : ∃ z9, z9 = visitP l f kr0 (((some kk0) : Option Bytes).getD [], hi) Sj := ⟨_, rfl⟩
                            obtain ⟨er2, Sk⟩ := R9
                            have HRR := Lib.hid hR9
                            clear hR9
                            have HSO : Hid (SvOk l Sk) := Lib.hid (by have h1 := visit_ok HF.out f kr0 (((some kk0) : Option Bytes).getD [], hi) Sj HOJ.out; rw [← HRR.out] at h1; exact h1)
                            have HGR : Hid ((x.kds.getD j ([], 0)).2 = kr0) := Lib.hid (by rw [List.getD_eq_getElem?_getD, HKY0.out]; rfl)
                            have HCC : Hid (Calls Try.prog 17 #[.slice A n c, .int .i64 kr0, .int .i64 ((deep : Int) + 1), .agg #[.bool true, .slice KP0 kl0 kp0], .agg #[.bool hb, .slice HA hn hc], .agg #[.slice JA jn jc, .slice KA kn kc, .int .i64 (dj : Int), .int .i64 0]] wT.drew (AllR w0 wT.drew l (er2, Sk))) := Lib.hid (by
                              have h1 := HIH.out wT.drew (on_new H0.out HO.out) kr0 (deep + 1) (by have := HDF.out; omega) true hb KP0 HA kl0 kp0 hn hc (some kk0) hi HLB1.out.1 HLB1.out.2 HHB1.out.1 HHB1.out.2 JA KA jn jc kn kc dj Sj HAI.out HDJ.out HOJ.out
                              rw [← HRR.out, Int.natCast_succ] at h1
                              exact h1)
                            refine wp_region_list (B := [false, false, false, false, false, false, false, false, false, false, false, false, false, false]) (S := (fun W : World => W.cell? ⟨b13, 2, none⟩ = some (.slice (some ⟨kb0, ko0, none⟩) q qc) ∧ W.cell? ⟨kb0, ko0 + j * 2 + 1, none⟩ = some (.int .i64 kr0) ∧ W.cell? ⟨b18, 0, none⟩ = some (.bool true) ∧ W.cell? ⟨b18, 1, none⟩ = some (.slice KP0 kl0 kp0) ∧ W.cell? ⟨b19, 0, none⟩ = some (.bool hb) ∧ W.cell? ⟨b19, 1, none⟩ = some (.slice HA hn hc))) (by kernel_rfl) (by kernel_rfl) (by kernel_rfl) HSX.out (fun hsel hHeld => ?_)
                            generalize hwz : World.drew _ = wx at HDX HB9 HB10 HB11 HB12 Hb13 HO HAI HSX HCC v0 v1 v2 v3 hHeld ⊢
                            clear hwz
                            refine oneA 0 158 hsel (h := ?_)
                            simp only [Act.put, List.setIfInBounds_toArray, List.set_cons_zero, List.set_cons_succ]
                            refine oneA 1 159 hsel (h := ?_)
                            simp only [Act.put, List.setIfInBounds_toArray, List.set_cons_zero, List.set_cons_succ]
                            refine oneA 2 160 hsel (h := ?_)
                            simp only [Act.put, List.setIfInBounds_toArray, List.set_cons_zero, List.set_cons_succ]
                            refine oneA 3 161 hsel (h := ?_)
                            simp only [Act.put, List.setIfInBounds_toArray, List.set_cons_zero, List.set_cons_succ]
                            refine oneA 4 162 hsel (h := ?_)
                            simp only [Act.put, List.setIfInBounds_toArray, List.set_cons_zero, List.set_cons_succ]
                            refine oneA 5 163 hsel (h := ?_)
                            simp only [Act.put, List.setIfInBounds_toArray, List.set_cons_zero, List.set_cons_succ]
                            refine oneA 6 164 hsel (h := ?_)
                            simp only [Act.put, List.setIfInBounds_toArray, List.set_cons_zero, List.set_cons_succ]
                            refine oneA 7 165 hsel (h := ?_)
                            simp only [Act.put, List.setIfInBounds_toArray, List.set_cons_zero, List.set_cons_succ]
                            refine oneA 8 166 hsel (h := ?_)
                            simp only [Act.put, List.setIfInBounds_toArray, List.set_cons_zero, List.set_cons_succ]
                            refine oneA 9 167 hsel (h := ?_)
                            simp only [Act.put, List.setIfInBounds_toArray, List.set_cons_zero, List.set_cons_succ]
                            refine oneA 10 168 hsel (h := ?_)
                            simp only [Act.put, List.setIfInBounds_toArray, List.set_cons_zero, List.set_cons_succ]
                            refine wpAnyL_ready (rs := [11]) (by kernel_rfl) (by kernel_rfl) (by simp) ?_
                            refine AllReadyL.cons (o := ?_) ?_ (fun K hK => ?_) AllReadyL.nil
                            case refine_2 => (simp only [List.getElem?_cons_succ, List.getElem?_cons_zero]; rfl)
                            go_simp
                            clear hHeld
                            refine hK.out _ _ HSX.out (fun hHeld => ?_)
                            clear hK K
                            try simp only [List.set_cons_zero, List.set_cons_succ]
                            refine wpAnyL_ready (rs := [12]) (by kernel_rfl) (by kernel_rfl) (by simp) ?_
                            refine AllReadyL.cons (o := ?_) ?_ (fun K hK => ?_) AllReadyL.nil
                            case refine_2 => (simp only [List.getElem?_cons_succ, List.getElem?_cons_zero]; rfl)
                            go_simp
                            (go_at_call 17; (with_reducible refine HCC.out.mono ?_); rintro e wc ⟨⟨vI', vR', rfl, hai⟩, ho⟩; (obtain ⟨JB, jc', KB, kc', rfl, rfl⟩ := hai.form); have HAC := Lib.hid hai; have HXC := Lib.hid ho; have HSC := Lib.hid (six_later HSX.out ho); have HB11c := Lib.hid (HB11.out.later ho); (obtain ⟨x0, x1, x2, x3⟩ := HB11c.out.cell4); (obtain ⟨y0, y1, y2, y3⟩ := HB11c.out.melt4); (have HSE : Hid (Only (· = b11) wc ((((wc.setCell ⟨b11, 0, none⟩ (.slice JB (okS (er2, Sk)).its.length jc')).setCell ⟨b11, 1, none⟩ (.slice KB (okS (er2, Sk)).refs.length kc')).setCell ⟨b11, 2, none⟩ (.int .i64 (((okS (er2, Sk)).dep : Nat) : Int))).setCell ⟨b11, 3, none⟩ (.int .i64 er2))) := Lib.hid (((((Only.refl (· = b11) wc).setCell (p := ⟨b11, 0, none⟩) rfl _).setCell (p := ⟨b11, 1, none⟩) rfl _).setCell (p := ⟨b11, 2, none⟩) rfl _).setCell (p := ⟨b11, 3, none⟩) rfl _)); have HST := Lib.hid (six_other HSC.out HSE.out (fun e => HE13.out e) (fun e => HKE.out e) (fun e => HE18.out.1 e) (fun e => HE18.out.2 e)); clear hai ho)
                            go_wp2_with (fail)
                            clear hHeld
                            refine hK.out _ _ HSC.out (fun hHeld => ?_)
                            clear hK K
                            try simp only [List.set_cons_zero, List.set_cons_succ]
                            refine wpAnyL_ready (rs := [13]) (by kernel_rfl) (by kernel_rfl) (by simp) ?_
                            refine AllReadyL.cons (o := ?_) ?_ (fun K hK => ?_) AllReadyL.nil
                            case refine_2 => (simp only [List.getElem?_cons_succ, List.getElem?_cons_zero]; rfl)
                            go_simp
                            clear hHeld
                            refine hK.out _ _ HST.out (fun hHeld => ?_)
                            clear hK K
                            try simp only [List.set_cons_zero, List.set_cons_succ]
                            refine wpAnyL_done (by kernel_rfl) (by kernel_rfl) ?_ _
                            clear hsel hHeld
                            clear x0 x1 x2 x3 y0 y1 y2 y3
                            have HB11e : Hid (Blk ((((wc.setCell ⟨b11, 0, none⟩ (.slice JB (okS (er2, Sk)).its.length jc')).setCell ⟨b11, 1, none⟩ (.slice KB (okS (er2, Sk)).refs.length kc')).setCell ⟨b11, 2, none⟩ (.int .i64 (((okS (er2, Sk)).dep : Nat) : Int))).setCell ⟨b11, 3, none⟩ (.int .i64 er2)) b11 53 [(.slice JB (okS (er2, Sk)).its.length jc'), (.slice KB (okS (er2, Sk)).refs.length kc'), (.int .i64 (((okS (er2, Sk)).dep : Nat) : Int)), (.int .i64 er2)]) := Lib.hid ((((HB11c.out.set_ 0 _).set_ 1 _).set_ 2 _).set_ 3 _)
                            have HAE := Lib.hid (AInv.other HAC.out HB11c.out (by decide) (by decide) HSE.out)
                            have HB9e := Lib.hid ((HB9.out.later HXC.out).only HSE.out (fun e => HNE.out.2.2.2.2.2.1 e))
                            have HB10e := Lib.hid ((HB10.out.later HXC.out).only HSE.out (fun e => HNE.out.2.2.2.2.2.2 e))
                            have HB12e := Lib.hid ((HB12.out.later HXC.out).only HSE.out (fun e => HNE.out.2.2.1 (Eq.symm e)))
                            have HB13e := Lib.hid ((Hb13.out.later HXC.out).only HSE.out (fun e => HE13.out e))
                            have HOE : Hid (Only (w.heap.size ≤ ·) w ((((wc.setCell ⟨b11, 0, none⟩ (.slice JB (okS (er2, Sk)).its.length jc')).setCell ⟨b11, 1, none⟩ (.slice KB (okS (er2, Sk)).refs.length kc')).setCell ⟨b11, 2, none⟩ (.int .i64 (((okS (er2, Sk)).dep : Nat) : Int))).setCell ⟨b11, 3, none⟩ (.int .i64 er2))) := Lib.hid ((on_new HO.out HXC.out).trans (HSE.out.mono fun i hi => by rw [show i = b11 from hi]; exact HNE.out.2.1))
                            have HVE : Hid (visitP l (f + 1) ref (lo.getD [], hi) S = if er2 = 0 then kidsP (visitP l f) x.kds (lo.getD [], hi) (j + 1) (q - (j + 1)) Sk else (er2, Sk)) := Lib.hid (by
                              rw [HVK.out, show q - j = (q - (j + 1)) + 1 by omega, kidsP, HUN.out, HGR.out, ← HRR.out])
                            go_wp2_with (fail)
                            go_roundg (q - (j + 1))
                            case measure => omega
                            case rel => exact ⟨j + 1, _, er2, Sk, JB, _, jc', KB, _, kc', rfl, by omega, by go_num, HB9e, HB10e, HB11e, HB12e, HB13e, HOE, HAE, Lib.hid rfl, Lib.hid (fun _ => by have h1 := HSO.out; exact h1), HVE⟩
                        · have hjp' : ¬ (0 : Int) < (j : Int) := by omega
                          go_upto_region 32 with (fail)
                          by_cases hj1 : j + 1 < q
                          · have hj1' : (j : Int) + 1 < (q : Int) := by omega
                            obtain ⟨kb1, ko1, ky1, KP1, kp1, hQ1, _, hky1, z01, z11, zs1⟩ := kds_at HND.out.2.2 hj1
                            obtain ⟨kk1, kr1⟩ := ky1
                            obtain ⟨kl1, hkl1⟩ : ∃ z9, z9 = kk1.length := ⟨_, rfl⟩
                            simp only at z01 z11 zs1
                            rw [← hkl1] at z01 zs1
                            have HKY1 := Lib.hid hky1
                            have HZS1 := Lib.hid zs1
                            have HZ01 := Lib.hid z01
                            have HZ11 := Lib.hid z11
                            clear hkl1 hky1 zs1 z01 z11
                            cases hQ1
                            have z0 := cell_later HZ01.out (on_new H0.out HO.out)
                            obtain ⟨e0, e1⟩ := two_cells HB19.out
                            have e2 := HB19.out.frozen 0
                            have e3 := HB19.out.frozen 1
                            obtain ⟨q0, q1, q2⟩ := Hb13.out.tri
                            have hjw : IntKind.i64.wrap ((j : Int) + 1) = (j : Int) + 1 := IntWalk.i64_in _ (by omega)
                            go_upto_region 34 with (fail)
                            clear z0 e0 e1 e2 e3 q0 q1 q2
                            obtain ⟨wT, hwT⟩ : ∃ z9, z9 = (wB.setCell ⟨b19, 0, none⟩ (.bool true)).setCell ⟨b19, 1, none⟩ (.slice KP1 kl1 kp1) := ⟨_, rfl⟩
                            have HSwT : Hid (Only (· = b19) wB wT) := Lib.hid (by rw [hwT]; exact ((Only.refl (· = b19) wB).setCell (p := ⟨b19, 0, none⟩) rfl _).setCell (p := ⟨b19, 1, none⟩) rfl _)
                            have HB19' : Hid (Blk wT b19 56 [.bool true, .slice KP1 kl1 kp1]) := Lib.hid (by rw [hwT]; exact (HB19.out.set_ 0 _).set_ 1 _)
                            clear HB19
                            have HB19 := HB19'
                            clear HB19'
                            rw [← hwT]
                            clear hwT
                            replace HB9 := Lib.hid (HB9.out.only HSwT.out (fun e => by have h1 := HNB.out; have h2 : b9 = b19 := e; omega))
                            replace HB10 := Lib.hid (HB10.out.only HSwT.out (fun e => by have h1 := HNB.out; have h2 : b10 = b19 := e; omega))
                            replace HB11 := Lib.hid (HB11.out.only HSwT.out (fun e => by have h1 := HNB.out; have h2 : b11 = b19 := e; omega))
                            replace HB12 := Lib.hid (HB12.out.only HSwT.out (fun e => by have h1 := HNB.out; have h2 : b12 = b19 := e; omega))
                            replace Hb13 := Lib.hid (Hb13.out.only HSwT.out (fun e => by have h1 := HNB.out; have h2 : b13 = b19 := e; omega))
                            replace HB18 := Lib.hid (HB18.out.only HSwT.out (fun e => by have h1 := HNB.out; have h2 : b18 = b19 := e; omega))
                            replace HAI := Lib.hid (AInv.only HAI.out HSwT.out (fun i hi => ⟨fun g hg e => by have h1 := HNB.out; have h2 := HNI.out.1 g hg; have h3 : i = b19 := hi; omega, fun g hg e => by have h1 := HNB.out; have h2 := HNI.out.2 g hg; have h3 : i = b19 := hi; omega⟩))
                            replace HO := Lib.hid (HO.out.trans (HSwT.out.mono fun i hi => by have h1 := HNB.out; rw [show i = b19 from hi]; omega))
                            have HLB1 : Hid (lb = (lo : Option Bytes).isSome ∧ Src w0 (.slice LA lan lac) ((lo : Option Bytes).getD [])) := Lib.hid ⟨HLB.out, HLS.out⟩
                            have HHB1 : Hid (true = ((some kk1) : Option Bytes).isSome ∧ Src w0 (.slice KP1 kl1 kp1) (((some kk1) : Option Bytes).getD [])) := Lib.hid ⟨rfl, HZS1.out⟩
                            have HUN : Hid (underP (lo.getD [], hi) x.kds j = ((lo : Option Bytes).getD [], (some kk1))) := Lib.hid (by
                              unfold underP
                              rw [if_neg (by omega), if_pos (by rw [← HPL.out.2]; omega), List.getD_eq_getElem?_getD, HKY1.out]; rfl)
                            have HDX : Hid (Only (wT.heap.size ≤ ·) wT wT.drew) := Lib.hid ((Only.refl _ wT).drew)
                            replace HB9 := Lib.hid (HB9.out.later HDX.out)
                            replace HB10 := Lib.hid (HB10.out.later HDX.out)
                            replace HB11 := Lib.hid (HB11.out.later HDX.out)
                            replace HB12 := Lib.hid (HB12.out.later HDX.out)
                            replace Hb13 := Lib.hid (Hb13.out.later HDX.out)
                            replace HO := Lib.hid (on_new HO.out HDX.out)
                            replace HAI := Lib.hid (HAI.out.later HDX.out)
                            replace HB18 := Lib.hid (HB18.out.later HDX.out)
                            replace HB19 := Lib.hid (HB19.out.later HDX.out)
                            have HSX : Hid ((fun W : World => W.cell? ⟨b13, 2, none⟩ = some (.slice (some ⟨kb0, ko0, none⟩) q qc) ∧ W.cell? ⟨kb0, ko0 + j * 2 + 1, none⟩ = some (.int .i64 kr0) ∧ W.cell? ⟨b18, 0, none⟩ = some (.bool lb) ∧ W.cell? ⟨b18, 1, none⟩ = some (.slice LA lan lac) ∧ W.cell? ⟨b19, 0, none⟩ = some (.bool true) ∧ W.cell? ⟨b19, 1, none⟩ = some (.slice KP1 kl1 kp1)) wT.drew) := Lib.hid ⟨Hb13.out.cell 2, cell_later HZ10.out (on_new H0.out HO.out), HB18.out.cell 0, HB18.out.cell 1, HB19.out.cell 0, HB19.out.cell 1⟩
                            obtain ⟨v0, v1, v2, v3⟩ := HB11.out.cell4
                            have hdw : IntKind.i64.wrap ((deep : Int) + 1) = (deep : Int) + 1 := IntWalk.i64_in _ (by omega)
                            have hjz : (0 : Int) ≤ (j : Int) := by omega
                            obtain ⟨R9, hR9⟩ : ∃ z9, z9 = visitP l f kr0 ((lo : Option Bytes).getD [], (some kk1)) Sj := ⟨_, rfl⟩
                            obtain ⟨er2, Sk⟩ := R9
                            have HRR := Lib.hid hR9
                            clear hR9
                            have HSO : Hid (SvOk l Sk) := Lib.hid (by have h1 := visit_ok HF.out f kr0 ((lo : Option Bytes).getD [], (some kk1)) Sj HOJ.out; rw [← HRR.out] at h1; exact h1)
                            have HGR : Hid ((x.kds.getD j ([], 0)).2 = kr0) := Lib.hid (by rw [List.getD_eq_getElem?_getD, HKY0.out]; rfl)
                            have HCC : Hid (Calls Try.prog 17 #[.slice A n c, .int .i64 kr0, .int .i64 ((deep : Int) + 1), .agg #[.bool lb, .slice LA lan lac], .agg #[.bool true, .slice KP1 kl1 kp1], .agg #[.slice JA jn jc, .slice KA kn kc, .int .i64 (dj : Int), .int .i64 0]] wT.drew (AllR w0 wT.drew l (er2, Sk))) := Lib.hid (by
                              have h1 := HIH.out wT.drew (on_new H0.out HO.out) kr0 (deep + 1) (by have := HDF.out; omega) lb true LA KP1 lan lac kl1 kp1 lo (some kk1) HLB1.out.1 HLB1.out.2 HHB1.out.1 HHB1.out.2 JA KA jn jc kn kc dj Sj HAI.out HDJ.out HOJ.out
                              rw [← HRR.out, Int.natCast_succ] at h1
                              exact h1)
                            refine wp_region_list (B := [false, false, false, false, false, false, false, false, false, false, false, false, false, false]) (S := (fun W : World => W.cell? ⟨b13, 2, none⟩ = some (.slice (some ⟨kb0, ko0, none⟩) q qc) ∧ W.cell? ⟨kb0, ko0 + j * 2 + 1, none⟩ = some (.int .i64 kr0) ∧ W.cell? ⟨b18, 0, none⟩ = some (.bool lb) ∧ W.cell? ⟨b18, 1, none⟩ = some (.slice LA lan lac) ∧ W.cell? ⟨b19, 0, none⟩ = some (.bool true) ∧ W.cell? ⟨b19, 1, none⟩ = some (.slice KP1 kl1 kp1))) (by kernel_rfl) (by kernel_rfl) (by kernel_rfl) HSX.out (fun hsel hHeld => ?_)
                            generalize hwz : World.drew _ = wx at HDX HB9 HB10 HB11 HB12 Hb13 HO HAI HSX HCC v0 v1 v2 v3 hHeld ⊢
                            clear hwz
                            refine oneA 0 158 hsel (h := ?_)
                            simp only [Act.put, List.setIfInBounds_toArray, List.set_cons_zero, List.set_cons_succ]
                            refine oneA 1 159 hsel (h := ?_)
                            simp only [Act.put, List.setIfInBounds_toArray, List.set_cons_zero, List.set_cons_succ]
                            refine oneA 2 160 hsel (h := ?_)
                            simp only [Act.put, List.setIfInBounds_toArray, List.set_cons_zero, List.set_cons_succ]
                            refine oneA 3 161 hsel (h := ?_)
                            simp only [Act.put, List.setIfInBounds_toArray, List.set_cons_zero, List.set_cons_succ]
                            refine oneA 4 162 hsel (h := ?_)
                            simp only [Act.put, List.setIfInBounds_toArray, List.set_cons_zero, List.set_cons_succ]
                            refine oneA 5 163 hsel (h := ?_)
                            simp only [Act.put, List.setIfInBounds_toArray, List.set_cons_zero, List.set_cons_succ]
                            refine oneA 6 164 hsel (h := ?_)
                            simp only [Act.put, List.setIfInBounds_toArray, List.set_cons_zero, List.set_cons_succ]
                            refine oneA 7 165 hsel (h := ?_)
                            simp only [Act.put, List.setIfInBounds_toArray, List.set_cons_zero, List.set_cons_succ]
                            refine oneA 8 166 hsel (h := ?_)
                            simp only [Act.put, List.setIfInBounds_toArray, List.set_cons_zero, List.set_cons_succ]
                            refine oneA 9 167 hsel (h := ?_)
                            simp only [Act.put, List.setIfInBounds_toArray, List.set_cons_zero, List.set_cons_succ]
                            refine oneA 10 168 hsel (h := ?_)
                            simp only [Act.put, List.setIfInBounds_toArray, List.set_cons_zero, List.set_cons_succ]
                            refine wpAnyL_ready (rs := [11]) (by kernel_rfl) (by kernel_rfl) (by simp) ?_
                            refine AllReadyL.cons (o := ?_) ?_ (fun K hK => ?_) AllReadyL.nil
                            case refine_2 => (simp only [List.getElem?_cons_succ, List.getElem?_cons_zero]; rfl)
                            go_simp
                            clear hHeld
                            refine hK.out _ _ HSX.out (fun hHeld => ?_)
                            clear hK K
                            try simp only [List.set_cons_zero, List.set_cons_succ]
                            refine wpAnyL_ready (rs := [12]) (by kernel_rfl) (by kernel_rfl) (by simp) ?_
                            refine AllReadyL.cons (o := ?_) ?_ (fun K hK => ?_) AllReadyL.nil
                            case refine_2 => (simp only [List.getElem?_cons_succ, List.getElem?_cons_zero]; rfl)
                            go_simp
                            (go_at_call 17; (with_reducible refine HCC.out.mono ?_); rintro e wc ⟨⟨vI', vR', rfl, hai⟩, ho⟩; (obtain ⟨JB, jc', KB, kc', rfl, rfl⟩ := hai.form); have HAC := Lib.hid hai; have HXC := Lib.hid ho; have HSC := Lib.hid (six_later HSX.out ho); have HB11c := Lib.hid (HB11.out.later ho); (obtain ⟨x0, x1, x2, x3⟩ := HB11c.out.cell4); (obtain ⟨y0, y1, y2, y3⟩ := HB11c.out.melt4); (have HSE : Hid (Only (· = b11) wc ((((wc.setCell ⟨b11, 0, none⟩ (.slice JB (okS (er2, Sk)).its.length jc')).setCell ⟨b11, 1, none⟩ (.slice KB (okS (er2, Sk)).refs.length kc')).setCell ⟨b11, 2, none⟩ (.int .i64 (((okS (er2, Sk)).dep : Nat) : Int))).setCell ⟨b11, 3, none⟩ (.int .i64 er2))) := Lib.hid (((((Only.refl (· = b11) wc).setCell (p := ⟨b11, 0, none⟩) rfl _).setCell (p := ⟨b11, 1, none⟩) rfl _).setCell (p := ⟨b11, 2, none⟩) rfl _).setCell (p := ⟨b11, 3, none⟩) rfl _)); have HST := Lib.hid (six_other HSC.out HSE.out (fun e => HE13.out e) (fun e => HKE.out e) (fun e => HE18.out.1 e) (fun e => HE18.out.2 e)); clear hai ho)
                            go_wp2_with (fail)
                            clear hHeld
                            refine hK.out _ _ HSC.out (fun hHeld => ?_)
                            clear hK K
                            try simp only [List.set_cons_zero, List.set_cons_succ]
                            refine wpAnyL_ready (rs := [13]) (by kernel_rfl) (by kernel_rfl) (by simp) ?_
                            refine AllReadyL.cons (o := ?_) ?_ (fun K hK => ?_) AllReadyL.nil
                            case refine_2 => (simp only [List.getElem?_cons_succ, List.getElem?_cons_zero]; rfl)
                            go_simp
                            clear hHeld
                            refine hK.out _ _ HST.out (fun hHeld => ?_)
                            clear hK K
                            try simp only [List.set_cons_zero, List.set_cons_succ]
                            refine wpAnyL_done (by kernel_rfl) (by kernel_rfl) ?_ _
                            clear hsel hHeld
                            clear x0 x1 x2 x3 y0 y1 y2 y3
                            have HB11e : Hid (Blk ((((wc.setCell ⟨b11, 0, none⟩ (.slice JB (okS (er2, Sk)).its.length jc')).setCell ⟨b11, 1, none⟩ (.slice KB (okS (er2, Sk)).refs.length kc')).setCell ⟨b11, 2, none⟩ (.int .i64 (((okS (er2, Sk)).dep : Nat) : Int))).setCell ⟨b11, 3, none⟩ (.int .i64 er2)) b11 53 [(.slice JB (okS (er2, Sk)).its.length jc'), (.slice KB (okS (er2, Sk)).refs.length kc'), (.int .i64 (((okS (er2, Sk)).dep : Nat) : Int)), (.int .i64 er2)]) := Lib.hid ((((HB11c.out.set_ 0 _).set_ 1 _).set_ 2 _).set_ 3 _)
                            have HAE := Lib.hid (AInv.other HAC.out HB11c.out (by decide) (by decide) HSE.out)
                            have HB9e := Lib.hid ((HB9.out.later HXC.out).only HSE.out (fun e => HNE.out.2.2.2.2.2.1 e))
                            have HB10e := Lib.hid ((HB10.out.later HXC.out).only HSE.out (fun e => HNE.out.2.2.2.2.2.2 e))
                            have HB12e := Lib.hid ((HB12.out.later HXC.out).only HSE.out (fun e => HNE.out.2.2.1 (Eq.symm e)))
                            have HB13e := Lib.hid ((Hb13.out.later HXC.out).only HSE.out (fun e => HE13.out e))
                            have HOE : Hid (Only (w.heap.size ≤ ·) w ((((wc.setCell ⟨b11, 0, none⟩ (.slice JB (okS (er2, Sk)).its.length jc')).setCell ⟨b11, 1, none⟩ (.slice KB (okS (er2, Sk)).refs.length kc')).setCell ⟨b11, 2, none⟩ (.int .i64 (((okS (er2, Sk)).dep : Nat) : Int))).setCell ⟨b11, 3, none⟩ (.int .i64 er2))) := Lib.hid ((on_new HO.out HXC.out).trans (HSE.out.mono fun i hi => by rw [show i = b11 from hi]; exact HNE.out.2.1))
                            have HVE : Hid (visitP l (f + 1) ref (lo.getD [], hi) S = if er2 = 0 then kidsP (visitP l f) x.kds (lo.getD [], hi) (j + 1) (q - (j + 1)) Sk else (er2, Sk)) := Lib.hid (by
                              rw [HVK.out, show q - j = (q - (j + 1)) + 1 by omega, kidsP, HUN.out, HGR.out, ← HRR.out])
                            go_wp2_with (fail)
                            go_roundg (q - (j + 1))
                            case measure => omega
                            case rel => exact ⟨j + 1, _, er2, Sk, JB, _, jc', KB, _, kc', rfl, by omega, by go_num, HB9e, HB10e, HB11e, HB12e, HB13e, HOE, HAE, Lib.hid rfl, Lib.hid (fun _ => by have h1 := HSO.out; exact h1), HVE⟩
                          · have hj1' : ¬ (j : Int) + 1 < (q : Int) := by omega
                            exfalso
                            omega
                      · have her' : ¬ er = 0 := her
                        obtain ⟨a0, a1⟩ := two_cells HB9.out
                        obtain ⟨a2, a3⟩ := two_cells HB10.out
                        obtain ⟨c0, c1, c2, c3⟩ := HB11.out.cell4
                        obtain ⟨d0, d1, d2, d3⟩ := HB12.out.cell4
                        obtain ⟨f0, f1, f2, f3⟩ := HB12.out.melt4
                        obtain ⟨q0, q1, q2⟩ := Hb13.out.tri
                        have HVP : Hid (visitP l (f + 1) ref (lo.getD [], hi) S = (er, Sj)) := Lib.hid (by rw [HVJ.out, if_neg her])
                        go_wp2_with (fail)
                        have HF1 : Hid (Blk ((((wr.setCell ⟨b12, 0, none⟩ (.slice JA jn jc)).setCell ⟨b12, 1, none⟩ (.slice KA kn kc)).setCell ⟨b12, 2, none⟩ (.int .i64 (dj : Int))).setCell ⟨b12, 3, none⟩ (.int .i64 er)) b12 53 [(.slice JA jn jc), (.slice KA kn kc), (.int .i64 (dj : Int)), (.int .i64 er)]) := Lib.hid ((((HB12.out.set_ 0 _).set_ 1 _).set_ 2 _).set_ 3 _)
                        have HF2 : Hid (Only (· = b12) wr ((((wr.setCell ⟨b12, 0, none⟩ (.slice JA jn jc)).setCell ⟨b12, 1, none⟩ (.slice KA kn kc)).setCell ⟨b12, 2, none⟩ (.int .i64 (dj : Int))).setCell ⟨b12, 3, none⟩ (.int .i64 er))) := Lib.hid (((((Only.refl (· = b12) wr).setCell (p := ⟨b12, 0, none⟩) rfl _).setCell (p := ⟨b12, 1, none⟩) rfl _).setCell (p := ⟨b12, 2, none⟩) rfl _).setCell (p := ⟨b12, 3, none⟩) rfl _)
                        refine bodyPost_ret (v := .agg #[(.slice JA jn jc), (.slice KA kn kc), (.int .i64 (dj : Int)), (.int .i64 er)]) (results_cell1 rfl rfl (load_rwhole rfl rfl HF1.out)) rfl ?_
                        rw [HVP.out]
                        exact ⟨⟨_, _, by rw [← HDJ0.out], (AInv.other HAJ.out HB12.out (by decide) (by decide) HF2.out)⟩, HO.out.trans (HF2.out.mono fun j hj => by rw [show j = b12 from hj]; exact HNE.out.1)⟩
                    · obtain rfl : j = q := by omega
                      have hkm : ¬ (j : Int) < (j : Int) := by omega
                      obtain ⟨a0, a1⟩ := two_cells HB9.out
                      obtain ⟨a2, a3⟩ := two_cells HB10.out
                      obtain ⟨c0, c1, c2, c3⟩ := HB11.out.cell4
                      obtain ⟨d0, d1, d2, d3⟩ := HB12.out.cell4
                      obtain ⟨f0, f1, f2, f3⟩ := HB12.out.melt4
                      obtain ⟨q0, q1, q2⟩ := Hb13.out.tri
                      have HVP : Hid (visitP l (f + 1) ref (lo.getD [], hi) S = (er, Sj)) := Lib.hid (by rw [HVJ.out, Nat.sub_self, kidsP]; by_cases h : er = 0 <;> simp [h])
                      go_wp2_with (fail)
                      have HF1 : Hid (Blk ((((wr.setCell ⟨b12, 0, none⟩ (.slice JA jn jc)).setCell ⟨b12, 1, none⟩ (.slice KA kn kc)).setCell ⟨b12, 2, none⟩ (.int .i64 (dj : Int))).setCell ⟨b12, 3, none⟩ (.int .i64 er)) b12 53 [(.slice JA jn jc), (.slice KA kn kc), (.int .i64 (dj : Int)), (.int .i64 er)]) := Lib.hid ((((HB12.out.set_ 0 _).set_ 1 _).set_ 2 _).set_ 3 _)
                      have HF2 : Hid (Only (· = b12) wr ((((wr.setCell ⟨b12, 0, none⟩ (.slice JA jn jc)).setCell ⟨b12, 1, none⟩ (.slice KA kn kc)).setCell ⟨b12, 2, none⟩ (.int .i64 (dj : Int))).setCell ⟨b12, 3, none⟩ (.int .i64 er))) := Lib.hid (((((Only.refl (· = b12) wr).setCell (p := ⟨b12, 0, none⟩) rfl _).setCell (p := ⟨b12, 1, none⟩) rfl _).setCell (p := ⟨b12, 2, none⟩) rfl _).setCell (p := ⟨b12, 3, none⟩) rfl _)
                      refine bodyPost_ret (v := .agg #[(.slice JA jn jc), (.slice KA kn kc), (.int .i64 (dj : Int)), (.int .i64 er)]) (results_cell1 rfl rfl (load_rwhole rfl rfl HF1.out)) rfl ?_
                      rw [HVP.out]
                      exact ⟨⟨_, _, by rw [← HDJ0.out], (AInv.other HAJ.out HB12.out (by decide) (by decide) HF2.out)⟩, HO.out.trans (HF2.out.mono fun j hj => by rw [show j = b12 from hj]; exact HNE.out.1)⟩
          | true =>
            have HBE : Hid (badB x (12 - f) ref (lo.getD [], hi) S = (b || decide (0 < q) || (decide (p = 0) && decide (deep ≠ 1) || (decide (0 < dep) && decide (dep ≠ deep))))) := Lib.hid (by rw [bad_leaf HXL.out, HWB.out, HKB.out, HPL.out.1, HPL.out.2, ← HDP.out, ← HDF.out.1])
            by_cases hq0 : 0 < q
            · have hq0' : (0 : Int) < (q : Int) := by omega
              have HVP : Hid (visitP l (f + 1) ref (lo.getD [], hi) S = (131, S)) := Lib.hid (visit_bad HNO.out (by rw [HBE.out]; simp [hq0]))
              clear hq0
              by_cases hp0 : p = 0
              · subst hp0
                by_cases hd1 : 1 < deep
                · have hd1' : (1 : Int) < (deep : Int) := by omega
                  go_wp2_with (fail)
                  have HF1 : Hid (Blk ((((wr.setCell ⟨b12, 0, none⟩ (.slice none 0 0)).setCell ⟨b12, 1, none⟩ (.slice none 0 0)).setCell ⟨b12, 2, none⟩ (.int .i64 0)).setCell ⟨b12, 3, none⟩ (.int .i64 131)) b12 53 [(.slice none 0 0), (.slice none 0 0), (.int .i64 0), (.int .i64 131)]) := Lib.hid ((((HB12.out.set_ 0 _).set_ 1 _).set_ 2 _).set_ 3 _)
                  have HF2 : Hid (Only (· = b12) wr ((((wr.setCell ⟨b12, 0, none⟩ (.slice none 0 0)).setCell ⟨b12, 1, none⟩ (.slice none 0 0)).setCell ⟨b12, 2, none⟩ (.int .i64 0)).setCell ⟨b12, 3, none⟩ (.int .i64 131))) := Lib.hid (((((Only.refl (· = b12) wr).setCell (p := ⟨b12, 0, none⟩) rfl _).setCell (p := ⟨b12, 1, none⟩) rfl _).setCell (p := ⟨b12, 2, none⟩) rfl _).setCell (p := ⟨b12, 3, none⟩) rfl _)
                  refine bodyPost_ret (v := .agg #[(.slice none 0 0), (.slice none 0 0), (.int .i64 0), (.int .i64 131)]) (results_cell1 rfl rfl (load_rwhole rfl rfl HF1.out)) rfl ?_
                  rw [HVP.out]
                  exact ⟨⟨_, _, rfl, ⟨⟨[], World.ownsRow_nil _ _ _ _, rfl⟩, World.ownsRow_nil _ _ _ _⟩⟩, HO.out.trans (HF2.out.mono fun j hj => by rw [show j = b12 from hj]; exact HNE.out.1)⟩
                · have hd1' : ¬ (1 : Int) < (deep : Int) := by omega
                  by_cases hde : 0 < dep
                  · have hde' : (0 : Int) < (dep : Int) := by omega
                    by_cases hdd : dep = deep
                    · subst hdd
                      go_wp2_with (fail)
                      have HF1 : Hid (Blk ((((wr.setCell ⟨b12, 0, none⟩ (.slice none 0 0)).setCell ⟨b12, 1, none⟩ (.slice none 0 0)).setCell ⟨b12, 2, none⟩ (.int .i64 0)).setCell ⟨b12, 3, none⟩ (.int .i64 131)) b12 53 [(.slice none 0 0), (.slice none 0 0), (.int .i64 0), (.int .i64 131)]) := Lib.hid ((((HB12.out.set_ 0 _).set_ 1 _).set_ 2 _).set_ 3 _)
                      have HF2 : Hid (Only (· = b12) wr ((((wr.setCell ⟨b12, 0, none⟩ (.slice none 0 0)).setCell ⟨b12, 1, none⟩ (.slice none 0 0)).setCell ⟨b12, 2, none⟩ (.int .i64 0)).setCell ⟨b12, 3, none⟩ (.int .i64 131))) := Lib.hid (((((Only.refl (· = b12) wr).setCell (p := ⟨b12, 0, none⟩) rfl _).setCell (p := ⟨b12, 1, none⟩) rfl _).setCell (p := ⟨b12, 2, none⟩) rfl _).setCell (p := ⟨b12, 3, none⟩) rfl _)
                      refine bodyPost_ret (v := .agg #[(.slice none 0 0), (.slice none 0 0), (.int .i64 0), (.int .i64 131)]) (results_cell1 rfl rfl (load_rwhole rfl rfl HF1.out)) rfl ?_
                      rw [HVP.out]
                      exact ⟨⟨_, _, rfl, ⟨⟨[], World.ownsRow_nil _ _ _ _, rfl⟩, World.ownsRow_nil _ _ _ _⟩⟩, HO.out.trans (HF2.out.mono fun j hj => by rw [show j = b12 from hj]; exact HNE.out.1)⟩
                    · have hdd' : ¬ (dep : Int) = (deep : Int) := by omega
                      go_wp2_with (fail)
                      have HF1 : Hid (Blk ((((wr.setCell ⟨b12, 0, none⟩ (.slice none 0 0)).setCell ⟨b12, 1, none⟩ (.slice none 0 0)).setCell ⟨b12, 2, none⟩ (.int .i64 0)).setCell ⟨b12, 3, none⟩ (.int .i64 131)) b12 53 [(.slice none 0 0), (.slice none 0 0), (.int .i64 0), (.int .i64 131)]) := Lib.hid ((((HB12.out.set_ 0 _).set_ 1 _).set_ 2 _).set_ 3 _)
                      have HF2 : Hid (Only (· = b12) wr ((((wr.setCell ⟨b12, 0, none⟩ (.slice none 0 0)).setCell ⟨b12, 1, none⟩ (.slice none 0 0)).setCell ⟨b12, 2, none⟩ (.int .i64 0)).setCell ⟨b12, 3, none⟩ (.int .i64 131))) := Lib.hid (((((Only.refl (· = b12) wr).setCell (p := ⟨b12, 0, none⟩) rfl _).setCell (p := ⟨b12, 1, none⟩) rfl _).setCell (p := ⟨b12, 2, none⟩) rfl _).setCell (p := ⟨b12, 3, none⟩) rfl _)
                      refine bodyPost_ret (v := .agg #[(.slice none 0 0), (.slice none 0 0), (.int .i64 0), (.int .i64 131)]) (results_cell1 rfl rfl (load_rwhole rfl rfl HF1.out)) rfl ?_
                      rw [HVP.out]
                      exact ⟨⟨_, _, rfl, ⟨⟨[], World.ownsRow_nil _ _ _ _, rfl⟩, World.ownsRow_nil _ _ _ _⟩⟩, HO.out.trans (HF2.out.mono fun j hj => by rw [show j = b12 from hj]; exact HNE.out.1)⟩
                  · have hde' : ¬ (0 : Int) < (dep : Int) := by omega
                    go_wp2_with (fail)
                    have HF1 : Hid (Blk ((((wr.setCell ⟨b12, 0, none⟩ (.slice none 0 0)).setCell ⟨b12, 1, none⟩ (.slice none 0 0)).setCell ⟨b12, 2, none⟩ (.int .i64 0)).setCell ⟨b12, 3, none⟩ (.int .i64 131)) b12 53 [(.slice none 0 0), (.slice none 0 0), (.int .i64 0), (.int .i64 131)]) := Lib.hid ((((HB12.out.set_ 0 _).set_ 1 _).set_ 2 _).set_ 3 _)
                    have HF2 : Hid (Only (· = b12) wr ((((wr.setCell ⟨b12, 0, none⟩ (.slice none 0 0)).setCell ⟨b12, 1, none⟩ (.slice none 0 0)).setCell ⟨b12, 2, none⟩ (.int .i64 0)).setCell ⟨b12, 3, none⟩ (.int .i64 131))) := Lib.hid (((((Only.refl (· = b12) wr).setCell (p := ⟨b12, 0, none⟩) rfl _).setCell (p := ⟨b12, 1, none⟩) rfl _).setCell (p := ⟨b12, 2, none⟩) rfl _).setCell (p := ⟨b12, 3, none⟩) rfl _)
                    refine bodyPost_ret (v := .agg #[(.slice none 0 0), (.slice none 0 0), (.int .i64 0), (.int .i64 131)]) (results_cell1 rfl rfl (load_rwhole rfl rfl HF1.out)) rfl ?_
                    rw [HVP.out]
                    exact ⟨⟨_, _, rfl, ⟨⟨[], World.ownsRow_nil _ _ _ _, rfl⟩, World.ownsRow_nil _ _ _ _⟩⟩, HO.out.trans (HF2.out.mono fun j hj => by rw [show j = b12 from hj]; exact HNE.out.1)⟩
              · have hp0' : ¬ (p : Int) = 0 := by omega
                by_cases hde : 0 < dep
                · have hde' : (0 : Int) < (dep : Int) := by omega
                  by_cases hdd : dep = deep
                  · subst hdd
                    go_wp2_with (fail)
                    have HF1 : Hid (Blk ((((wr.setCell ⟨b12, 0, none⟩ (.slice none 0 0)).setCell ⟨b12, 1, none⟩ (.slice none 0 0)).setCell ⟨b12, 2, none⟩ (.int .i64 0)).setCell ⟨b12, 3, none⟩ (.int .i64 131)) b12 53 [(.slice none 0 0), (.slice none 0 0), (.int .i64 0), (.int .i64 131)]) := Lib.hid ((((HB12.out.set_ 0 _).set_ 1 _).set_ 2 _).set_ 3 _)
                    have HF2 : Hid (Only (· = b12) wr ((((wr.setCell ⟨b12, 0, none⟩ (.slice none 0 0)).setCell ⟨b12, 1, none⟩ (.slice none 0 0)).setCell ⟨b12, 2, none⟩ (.int .i64 0)).setCell ⟨b12, 3, none⟩ (.int .i64 131))) := Lib.hid (((((Only.refl (· = b12) wr).setCell (p := ⟨b12, 0, none⟩) rfl _).setCell (p := ⟨b12, 1, none⟩) rfl _).setCell (p := ⟨b12, 2, none⟩) rfl _).setCell (p := ⟨b12, 3, none⟩) rfl _)
                    refine bodyPost_ret (v := .agg #[(.slice none 0 0), (.slice none 0 0), (.int .i64 0), (.int .i64 131)]) (results_cell1 rfl rfl (load_rwhole rfl rfl HF1.out)) rfl ?_
                    rw [HVP.out]
                    exact ⟨⟨_, _, rfl, ⟨⟨[], World.ownsRow_nil _ _ _ _, rfl⟩, World.ownsRow_nil _ _ _ _⟩⟩, HO.out.trans (HF2.out.mono fun j hj => by rw [show j = b12 from hj]; exact HNE.out.1)⟩
                  · have hdd' : ¬ (dep : Int) = (deep : Int) := by omega
                    go_wp2_with (fail)
                    have HF1 : Hid (Blk ((((wr.setCell ⟨b12, 0, none⟩ (.slice none 0 0)).setCell ⟨b12, 1, none⟩ (.slice none 0 0)).setCell ⟨b12, 2, none⟩ (.int .i64 0)).setCell ⟨b12, 3, none⟩ (.int .i64 131)) b12 53 [(.slice none 0 0), (.slice none 0 0), (.int .i64 0), (.int .i64 131)]) := Lib.hid ((((HB12.out.set_ 0 _).set_ 1 _).set_ 2 _).set_ 3 _)
                    have HF2 : Hid (Only (· = b12) wr ((((wr.setCell ⟨b12, 0, none⟩ (.slice none 0 0)).setCell ⟨b12, 1, none⟩ (.slice none 0 0)).setCell ⟨b12, 2, none⟩ (.int .i64 0)).setCell ⟨b12, 3, none⟩ (.int .i64 131))) := Lib.hid (((((Only.refl (· = b12) wr).setCell (p := ⟨b12, 0, none⟩) rfl _).setCell (p := ⟨b12, 1, none⟩) rfl _).setCell (p := ⟨b12, 2, none⟩) rfl _).setCell (p := ⟨b12, 3, none⟩) rfl _)
                    refine bodyPost_ret (v := .agg #[(.slice none 0 0), (.slice none 0 0), (.int .i64 0), (.int .i64 131)]) (results_cell1 rfl rfl (load_rwhole rfl rfl HF1.out)) rfl ?_
                    rw [HVP.out]
                    exact ⟨⟨_, _, rfl, ⟨⟨[], World.ownsRow_nil _ _ _ _, rfl⟩, World.ownsRow_nil _ _ _ _⟩⟩, HO.out.trans (HF2.out.mono fun j hj => by rw [show j = b12 from hj]; exact HNE.out.1)⟩
                · have hde' : ¬ (0 : Int) < (dep : Int) := by omega
                  go_wp2_with (fail)
                  have HF1 : Hid (Blk ((((wr.setCell ⟨b12, 0, none⟩ (.slice none 0 0)).setCell ⟨b12, 1, none⟩ (.slice none 0 0)).setCell ⟨b12, 2, none⟩ (.int .i64 0)).setCell ⟨b12, 3, none⟩ (.int .i64 131)) b12 53 [(.slice none 0 0), (.slice none 0 0), (.int .i64 0), (.int .i64 131)]) := Lib.hid ((((HB12.out.set_ 0 _).set_ 1 _).set_ 2 _).set_ 3 _)
                  have HF2 : Hid (Only (· = b12) wr ((((wr.setCell ⟨b12, 0, none⟩ (.slice none 0 0)).setCell ⟨b12, 1, none⟩ (.slice none 0 0)).setCell ⟨b12, 2, none⟩ (.int .i64 0)).setCell ⟨b12, 3, none⟩ (.int .i64 131))) := Lib.hid (((((Only.refl (· = b12) wr).setCell (p := ⟨b12, 0, none⟩) rfl _).setCell (p := ⟨b12, 1, none⟩) rfl _).setCell (p := ⟨b12, 2, none⟩) rfl _).setCell (p := ⟨b12, 3, none⟩) rfl _)
                  refine bodyPost_ret (v := .agg #[(.slice none 0 0), (.slice none 0 0), (.int .i64 0), (.int .i64 131)]) (results_cell1 rfl rfl (load_rwhole rfl rfl HF1.out)) rfl ?_
                  rw [HVP.out]
                  exact ⟨⟨_, _, rfl, ⟨⟨[], World.ownsRow_nil _ _ _ _, rfl⟩, World.ownsRow_nil _ _ _ _⟩⟩, HO.out.trans (HF2.out.mono fun j hj => by rw [show j = b12 from hj]; exact HNE.out.1)⟩
            · have hq0' : ¬ (0 : Int) < (q : Int) := by omega
              by_cases hp0 : p = 0
              · have hp0' : (p : Int) = 0 := by omega
                by_cases hd1 : 1 < deep
                · have hd1' : (1 : Int) < (deep : Int) := by omega
                  have HVP : Hid (visitP l (f + 1) ref (lo.getD [], hi) S = (131, S)) := Lib.hid (visit_bad HNO.out (by rw [HBE.out]; simp [hp0, Nat.ne_of_gt hd1]))
                  clear hq0 hd1 hp0
                  go_wp2_with (fail)
                  have HF1 : Hid (Blk ((((wr.setCell ⟨b12, 0, none⟩ (.slice none 0 0)).setCell ⟨b12, 1, none⟩ (.slice none 0 0)).setCell ⟨b12, 2, none⟩ (.int .i64 0)).setCell ⟨b12, 3, none⟩ (.int .i64 131)) b12 53 [(.slice none 0 0), (.slice none 0 0), (.int .i64 0), (.int .i64 131)]) := Lib.hid ((((HB12.out.set_ 0 _).set_ 1 _).set_ 2 _).set_ 3 _)
                  have HF2 : Hid (Only (· = b12) wr ((((wr.setCell ⟨b12, 0, none⟩ (.slice none 0 0)).setCell ⟨b12, 1, none⟩ (.slice none 0 0)).setCell ⟨b12, 2, none⟩ (.int .i64 0)).setCell ⟨b12, 3, none⟩ (.int .i64 131))) := Lib.hid (((((Only.refl (· = b12) wr).setCell (p := ⟨b12, 0, none⟩) rfl _).setCell (p := ⟨b12, 1, none⟩) rfl _).setCell (p := ⟨b12, 2, none⟩) rfl _).setCell (p := ⟨b12, 3, none⟩) rfl _)
                  refine bodyPost_ret (v := .agg #[(.slice none 0 0), (.slice none 0 0), (.int .i64 0), (.int .i64 131)]) (results_cell1 rfl rfl (load_rwhole rfl rfl HF1.out)) rfl ?_
                  rw [HVP.out]
                  exact ⟨⟨_, _, rfl, ⟨⟨[], World.ownsRow_nil _ _ _ _, rfl⟩, World.ownsRow_nil _ _ _ _⟩⟩, HO.out.trans (HF2.out.mono fun j hj => by rw [show j = b12 from hj]; exact HNE.out.1)⟩
                · have hd1' : ¬ (1 : Int) < (deep : Int) := by omega
                  have hde : deep = 1 := by omega
                  have HBE2 : Hid (badB x (12 - f) ref (lo.getD [], hi) S = (b || (decide (0 < dep) && decide (dep ≠ deep)))) := Lib.hid (by rw [HBE.out]; simp [hq0, hde])
                  clear hde hd1 hq0 hp0
                  by_cases hde : 0 < dep
                  · have hde' : (0 : Int) < (dep : Int) := by omega
                    by_cases hdd : dep = deep
                    · have HGD : Hid (badB x (12 - f) ref (lo.getD [], hi) S = b) := Lib.hid (by rw [HBE2.out]; simp [hdd])
                      have HDD : Hid (depP x (12 - f) S.dep = deep) := Lib.hid (by unfold depP; rw [← HDP.out, ← HDF.out.1, hdd]; split <;> rfl)
                      subst hdd
                      cases b with
                      | true =>
                        have HVP : Hid (visitP l (f + 1) ref (lo.getD [], hi) S = (131, S)) := Lib.hid (visit_bad HNO.out HGD.out)
                        go_wp2_with (fail)
                        have HF1 : Hid (Blk ((((wr.setCell ⟨b12, 0, none⟩ (.slice none 0 0)).setCell ⟨b12, 1, none⟩ (.slice none 0 0)).setCell ⟨b12, 2, none⟩ (.int .i64 0)).setCell ⟨b12, 3, none⟩ (.int .i64 131)) b12 53 [(.slice none 0 0), (.slice none 0 0), (.int .i64 0), (.int .i64 131)]) := Lib.hid ((((HB12.out.set_ 0 _).set_ 1 _).set_ 2 _).set_ 3 _)
                        have HF2 : Hid (Only (· = b12) wr ((((wr.setCell ⟨b12, 0, none⟩ (.slice none 0 0)).setCell ⟨b12, 1, none⟩ (.slice none 0 0)).setCell ⟨b12, 2, none⟩ (.int .i64 0)).setCell ⟨b12, 3, none⟩ (.int .i64 131))) := Lib.hid (((((Only.refl (· = b12) wr).setCell (p := ⟨b12, 0, none⟩) rfl _).setCell (p := ⟨b12, 1, none⟩) rfl _).setCell (p := ⟨b12, 2, none⟩) rfl _).setCell (p := ⟨b12, 3, none⟩) rfl _)
                        refine bodyPost_ret (v := .agg #[(.slice none 0 0), (.slice none 0 0), (.int .i64 0), (.int .i64 131)]) (results_cell1 rfl rfl (load_rwhole rfl rfl HF1.out)) rfl ?_
                        rw [HVP.out]
                        exact ⟨⟨_, _, rfl, ⟨⟨[], World.ownsRow_nil _ _ _ _, rfl⟩, World.ownsRow_nil _ _ _ _⟩⟩, HO.out.trans (HF2.out.mono fun j hj => by rw [show j = b12 from hj]; exact HNE.out.1)⟩
                      | false =>
                        have HVG := Lib.hid (visit_good HNO.out HGD.out)
                        clear HBE HBE2 HGD HWB
                        have HWR : Hid (w.heap.size ≤ wr.heap.size) := Lib.hid HO.out.size
                        have hkb := HNRB.out.1
                        have hib := HNRB.out.2
                        have HAL : Hid (Only (wr.heap.size ≤ ·) wr (wr.alloc (.cells #[] 3))) := Lib.hid ((Only.refl _ wr).alloc (fun _ h => h) _)
                        have g1 := cell_later c1 HAL.out
                        go_upto_region 21 with (at_builtin; first
                          | (refine wpList_append_row rfl (.tmp 100) (.tmp 102) 47 rfl wr.heap.size 3 i2 (.int .i64 0) 1 8 Try.underlying47 HI2.out.1 HI2.out.2.1 HI2.out.2.2.1 HI2.out.2.2.2 (by rfl) (by omega) (.slice (some ⟨wr.heap.size, 0, none⟩) 0 0) 0 [] rfl (own_none wr 3 1) RA k rc (ic2 S.refs) rfl HRA.out.1 HRA.out.2 (fun ad e j u hu => cell_later (HRC.out ad e j u hu) HAL.out) (ic2_one _) (by simp only [maxLen]; omega) (by omega) (by simp) ?_; intro v' w8 ho' hg' hat'; rw [Nat.zero_add, List.nil_append] at ho'; (obtain ⟨R1, t1, rfl, _⟩ := raw_of_own ho'); have HR8 := Lib.hid ho'; have HX8 : Hid (Only (wr.heap.size ≤ ·) wr w8) := Lib.hid ((grow_only hg').mono fun j hj => hj.elim (fun e => Nat.le_of_eq (Option.some.inj e)) fun h => h); have HBK8 : Hid (Blk (w8.alloc (.cells #[.int .i64 ref] 3)) w8.heap.size 3 [.int .i64 ref]) := Lib.hid (Blk.new w8 _ _); clear ho' hg' hat')
                          | (refine wpList_append_at rfl (.tmp 103) (.tmp 105) 47 rfl wr.heap.size 3 i2 (.int .i64 0) 1 8 Try.underlying47 HI2.out.1 HI2.out.2.1 HI2.out.2.2.1 HI2.out.2.2.2 (by rfl) (by omega) (.slice R1 k t1) k (ic2 S.refs) rfl (World.ownsRow.alloc HR8.out _) ⟨w8.heap.size, 0, none⟩ 1 1 [.int .i64 ref] rfl rfl (fun j u hu => by rw [Addr.add_lit, HBK8.out.cell, Nat.zero_add]; exact hu) (by simp [Value.oneCell']) (by simp only [maxLen]; omega) (by omega) (by have := HX8.out.size; simp; omega) ?_; intro v' w9 ho' hg' hat'; (obtain ⟨R2, t2, rfl, _⟩ := raw_of_own ho'); have HR9 := Lib.hid ho'; have HX9 : Hid (Only (wr.heap.size ≤ ·) wr w9) := Lib.hid (HX8.out.trans ((grow_only hg').mono fun j hj => hj.elim (fun e => (World.ownsRow.lt HR8.out j e).1) fun h => Nat.le_trans HX8.out.size h)); replace HB9 := Lib.hid (HB9.out.later HX9.out); replace HB10 := Lib.hid (HB10.out.later HX9.out); replace HB11 := Lib.hid (HB11.out.later HX9.out); replace HB12 := Lib.hid (HB12.out.later HX9.out); replace Hb13 := Lib.hid (Hb13.out.later HX9.out); replace HAI := Lib.hid (HAI.out.later HX9.out); replace HO := Lib.hid (on_new HO.out HX9.out); (obtain ⟨y0, y1, y2, y3⟩ := HB11.out.cell4); have y4 := HB11.out.frozen 1; clear ho' hg' hat'))
                        clear a0 a1 a2 a3 c0 c1 c2 c3 d0 d1 d2 d3 f0 f1 f2 f3 q0 q1 q2 g1 y0 y1 y2 y3 y4 HRC HRA HAL hp0'
                        obtain ⟨w10, hw10⟩ : ∃ z9, z9 = w9.setCell ⟨b11, 1, none⟩ (.slice R2 (k + 1) t2) := ⟨_, rfl⟩
                        have HS10 : Hid (Only (· = b11) w9 w10) := Lib.hid (by rw [hw10]; exact (Only.refl (· = b11) w9).setCell (p := ⟨b11, 1, none⟩) rfl _)
                        have HR10 := Lib.hid (own_on HR9.out HS10.out (fun j hj e => own_ne HR9.out HB11.out (by decide) (e ▸ hj)))
                        obtain ⟨CI, hI9, hID⟩ := HAI.out.i
                        have HI10 := Lib.hid (own_on hI9 HS10.out (fun j hj e => own_ne hI9 HB11.out (by decide) (e ▸ hj)))
                        have HID := Lib.hid hID
                        clear hI9 hID HAI
                        have HE13 : Hid (b13 ≠ b11) := Lib.hid (Blk.ne Hb13.out HB11.out (by decide))
                        replace HB9 := Lib.hid (HB9.out.only HS10.out (fun e => HNE.out.2.2.2.2.2.1 e))
                        replace HB10 := Lib.hid (HB10.out.only HS10.out (fun e => HNE.out.2.2.2.2.2.2 e))
                        replace HB12 := Lib.hid (HB12.out.only HS10.out (fun e => HNE.out.2.2.1 (Eq.symm e)))
                        replace Hb13 := Lib.hid (Hb13.out.only HS10.out (fun e => HE13.out e))
                        have HB11' : Hid (Blk w10 b11 53 [.slice IA ni ic, .slice R2 (k + 1) t2, .int .i64 (dep : Int), .int .i64 0]) := Lib.hid (by rw [hw10]; exact HB11.out.set_ 1 _)
                        clear HB11
                        have HB11 := HB11'
                        clear HB11'
                        replace HO := Lib.hid (HO.out.trans (HS10.out.mono fun j hj => by rw [show j = b11 from hj]; exact HNE.out.2.1))
                        have H10 : Hid (Only (w0.heap.size ≤ ·) w0 w10) := Lib.hid (on_new H0.out HO.out)
                        rw [← hw10]
                        clear hw10
                        obtain ⟨q0, q1, q2⟩ := Hb13.out.tri
                        go_upto_region 22 with (fail)
                        obtain ⟨hie, hIA, hIl, hIc⟩ := own_src HI10.out
                        have HIE := Lib.hid hie
                        have HIA := Lib.hid (And.intro hIA hIl)
                        obtain ⟨P', pc', C2, e, hd2, hr2, hP, hpc, hpm⟩ := HND.out.2.1
                        simp only [Value.slice.injEq] at e
                        obtain ⟨e1, e2, e3⟩ := e
                        clear e2
                        subst e1 e3
                        have HPA : Hid ((P = none → p = 0 ∧ pc = 0) ∧ C2.length = p * 4) := Lib.hid ⟨fun e => ⟨by have h1 := hP e; have h2 := HPL.out.1; omega, hP e⟩, by rw [HPL.out.1]; exact Den.length (fun _ _ => itE.len) hd2⟩
                        have HPC : Hid (∀ ad, P = some ad → ∀ j u, C2[j]? = some u → w0.cell? (ad.add j) = some u) := Lib.hid hr2.src
                        have HD2 := Lib.hid hd2
                        clear hd2 hr2 hP hpc hpm hIA hIl hie
                        have HDX : Hid (Only (w10.heap.size ≤ ·) w10 w10.drew) := Lib.hid ((Only.refl _ w10).drew)
                        replace HB11 := Lib.hid (HB11.out.later HDX.out)
                        replace HB12 := Lib.hid (HB12.out.later HDX.out)
                        replace HI10 := Lib.hid (own_later HI10.out HDX.out)
                        replace HR10 := Lib.hid (own_later HR10.out HDX.out)
                        replace HO := Lib.hid (on_new HO.out HDX.out)
                        have HWX := Lib.hid (on_new H10.out HDX.out)
                        have HIC : Hid (∀ ad, IA = some ad → ∀ j u, CI[j]? = some u → w10.drew.cell? (ad.add j) = some u) := Lib.hid (fun ad e j u hu => cell_later (hIc ad e j u hu) HDX.out)
                        have HAX : Hid (Only (w10.drew.heap.size ≤ ·) w10.drew (w10.drew.alloc (.cells #[] 59))) := Lib.hid ((Only.refl _ _).alloc (fun _ h => h) _)
                        clear hIc q0 q2
                        replace q1 := cell_later q1 HDX.out
                        have y0 : w10.drew.cell? ⟨b11, 0, none⟩ = some (.slice IA ni ic) := HB11.out.cell 0
                        have s1 := cell_later q1 HAX.out
                        have u0 := cell_later y0 HAX.out
                        refine wp_region_list (B := [false, false, false, false, false, false, false, false, false]) (S := (fun W : World => W.cell? ⟨b13, 1, none⟩ = some (.slice P p pc))) (by kernel_rfl) (by kernel_rfl) (by kernel_rfl) q1 (fun hsel hHeld => ?_)
                        generalize hwz : World.drew _ = wx at HDX y0 HB11 HB12 HI10 HR10 HO HWX HIC HAX q1 s1 u0 hHeld ⊢
                        clear hwz
                        refine oneA 1 111 hsel (h := ?_)
                        simp only [Act.put, List.setIfInBounds_toArray, List.set_cons_zero, List.set_cons_succ]
                        refine oneA 4 114 hsel (h := ?_)
                        simp only [Act.put, List.setIfInBounds_toArray, List.set_cons_zero, List.set_cons_succ]
                        refine oneA 5 115 hsel (h := ?_)
                        simp only [Act.put, List.setIfInBounds_toArray, List.set_cons_zero, List.set_cons_succ]
                        refine wpAnyL_ready (rs := [0, 2]) (by kernel_rfl) (by kernel_rfl) (by simp) ?_
                        refine AllReadyL.cons (o := ?_) ?_ (fun K hK => ?_) (AllReadyL.cons (o := ?_) ?_ (fun K hK => ?_) AllReadyL.nil)
                        case refine_2 => (simp only [List.getElem?_cons_zero]; rfl)
                        case refine_5 => (simp only [List.getElem?_cons_succ, List.getElem?_cons_zero]; rfl)
                        case refine_3 =>
                          go_simp
                          clear hHeld
                          refine hK.out _ _ s1 (fun hHeld => ?_)
                          clear hK K
                          try simp only [List.set_cons_zero]
                          refine wpAnyL_ready (rs := [2]) (by kernel_rfl) (by kernel_rfl) (by simp) ?_
                          refine AllReadyL.cons (o := ?_) ?_ (fun K hK => ?_) AllReadyL.nil
                          case refine_2 => (simp only [List.getElem?_cons_succ, List.getElem?_cons_zero]; rfl)
                          go_simp
                          clear hHeld
                          refine hK.out _ _ (by first | exact q1 | exact s1) (fun hHeld => ?_)
                          clear hK K
                          try simp only [List.set_cons_zero, List.set_cons_succ]
                          refine wpAnyL_ready (rs := [3]) (by kernel_rfl) (by kernel_rfl) (by simp) ?_
                          refine AllReadyL.cons (o := ?_) ?_ (fun K hK => ?_) AllReadyL.nil
                          case refine_2 => (simp only [List.getElem?_cons_succ, List.getElem?_cons_zero]; rfl)
                          rw [if_pos (by kernel_rfl)]
                          refine wp_append_row (.tmp 110) (.tmp 112) 26 rfl wx.heap.size 59 i1 zI 4 64 Try.underlying26 HI1.out.1 HI1.out.2.1 HI1.out.2.2.1 HI1.out.2.2.2 (by rfl) (by omega) (.slice (some ⟨wx.heap.size, 0, none⟩) 0 0) 0 [] rfl (own_none wx 59 4) IA ni ic CI rfl HIA.out.1 HIA.out.2 (fun ad e j u hu => cell_later (HIC.out ad e j u hu) HAX.out) (Den.one (fun _ _ => itE.one) HID.out) (by simp only [maxLen]; omega) (by omega) (by simp) ?_
                          intro v' w11 ho' hg' hat'
                          rw [Nat.zero_add, List.nil_append] at ho'
                          obtain ⟨R3, t3, rfl, _⟩ := raw_of_own ho'
                          have HR11 := Lib.hid ho'
                          have HX11 : Hid (Only (wx.heap.size ≤ ·) wx w11) := Lib.hid ((grow_only hg').mono fun j hj => hj.elim (fun e => Nat.le_of_eq (Option.some.inj e)) fun h => h)
                          have s3 := cell_later q1 HX11.out
                          clear ho' hg' hat'
                          clear hHeld
                          refine hK.out _ _ s3 (fun hHeld => ?_)
                          clear hK K
                          try simp only [Act.put, List.setIfInBounds_toArray, List.set_cons_zero, List.set_cons_succ]
                          refine wpAnyL_ready (rs := [6]) (by kernel_rfl) (by kernel_rfl) (by simp) ?_
                          refine AllReadyL.cons (o := ?_) ?_ (fun K hK => ?_) AllReadyL.nil
                          case refine_2 => (simp only [List.getElem?_cons_succ, List.getElem?_cons_zero]; rfl)
                          rw [if_pos (by kernel_rfl)]
                          refine wp_append_row (.tmp 113) (.tmp 115) 26 rfl wx.heap.size 59 i1 zI 4 64 Try.underlying26 HI1.out.1 HI1.out.2.1 HI1.out.2.2.1 HI1.out.2.2.2 (by rfl) (by omega) (.slice R3 ni t3) ni CI rfl HR11.out P p pc C2 rfl HPA.out.1 HPA.out.2 (fun ad e j u hu => cell_later (HPC.out ad e j u hu) (on_new HWX.out HX11.out)) (Den.one (fun _ _ => itE.one) HD2.out) (by simp only [maxLen]; omega) (by omega) (by exact HX11.out.size) ?_
                          intro v' w12 ho' hg' hat'
                          obtain ⟨R4, t4, rfl, _⟩ := raw_of_own ho'
                          have HR12 := Lib.hid ho'
                          have HX12 : Hid (Only (wx.heap.size ≤ ·) wx w12) := Lib.hid (HX11.out.trans (((Only.refl (fun j => (Value.slice R3 ni t3).ownBlock = some j ∨ w11.heap.size ≤ j) w11).grown hg' (fun _ h => .inr h) (fun g e => .inl e)).mono fun j hj => hj.elim (fun e => (World.ownsRow.lt HR11.out j e).1) fun h => Nat.le_trans HX11.out.size h))
                          have HB11y := Lib.hid (HB11.out.later HX12.out)
                          obtain ⟨z0, z1, z2, z3⟩ := HB11y.out.cell4
                          have z4 := HB11y.out.frozen 0
                          have s6 := cell_later q1 HX12.out
                          have s8 : (w12.setCell ⟨b11, 0, none⟩ (.slice R4 (ni + p) t4)).cell? ⟨b13, 1, none⟩ = some (.slice P p pc) := (((Only.refl (· = b11) w12).setCell (p := ⟨b11, 0, none⟩) rfl _).cell (p := ⟨b13, 1, none⟩) (fun e => HE13.out e)).trans s6
                          clear ho' hg' hat'
                          clear hHeld
                          refine hK.out _ _ s6 (fun hHeld => ?_)
                          clear hK K
                          try simp only [Act.put, List.setIfInBounds_toArray, List.set_cons_zero, List.set_cons_succ]
                          refine oneA 7 117 hsel (h := ?_)
                          simp only [Act.put, List.setIfInBounds_toArray, List.set_cons_zero, List.set_cons_succ]
                          refine wpAnyL_ready (rs := [8]) (by kernel_rfl) (by kernel_rfl) (by simp) ?_
                          refine AllReadyL.cons (o := ?_) ?_ (fun K hK => ?_) AllReadyL.nil
                          case refine_2 => (simp only [List.getElem?_cons_succ, List.getElem?_cons_zero]; rfl)
                          go_simp
                          clear hHeld
                          refine hK.out _ _ s8 (fun hHeld => ?_)
                          clear hK K
                          try simp only [List.set_cons_zero, List.set_cons_succ]
                          refine wpAnyL_done (by kernel_rfl) (by kernel_rfl) ?_ _
                          clear hsel hHeld
                          clear z0 z1 z2 z3 z4 s3 s6 s8 q1 s1 u0
                          obtain ⟨w13, hw13⟩ : ∃ z9, z9 = w12.setCell ⟨b11, 0, none⟩ (.slice R4 (ni + p) t4) := ⟨_, rfl⟩
                          have HS13 : Hid (Only (· = b11) w12 w13) := Lib.hid (by rw [hw13]; exact (Only.refl (· = b11) w12).setCell (p := ⟨b11, 0, none⟩) rfl _)
                          have HB13y : Hid (Blk w13 b11 53 [.slice R4 (ni + p) t4, .slice R2 (k + 1) t2, .int .i64 (dep : Int), .int .i64 0]) := Lib.hid (by rw [hw13]; exact HB11y.out.set_ 0 _)
                          rw [← hw13]
                          clear hw13
                          obtain ⟨z0, z1, z2, z3⟩ := HB13y.out.cell4
                          have z4 := HB13y.out.frozen 2
                          go_upto_region 24 with (fail)
                          clear z0 z1 z2 z3 z4
                          obtain ⟨w14, hw14⟩ : ∃ z9, z9 = w13.setCell ⟨b11, 2, none⟩ (.int .i64 (dep : Int)) := ⟨_, rfl⟩
                          have HS14 : Hid (Only (· = b11) w12 w14) := Lib.hid (by rw [hw14]; exact HS13.out.setCell (p := ⟨b11, 2, none⟩) rfl _)
                          have HB14y : Hid (Blk w14 b11 53 [.slice R4 (ni + p) t4, .slice R2 (k + 1) t2, .int .i64 (dep : Int), .int .i64 0]) := Lib.hid (by rw [hw14]; exact HB13y.out.set_ 2 _)
                          rw [← hw14]
                          clear hw14
                          replace HB12 := Lib.hid ((HB12.out.later HX12.out).only HS14.out (fun e => HNE.out.2.2.1 (Eq.symm e)))
                          have HR14 := Lib.hid (own_on HR12.out HS14.out (fun j hj e => own_ne HR12.out HB11y.out (by decide) (e ▸ hj)))
                          have HQ14 := Lib.hid (own_on (own_later HR10.out HX12.out) HS14.out (fun j hj e => own_ne (own_later HR10.out HX12.out) HB11y.out (by decide) (e ▸ hj)))
                          have HO14 : Hid (Only (w.heap.size ≤ ·) w w14) := Lib.hid ((on_new HO.out HX12.out).trans (HS14.out.mono fun j hj => by rw [show j = b11 from hj]; exact HNE.out.2.1))
                          obtain ⟨c0, c1, c2, c3⟩ := HB14y.out.cell4
                          obtain ⟨d0, d1, d2, d3⟩ := HB12.out.cell4
                          obtain ⟨f0, f1, f2, f3⟩ := HB12.out.melt4
                          have HVP : Hid (visitP l (f + 1) ref (lo.getD [], hi) S = (0, ⟨S.its ++ x.its, S.refs ++ [ref], dep⟩)) := Lib.hid (by
                            rw [HVG.out, HDD.out, show x.kds.length = 0 by rw [← HPL.out.2]; omega]
                            rfl)
                          have HAF : Hid (AInv w0 w14 l ⟨S.its ++ x.its, S.refs ++ [ref], dep⟩ (.slice R4 (ni + p) t4) (.slice R2 (k + 1) t2)) := Lib.hid ⟨⟨CI ++ C2, own_cast (own_le HR14.out (by have h1 := HWX.out.size; exact h1)) (by rw [List.length_append, ← HPL.out.1, ← HIE.out]), Den.append HID.out HD2.out⟩, own_cast (by have h0 := own_le HQ14.out (B' := w0.heap.size) (by have h1 := H0.out.size; have h2 := HWR.out; omega); unfold ic2 at h0 ⊢; rw [List.map_append]; exact h0) (by rw [List.length_append, ← HRE.out]; rfl)⟩
                          go_wp2_with (fail)
                          have HF1 : Hid (Blk ((((w14.setCell ⟨b12, 0, none⟩ (.slice R4 (ni + p) t4)).setCell ⟨b12, 1, none⟩ (.slice R2 (k + 1) t2)).setCell ⟨b12, 2, none⟩ (.int .i64 (dep : Int))).setCell ⟨b12, 3, none⟩ (.int .i64 0)) b12 53 [(.slice R4 (ni + p) t4), (.slice R2 (k + 1) t2), (.int .i64 (dep : Int)), (.int .i64 0)]) := Lib.hid ((((HB12.out.set_ 0 _).set_ 1 _).set_ 2 _).set_ 3 _)
                          have HF2 : Hid (Only (· = b12) w14 ((((w14.setCell ⟨b12, 0, none⟩ (.slice R4 (ni + p) t4)).setCell ⟨b12, 1, none⟩ (.slice R2 (k + 1) t2)).setCell ⟨b12, 2, none⟩ (.int .i64 (dep : Int))).setCell ⟨b12, 3, none⟩ (.int .i64 0))) := Lib.hid (((((Only.refl (· = b12) w14).setCell (p := ⟨b12, 0, none⟩) rfl _).setCell (p := ⟨b12, 1, none⟩) rfl _).setCell (p := ⟨b12, 2, none⟩) rfl _).setCell (p := ⟨b12, 3, none⟩) rfl _)
                          refine bodyPost_ret (v := .agg #[(.slice R4 (ni + p) t4), (.slice R2 (k + 1) t2), (.int .i64 (dep : Int)), (.int .i64 0)]) (results_cell1 rfl rfl (load_rwhole rfl rfl HF1.out)) rfl ?_
                          rw [HVP.out]
                          exact ⟨⟨_, _, rfl, (AInv.other HAF.out HB12.out (by decide) (by decide) HF2.out)⟩, HO14.out.trans (HF2.out.mono fun j hj => by rw [show j = b12 from hj]; exact HNE.out.1)⟩
                        case refine_6 =>
                          go_simp
                          clear hHeld
                          refine hK.out _ _ (by first | exact q1 | exact s1) (fun hHeld => ?_)
                          clear hK K
                          try simp only [List.set_cons_zero, List.set_cons_succ]
                          refine wpAnyL_ready (rs := [0]) (by kernel_rfl) (by kernel_rfl) (by simp) ?_
                          refine AllReadyL.cons (o := ?_) ?_ (fun K hK => ?_) AllReadyL.nil
                          case refine_2 => (simp only [List.getElem?_cons_zero]; rfl)
                          go_simp
                          clear hHeld
                          refine hK.out _ _ s1 (fun hHeld => ?_)
                          clear hK K
                          try simp only [List.set_cons_zero]
                          refine wpAnyL_ready (rs := [3]) (by kernel_rfl) (by kernel_rfl) (by simp) ?_
                          refine AllReadyL.cons (o := ?_) ?_ (fun K hK => ?_) AllReadyL.nil
                          case refine_2 => (simp only [List.getElem?_cons_succ, List.getElem?_cons_zero]; rfl)
                          rw [if_pos (by kernel_rfl)]
                          refine wp_append_row (.tmp 110) (.tmp 112) 26 rfl wx.heap.size 59 i1 zI 4 64 Try.underlying26 HI1.out.1 HI1.out.2.1 HI1.out.2.2.1 HI1.out.2.2.2 (by rfl) (by omega) (.slice (some ⟨wx.heap.size, 0, none⟩) 0 0) 0 [] rfl (own_none wx 59 4) IA ni ic CI rfl HIA.out.1 HIA.out.2 (fun ad e j u hu => cell_later (HIC.out ad e j u hu) HAX.out) (Den.one (fun _ _ => itE.one) HID.out) (by simp only [maxLen]; omega) (by omega) (by simp) ?_
                          intro v' w11 ho' hg' hat'
                          rw [Nat.zero_add, List.nil_append] at ho'
                          obtain ⟨R3, t3, rfl, _⟩ := raw_of_own ho'
                          have HR11 := Lib.hid ho'
                          have HX11 : Hid (Only (wx.heap.size ≤ ·) wx w11) := Lib.hid ((grow_only hg').mono fun j hj => hj.elim (fun e => Nat.le_of_eq (Option.some.inj e)) fun h => h)
                          have s3 := cell_later q1 HX11.out
                          clear ho' hg' hat'
                          clear hHeld
                          refine hK.out _ _ s3 (fun hHeld => ?_)
                          clear hK K
                          try simp only [Act.put, List.setIfInBounds_toArray, List.set_cons_zero, List.set_cons_succ]
                          refine wpAnyL_ready (rs := [6]) (by kernel_rfl) (by kernel_rfl) (by simp) ?_
                          refine AllReadyL.cons (o := ?_) ?_ (fun K hK => ?_) AllReadyL.nil
                          case refine_2 => (simp only [List.getElem?_cons_succ, List.getElem?_cons_zero]; rfl)
                          rw [if_pos (by kernel_rfl)]
                          refine wp_append_row (.tmp 113) (.tmp 115) 26 rfl wx.heap.size 59 i1 zI 4 64 Try.underlying26 HI1.out.1 HI1.out.2.1 HI1.out.2.2.1 HI1.out.2.2.2 (by rfl) (by omega) (.slice R3 ni t3) ni CI rfl HR11.out P p pc C2 rfl HPA.out.1 HPA.out.2 (fun ad e j u hu => cell_later (HPC.out ad e j u hu) (on_new HWX.out HX11.out)) (Den.one (fun _ _ => itE.one) HD2.out) (by simp only [maxLen]; omega) (by omega) (by exact HX11.out.size) ?_
                          intro v' w12 ho' hg' hat'
                          obtain ⟨R4, t4, rfl, _⟩ := raw_of_own ho'
                          have HR12 := Lib.hid ho'
                          have HX12 : Hid (Only (wx.heap.size ≤ ·) wx w12) := Lib.hid (HX11.out.trans (((Only.refl (fun j => (Value.slice R3 ni t3).ownBlock = some j ∨ w11.heap.size ≤ j) w11).grown hg' (fun _ h => .inr h) (fun g e => .inl e)).mono fun j hj => hj.elim (fun e => (World.ownsRow.lt HR11.out j e).1) fun h => Nat.le_trans HX11.out.size h))
                          have HB11y := Lib.hid (HB11.out.later HX12.out)
                          obtain ⟨z0, z1, z2, z3⟩ := HB11y.out.cell4
                          have z4 := HB11y.out.frozen 0
                          have s6 := cell_later q1 HX12.out
                          have s8 : (w12.setCell ⟨b11, 0, none⟩ (.slice R4 (ni + p) t4)).cell? ⟨b13, 1, none⟩ = some (.slice P p pc) := (((Only.refl (· = b11) w12).setCell (p := ⟨b11, 0, none⟩) rfl _).cell (p := ⟨b13, 1, none⟩) (fun e => HE13.out e)).trans s6
                          clear ho' hg' hat'
                          clear hHeld
                          refine hK.out _ _ s6 (fun hHeld => ?_)
                          clear hK K
                          try simp only [Act.put, List.setIfInBounds_toArray, List.set_cons_zero, List.set_cons_succ]
                          refine oneA 7 117 hsel (h := ?_)
                          simp only [Act.put, List.setIfInBounds_toArray, List.set_cons_zero, List.set_cons_succ]
                          refine wpAnyL_ready (rs := [8]) (by kernel_rfl) (by kernel_rfl) (by simp) ?_
                          refine AllReadyL.cons (o := ?_) ?_ (fun K hK => ?_) AllReadyL.nil
                          case refine_2 => (simp only [List.getElem?_cons_succ, List.getElem?_cons_zero]; rfl)
                          go_simp
                          clear hHeld
                          refine hK.out _ _ s8 (fun hHeld => ?_)
                          clear hK K
                          try simp only [List.set_cons_zero, List.set_cons_succ]
                          refine wpAnyL_done (by kernel_rfl) (by kernel_rfl) ?_ _
                          clear hsel hHeld
                          clear z0 z1 z2 z3 z4 s3 s6 s8 q1 s1 u0
                          obtain ⟨w13, hw13⟩ : ∃ z9, z9 = w12.setCell ⟨b11, 0, none⟩ (.slice R4 (ni + p) t4) := ⟨_, rfl⟩
                          have HS13 : Hid (Only (· = b11) w12 w13) := Lib.hid (by rw [hw13]; exact (Only.refl (· = b11) w12).setCell (p := ⟨b11, 0, none⟩) rfl _)
                          have HB13y : Hid (Blk w13 b11 53 [.slice R4 (ni + p) t4, .slice R2 (k + 1) t2, .int .i64 (dep : Int), .int .i64 0]) := Lib.hid (by rw [hw13]; exact HB11y.out.set_ 0 _)
                          rw [← hw13]
                          clear hw13
                          obtain ⟨z0, z1, z2, z3⟩ := HB13y.out.cell4
                          have z4 := HB13y.out.frozen 2
                          go_upto_region 24 with (fail)
                          clear z0 z1 z2 z3 z4
                          obtain ⟨w14, hw14⟩ : ∃ z9, z9 = w13.setCell ⟨b11, 2, none⟩ (.int .i64 (dep : Int)) := ⟨_, rfl⟩
                          have HS14 : Hid (Only (· = b11) w12 w14) := Lib.hid (by rw [hw14]; exact HS13.out.setCell (p := ⟨b11, 2, none⟩) rfl _)
                          have HB14y : Hid (Blk w14 b11 53 [.slice R4 (ni + p) t4, .slice R2 (k + 1) t2, .int .i64 (dep : Int), .int .i64 0]) := Lib.hid (by rw [hw14]; exact HB13y.out.set_ 2 _)
                          rw [← hw14]
                          clear hw14
                          replace HB12 := Lib.hid ((HB12.out.later HX12.out).only HS14.out (fun e => HNE.out.2.2.1 (Eq.symm e)))
                          have HR14 := Lib.hid (own_on HR12.out HS14.out (fun j hj e => own_ne HR12.out HB11y.out (by decide) (e ▸ hj)))
                          have HQ14 := Lib.hid (own_on (own_later HR10.out HX12.out) HS14.out (fun j hj e => own_ne (own_later HR10.out HX12.out) HB11y.out (by decide) (e ▸ hj)))
                          have HO14 : Hid (Only (w.heap.size ≤ ·) w w14) := Lib.hid ((on_new HO.out HX12.out).trans (HS14.out.mono fun j hj => by rw [show j = b11 from hj]; exact HNE.out.2.1))
                          obtain ⟨c0, c1, c2, c3⟩ := HB14y.out.cell4
                          obtain ⟨d0, d1, d2, d3⟩ := HB12.out.cell4
                          obtain ⟨f0, f1, f2, f3⟩ := HB12.out.melt4
                          have HVP : Hid (visitP l (f + 1) ref (lo.getD [], hi) S = (0, ⟨S.its ++ x.its, S.refs ++ [ref], dep⟩)) := Lib.hid (by
                            rw [HVG.out, HDD.out, show x.kds.length = 0 by rw [← HPL.out.2]; omega]
                            rfl)
                          have HAF : Hid (AInv w0 w14 l ⟨S.its ++ x.its, S.refs ++ [ref], dep⟩ (.slice R4 (ni + p) t4) (.slice R2 (k + 1) t2)) := Lib.hid ⟨⟨CI ++ C2, own_cast (own_le HR14.out (by have h1 := HWX.out.size; exact h1)) (by rw [List.length_append, ← HPL.out.1, ← HIE.out]), Den.append HID.out HD2.out⟩, own_cast (by have h0 := own_le HQ14.out (B' := w0.heap.size) (by have h1 := H0.out.size; have h2 := HWR.out; omega); unfold ic2 at h0 ⊢; rw [List.map_append]; exact h0) (by rw [List.length_append, ← HRE.out]; rfl)⟩
                          go_wp2_with (fail)
                          have HF1 : Hid (Blk ((((w14.setCell ⟨b12, 0, none⟩ (.slice R4 (ni + p) t4)).setCell ⟨b12, 1, none⟩ (.slice R2 (k + 1) t2)).setCell ⟨b12, 2, none⟩ (.int .i64 (dep : Int))).setCell ⟨b12, 3, none⟩ (.int .i64 0)) b12 53 [(.slice R4 (ni + p) t4), (.slice R2 (k + 1) t2), (.int .i64 (dep : Int)), (.int .i64 0)]) := Lib.hid ((((HB12.out.set_ 0 _).set_ 1 _).set_ 2 _).set_ 3 _)
                          have HF2 : Hid (Only (· = b12) w14 ((((w14.setCell ⟨b12, 0, none⟩ (.slice R4 (ni + p) t4)).setCell ⟨b12, 1, none⟩ (.slice R2 (k + 1) t2)).setCell ⟨b12, 2, none⟩ (.int .i64 (dep : Int))).setCell ⟨b12, 3, none⟩ (.int .i64 0))) := Lib.hid (((((Only.refl (· = b12) w14).setCell (p := ⟨b12, 0, none⟩) rfl _).setCell (p := ⟨b12, 1, none⟩) rfl _).setCell (p := ⟨b12, 2, none⟩) rfl _).setCell (p := ⟨b12, 3, none⟩) rfl _)
                          refine bodyPost_ret (v := .agg #[(.slice R4 (ni + p) t4), (.slice R2 (k + 1) t2), (.int .i64 (dep : Int)), (.int .i64 0)]) (results_cell1 rfl rfl (load_rwhole rfl rfl HF1.out)) rfl ?_
                          rw [HVP.out]
                          exact ⟨⟨_, _, rfl, (AInv.other HAF.out HB12.out (by decide) (by decide) HF2.out)⟩, HO14.out.trans (HF2.out.mono fun j hj => by rw [show j = b12 from hj]; exact HNE.out.1)⟩
                    · have hdd' : ¬ (dep : Int) = (deep : Int) := by omega
                      have HVP : Hid (visitP l (f + 1) ref (lo.getD [], hi) S = (131, S)) := Lib.hid (visit_bad HNO.out (by rw [HBE2.out]; simp [hde, hdd]))
                      clear hdd hde
                      go_wp2_with (fail)
                      have HF1 : Hid (Blk ((((wr.setCell ⟨b12, 0, none⟩ (.slice none 0 0)).setCell ⟨b12, 1, none⟩ (.slice none 0 0)).setCell ⟨b12, 2, none⟩ (.int .i64 0)).setCell ⟨b12, 3, none⟩ (.int .i64 131)) b12 53 [(.slice none 0 0), (.slice none 0 0), (.int .i64 0), (.int .i64 131)]) := Lib.hid ((((HB12.out.set_ 0 _).set_ 1 _).set_ 2 _).set_ 3 _)
                      have HF2 : Hid (Only (· = b12) wr ((((wr.setCell ⟨b12, 0, none⟩ (.slice none 0 0)).setCell ⟨b12, 1, none⟩ (.slice none 0 0)).setCell ⟨b12, 2, none⟩ (.int .i64 0)).setCell ⟨b12, 3, none⟩ (.int .i64 131))) := Lib.hid (((((Only.refl (· = b12) wr).setCell (p := ⟨b12, 0, none⟩) rfl _).setCell (p := ⟨b12, 1, none⟩) rfl _).setCell (p := ⟨b12, 2, none⟩) rfl _).setCell (p := ⟨b12, 3, none⟩) rfl _)
                      refine bodyPost_ret (v := .agg #[(.slice none 0 0), (.slice none 0 0), (.int .i64 0), (.int .i64 131)]) (results_cell1 rfl rfl (load_rwhole rfl rfl HF1.out)) rfl ?_
                      rw [HVP.out]
                      exact ⟨⟨_, _, rfl, ⟨⟨[], World.ownsRow_nil _ _ _ _, rfl⟩, World.ownsRow_nil _ _ _ _⟩⟩, HO.out.trans (HF2.out.mono fun j hj => by rw [show j = b12 from hj]; exact HNE.out.1)⟩
                  · have hde' : ¬ (0 : Int) < (dep : Int) := by omega
                    have HGD : Hid (badB x (12 - f) ref (lo.getD [], hi) S = b) := Lib.hid (by rw [HBE2.out]; simp [hde])
                    have HDD : Hid (depP x (12 - f) S.dep = deep) := Lib.hid (by unfold depP; rw [← HDP.out, ← HDF.out.1, if_pos ⟨HXL.out, by omega⟩])
                    clear hde
                    cases b with
                    | true =>
                      have HVP : Hid (visitP l (f + 1) ref (lo.getD [], hi) S = (131, S)) := Lib.hid (visit_bad HNO.out HGD.out)
                      go_wp2_with (fail)
                      have HF1 : Hid (Blk ((((wr.setCell ⟨b12, 0, none⟩ (.slice none 0 0)).setCell ⟨b12, 1, none⟩ (.slice none 0 0)).setCell ⟨b12, 2, none⟩ (.int .i64 0)).setCell ⟨b12, 3, none⟩ (.int .i64 131)) b12 53 [(.slice none 0 0), (.slice none 0 0), (.int .i64 0), (.int .i64 131)]) := Lib.hid ((((HB12.out.set_ 0 _).set_ 1 _).set_ 2 _).set_ 3 _)
                      have HF2 : Hid (Only (· = b12) wr ((((wr.setCell ⟨b12, 0, none⟩ (.slice none 0 0)).setCell ⟨b12, 1, none⟩ (.slice none 0 0)).setCell ⟨b12, 2, none⟩ (.int .i64 0)).setCell ⟨b12, 3, none⟩ (.int .i64 131))) := Lib.hid (((((Only.refl (· = b12) wr).setCell (p := ⟨b12, 0, none⟩) rfl _).setCell (p := ⟨b12, 1, none⟩) rfl _).setCell (p := ⟨b12, 2, none⟩) rfl _).setCell (p := ⟨b12, 3, none⟩) rfl _)
                      refine bodyPost_ret (v := .agg #[(.slice none 0 0), (.slice none 0 0), (.int .i64 0), (.int .i64 131)]) (results_cell1 rfl rfl (load_rwhole rfl rfl HF1.out)) rfl ?_
                      rw [HVP.out]
                      exact ⟨⟨_, _, rfl, ⟨⟨[], World.ownsRow_nil _ _ _ _, rfl⟩, World.ownsRow_nil _ _ _ _⟩⟩, HO.out.trans (HF2.out.mono fun j hj => by rw [show j = b12 from hj]; exact HNE.out.1)⟩
                    | false =>
                      have HVG := Lib.hid (visit_good HNO.out HGD.out)
                      clear HBE HBE2 HGD HWB
                      have HWR : Hid (w.heap.size ≤ wr.heap.size) := Lib.hid HO.out.size
                      have hkb := HNRB.out.1
                      have hib := HNRB.out.2
                      have HAL : Hid (Only (wr.heap.size ≤ ·) wr (wr.alloc (.cells #[] 3))) := Lib.hid ((Only.refl _ wr).alloc (fun _ h => h) _)
                      have g1 := cell_later c1 HAL.out
                      go_upto_region 21 with (at_builtin; first
                        | (refine wpList_append_row rfl (.tmp 100) (.tmp 102) 47 rfl wr.heap.size 3 i2 (.int .i64 0) 1 8 Try.underlying47 HI2.out.1 HI2.out.2.1 HI2.out.2.2.1 HI2.out.2.2.2 (by rfl) (by omega) (.slice (some ⟨wr.heap.size, 0, none⟩) 0 0) 0 [] rfl (own_none wr 3 1) RA k rc (ic2 S.refs) rfl HRA.out.1 HRA.out.2 (fun ad e j u hu => cell_later (HRC.out ad e j u hu) HAL.out) (ic2_one _) (by simp only [maxLen]; omega) (by omega) (by simp) ?_; intro v' w8 ho' hg' hat'; rw [Nat.zero_add, List.nil_append] at ho'; (obtain ⟨R1, t1, rfl, _⟩ := raw_of_own ho'); have HR8 := Lib.hid ho'; have HX8 : Hid (Only (wr.heap.size ≤ ·) wr w8) := Lib.hid ((grow_only hg').mono fun j hj => hj.elim (fun e => Nat.le_of_eq (Option.some.inj e)) fun h => h); have HBK8 : Hid (Blk (w8.alloc (.cells #[.int .i64 ref] 3)) w8.heap.size 3 [.int .i64 ref]) := Lib.hid (Blk.new w8 _ _); clear ho' hg' hat')
                        | (refine wpList_append_at rfl (.tmp 103) (.tmp 105) 47 rfl wr.heap.size 3 i2 (.int .i64 0) 1 8 Try.underlying47 HI2.out.1 HI2.out.2.1 HI2.out.2.2.1 HI2.out.2.2.2 (by rfl) (by omega) (.slice R1 k t1) k (ic2 S.refs) rfl (World.ownsRow.alloc HR8.out _) ⟨w8.heap.size, 0, none⟩ 1 1 [.int .i64 ref] rfl rfl (fun j u hu => by rw [Addr.add_lit, HBK8.out.cell, Nat.zero_add]; exact hu) (by simp [Value.oneCell']) (by simp only [maxLen]; omega) (by omega) (by have := HX8.out.size; simp; omega) ?_; intro v' w9 ho' hg' hat'; (obtain ⟨R2, t2, rfl, _⟩ := raw_of_own ho'); have HR9 := Lib.hid ho'; have HX9 : Hid (Only (wr.heap.size ≤ ·) wr w9) := Lib.hid (HX8.out.trans ((grow_only hg').mono fun j hj => hj.elim (fun e => (World.ownsRow.lt HR8.out j e).1) fun h => Nat.le_trans HX8.out.size h)); replace HB9 := Lib.hid (HB9.out.later HX9.out); replace HB10 := Lib.hid (HB10.out.later HX9.out); replace HB11 := Lib.hid (HB11.out.later HX9.out); replace HB12 := Lib.hid (HB12.out.later HX9.out); replace Hb13 := Lib.hid (Hb13.out.later HX9.out); replace HAI := Lib.hid (HAI.out.later HX9.out); replace HO := Lib.hid (on_new HO.out HX9.out); (obtain ⟨y0, y1, y2, y3⟩ := HB11.out.cell4); have y4 := HB11.out.frozen 1; clear ho' hg' hat'))
                      clear a0 a1 a2 a3 c0 c1 c2 c3 d0 d1 d2 d3 f0 f1 f2 f3 q0 q1 q2 g1 y0 y1 y2 y3 y4 HRC HRA HAL hp0'
                      obtain ⟨w10, hw10⟩ : ∃ z9, z9 = w9.setCell ⟨b11, 1, none⟩ (.slice R2 (k + 1) t2) := ⟨_, rfl⟩
                      have HS10 : Hid (Only (· = b11) w9 w10) := Lib.hid (by rw [hw10]; exact (Only.refl (· = b11) w9).setCell (p := ⟨b11, 1, none⟩) rfl _)
                      have HR10 := Lib.hid (own_on HR9.out HS10.out (fun j hj e => own_ne HR9.out HB11.out (by decide) (e ▸ hj)))
                      obtain ⟨CI, hI9, hID⟩ := HAI.out.i
                      have HI10 := Lib.hid (own_on hI9 HS10.out (fun j hj e => own_ne hI9 HB11.out (by decide) (e ▸ hj)))
                      have HID := Lib.hid hID
                      clear hI9 hID HAI
                      have HE13 : Hid (b13 ≠ b11) := Lib.hid (Blk.ne Hb13.out HB11.out (by decide))
                      replace HB9 := Lib.hid (HB9.out.only HS10.out (fun e => HNE.out.2.2.2.2.2.1 e))
                      replace HB10 := Lib.hid (HB10.out.only HS10.out (fun e => HNE.out.2.2.2.2.2.2 e))
                      replace HB12 := Lib.hid (HB12.out.only HS10.out (fun e => HNE.out.2.2.1 (Eq.symm e)))
                      replace Hb13 := Lib.hid (Hb13.out.only HS10.out (fun e => HE13.out e))
                      have HB11' : Hid (Blk w10 b11 53 [.slice IA ni ic, .slice R2 (k + 1) t2, .int .i64 (dep : Int), .int .i64 0]) := Lib.hid (by rw [hw10]; exact HB11.out.set_ 1 _)
                      clear HB11
                      have HB11 := HB11'
                      clear HB11'
                      replace HO := Lib.hid (HO.out.trans (HS10.out.mono fun j hj => by rw [show j = b11 from hj]; exact HNE.out.2.1))
                      have H10 : Hid (Only (w0.heap.size ≤ ·) w0 w10) := Lib.hid (on_new H0.out HO.out)
                      rw [← hw10]
                      clear hw10
                      obtain ⟨q0, q1, q2⟩ := Hb13.out.tri
                      go_upto_region 22 with (fail)
                      obtain ⟨hie, hIA, hIl, hIc⟩ := own_src HI10.out
                      have HIE := Lib.hid hie
                      have HIA := Lib.hid (And.intro hIA hIl)
                      obtain ⟨P', pc', C2, e, hd2, hr2, hP, hpc, hpm⟩ := HND.out.2.1
                      simp only [Value.slice.injEq] at e
                      obtain ⟨e1, e2, e3⟩ := e
                      clear e2
                      subst e1 e3
                      have HPA : Hid ((P = none → p = 0 ∧ pc = 0) ∧ C2.length = p * 4) := Lib.hid ⟨fun e => ⟨by have h1 := hP e; have h2 := HPL.out.1; omega, hP e⟩, by rw [HPL.out.1]; exact Den.length (fun _ _ => itE.len) hd2⟩
                      have HPC : Hid (∀ ad, P = some ad → ∀ j u, C2[j]? = some u → w0.cell? (ad.add j) = some u) := Lib.hid hr2.src
                      have HD2 := Lib.hid hd2
                      clear hd2 hr2 hP hpc hpm hIA hIl hie
                      have HDX : Hid (Only (w10.heap.size ≤ ·) w10 w10.drew) := Lib.hid ((Only.refl _ w10).drew)
                      replace HB11 := Lib.hid (HB11.out.later HDX.out)
                      replace HB12 := Lib.hid (HB12.out.later HDX.out)
                      replace HI10 := Lib.hid (own_later HI10.out HDX.out)
                      replace HR10 := Lib.hid (own_later HR10.out HDX.out)
                      replace HO := Lib.hid (on_new HO.out HDX.out)
                      have HWX := Lib.hid (on_new H10.out HDX.out)
                      have HIC : Hid (∀ ad, IA = some ad → ∀ j u, CI[j]? = some u → w10.drew.cell? (ad.add j) = some u) := Lib.hid (fun ad e j u hu => cell_later (hIc ad e j u hu) HDX.out)
                      have HAX : Hid (Only (w10.drew.heap.size ≤ ·) w10.drew (w10.drew.alloc (.cells #[] 59))) := Lib.hid ((Only.refl _ _).alloc (fun _ h => h) _)
                      clear hIc q0 q2
                      replace q1 := cell_later q1 HDX.out
                      have y0 : w10.drew.cell? ⟨b11, 0, none⟩ = some (.slice IA ni ic) := HB11.out.cell 0
                      have s1 := cell_later q1 HAX.out
                      have u0 := cell_later y0 HAX.out
                      refine wp_region_list (B := [false, false, false, false, false, false, false, false, false]) (S := (fun W : World => W.cell? ⟨b13, 1, none⟩ = some (.slice P p pc))) (by kernel_rfl) (by kernel_rfl) (by kernel_rfl) q1 (fun hsel hHeld => ?_)
                      generalize hwz : World.drew _ = wx at HDX y0 HB11 HB12 HI10 HR10 HO HWX HIC HAX q1 s1 u0 hHeld ⊢
                      clear hwz
                      refine oneA 1 111 hsel (h := ?_)
                      simp only [Act.put, List.setIfInBounds_toArray, List.set_cons_zero, List.set_cons_succ]
                      refine oneA 4 114 hsel (h := ?_)
                      simp only [Act.put, List.setIfInBounds_toArray, List.set_cons_zero, List.set_cons_succ]
                      refine oneA 5 115 hsel (h := ?_)
                      simp only [Act.put, List.setIfInBounds_toArray, List.set_cons_zero, List.set_cons_succ]
                      refine wpAnyL_ready (rs := [0, 2]) (by kernel_rfl) (by kernel_rfl) (by simp) ?_
                      refine AllReadyL.cons (o := ?_) ?_ (fun K hK => ?_) (AllReadyL.cons (o := ?_) ?_ (fun K hK => ?_) AllReadyL.nil)
                      case refine_2 => (simp only [List.getElem?_cons_zero]; rfl)
                      case refine_5 => (simp only [List.getElem?_cons_succ, List.getElem?_cons_zero]; rfl)
                      case refine_3 =>
                        go_simp
                        clear hHeld
                        refine hK.out _ _ s1 (fun hHeld => ?_)
                        clear hK K
                        try simp only [List.set_cons_zero]
                        refine wpAnyL_ready (rs := [2]) (by kernel_rfl) (by kernel_rfl) (by simp) ?_
                        refine AllReadyL.cons (o := ?_) ?_ (fun K hK => ?_) AllReadyL.nil
                        case refine_2 => (simp only [List.getElem?_cons_succ, List.getElem?_cons_zero]; rfl)
                        go_simp
                        clear hHeld
                        refine hK.out _ _ (by first | exact q1 | exact s1) (fun hHeld => ?_)
                        clear hK K
                        try simp only [List.set_cons_zero, List.set_cons_succ]
                        refine wpAnyL_ready (rs := [3]) (by kernel_rfl) (by kernel_rfl) (by simp) ?_
                        refine AllReadyL.cons (o := ?_) ?_ (fun K hK => ?_) AllReadyL.nil
                        case refine_2 => (simp only [List.getElem?_cons_succ, List.getElem?_cons_zero]; rfl)
                        rw [if_pos (by kernel_rfl)]
                        refine wp_append_row (.tmp 110) (.tmp 112) 26 rfl wx.heap.size 59 i1 zI 4 64 Try.underlying26 HI1.out.1 HI1.out.2.1 HI1.out.2.2.1 HI1.out.2.2.2 (by rfl) (by omega) (.slice (some ⟨wx.heap.size, 0, none⟩) 0 0) 0 [] rfl (own_none wx 59 4) IA ni ic CI rfl HIA.out.1 HIA.out.2 (fun ad e j u hu => cell_later (HIC.out ad e j u hu) HAX.out) (Den.one (fun _ _ => itE.one) HID.out) (by simp only [maxLen]; omega) (by omega) (by simp) ?_
                        intro v' w11 ho' hg' hat'
                        rw [Nat.zero_add, List.nil_append] at ho'
                        obtain ⟨R3, t3, rfl, _⟩ := raw_of_own ho'
                        have HR11 := Lib.hid ho'
                        have HX11 : Hid (Only (wx.heap.size ≤ ·) wx w11) := Lib.hid ((grow_only hg').mono fun j hj => hj.elim (fun e => Nat.le_of_eq (Option.some.inj e)) fun h => h)
                        have s3 := cell_later q1 HX11.out
                        clear ho' hg' hat'
                        clear hHeld
                        refine hK.out _ _ s3 (fun hHeld => ?_)
                        clear hK K
                        try simp only [Act.put, List.setIfInBounds_toArray, List.set_cons_zero, List.set_cons_succ]
                        refine wpAnyL_ready (rs := [6]) (by kernel_rfl) (by kernel_rfl) (by simp) ?_
                        refine AllReadyL.cons (o := ?_) ?_ (fun K hK => ?_) AllReadyL.nil
                        case refine_2 => (simp only [List.getElem?_cons_succ, List.getElem?_cons_zero]; rfl)
                        rw [if_pos (by kernel_rfl)]
                        refine wp_append_row (.tmp 113) (.tmp 115) 26 rfl wx.heap.size 59 i1 zI 4 64 Try.underlying26 HI1.out.1 HI1.out.2.1 HI1.out.2.2.1 HI1.out.2.2.2 (by rfl) (by omega) (.slice R3 ni t3) ni CI rfl HR11.out P p pc C2 rfl HPA.out.1 HPA.out.2 (fun ad e j u hu => cell_later (HPC.out ad e j u hu) (on_new HWX.out HX11.out)) (Den.one (fun _ _ => itE.one) HD2.out) (by simp only [maxLen]; omega) (by omega) (by exact HX11.out.size) ?_
                        intro v' w12 ho' hg' hat'
                        obtain ⟨R4, t4, rfl, _⟩ := raw_of_own ho'
                        have HR12 := Lib.hid ho'
                        have HX12 : Hid (Only (wx.heap.size ≤ ·) wx w12) := Lib.hid (HX11.out.trans (((Only.refl (fun j => (Value.slice R3 ni t3).ownBlock = some j ∨ w11.heap.size ≤ j) w11).grown hg' (fun _ h => .inr h) (fun g e => .inl e)).mono fun j hj => hj.elim (fun e => (World.ownsRow.lt HR11.out j e).1) fun h => Nat.le_trans HX11.out.size h))
                        have HB11y := Lib.hid (HB11.out.later HX12.out)
                        obtain ⟨z0, z1, z2, z3⟩ := HB11y.out.cell4
                        have z4 := HB11y.out.frozen 0
                        have s6 := cell_later q1 HX12.out
                        have s8 : (w12.setCell ⟨b11, 0, none⟩ (.slice R4 (ni + p) t4)).cell? ⟨b13, 1, none⟩ = some (.slice P p pc) := (((Only.refl (· = b11) w12).setCell (p := ⟨b11, 0, none⟩) rfl _).cell (p := ⟨b13, 1, none⟩) (fun e => HE13.out e)).trans s6
                        clear ho' hg' hat'
                        clear hHeld
                        refine hK.out _ _ s6 (fun hHeld => ?_)
                        clear hK K
                        try simp only [Act.put, List.setIfInBounds_toArray, List.set_cons_zero, List.set_cons_succ]
                        refine oneA 7 117 hsel (h := ?_)
                        simp only [Act.put, List.setIfInBounds_toArray, List.set_cons_zero, List.set_cons_succ]
                        refine wpAnyL_ready (rs := [8]) (by kernel_rfl) (by kernel_rfl) (by simp) ?_
                        refine AllReadyL.cons (o := ?_) ?_ (fun K hK => ?_) AllReadyL.nil
                        case refine_2 => (simp only [List.getElem?_cons_succ, List.getElem?_cons_zero]; rfl)
                        go_simp
                        clear hHeld
                        refine hK.out _ _ s8 (fun hHeld => ?_)
                        clear hK K
                        try simp only [List.set_cons_zero, List.set_cons_succ]
                        refine wpAnyL_done (by kernel_rfl) (by kernel_rfl) ?_ _
                        clear hsel hHeld
                        clear z0 z1 z2 z3 z4 s3 s6 s8 q1 s1 u0
                        obtain ⟨w13, hw13⟩ : ∃ z9, z9 = w12.setCell ⟨b11, 0, none⟩ (.slice R4 (ni + p) t4) := ⟨_, rfl⟩
                        have HS13 : Hid (Only (· = b11) w12 w13) := Lib.hid (by rw [hw13]; exact (Only.refl (· = b11) w12).setCell (p := ⟨b11, 0, none⟩) rfl _)
                        have HB13y : Hid (Blk w13 b11 53 [.slice R4 (ni + p) t4, .slice R2 (k + 1) t2, .int .i64 (dep : Int), .int .i64 0]) := Lib.hid (by rw [hw13]; exact HB11y.out.set_ 0 _)
                        rw [← hw13]
                        clear hw13
                        obtain ⟨z0, z1, z2, z3⟩ := HB13y.out.cell4
                        have z4 := HB13y.out.frozen 2
                        go_upto_region 24 with (fail)
                        clear z0 z1 z2 z3 z4
                        obtain ⟨w14, hw14⟩ : ∃ z9, z9 = w13.setCell ⟨b11, 2, none⟩ (.int .i64 (deep : Int)) := ⟨_, rfl⟩
                        have HS14 : Hid (Only (· = b11) w12 w14) := Lib.hid (by rw [hw14]; exact HS13.out.setCell (p := ⟨b11, 2, none⟩) rfl _)
                        have HB14y : Hid (Blk w14 b11 53 [.slice R4 (ni + p) t4, .slice R2 (k + 1) t2, .int .i64 (deep : Int), .int .i64 0]) := Lib.hid (by rw [hw14]; exact HB13y.out.set_ 2 _)
                        rw [← hw14]
                        clear hw14
                        replace HB12 := Lib.hid ((HB12.out.later HX12.out).only HS14.out (fun e => HNE.out.2.2.1 (Eq.symm e)))
                        have HR14 := Lib.hid (own_on HR12.out HS14.out (fun j hj e => own_ne HR12.out HB11y.out (by decide) (e ▸ hj)))
                        have HQ14 := Lib.hid (own_on (own_later HR10.out HX12.out) HS14.out (fun j hj e => own_ne (own_later HR10.out HX12.out) HB11y.out (by decide) (e ▸ hj)))
                        have HO14 : Hid (Only (w.heap.size ≤ ·) w w14) := Lib.hid ((on_new HO.out HX12.out).trans (HS14.out.mono fun j hj => by rw [show j = b11 from hj]; exact HNE.out.2.1))
                        obtain ⟨c0, c1, c2, c3⟩ := HB14y.out.cell4
                        obtain ⟨d0, d1, d2, d3⟩ := HB12.out.cell4
                        obtain ⟨f0, f1, f2, f3⟩ := HB12.out.melt4
                        have HVP : Hid (visitP l (f + 1) ref (lo.getD [], hi) S = (0, ⟨S.its ++ x.its, S.refs ++ [ref], deep⟩)) := Lib.hid (by
                          rw [HVG.out, HDD.out, show x.kds.length = 0 by rw [← HPL.out.2]; omega]
                          rfl)
                        have HAF : Hid (AInv w0 w14 l ⟨S.its ++ x.its, S.refs ++ [ref], deep⟩ (.slice R4 (ni + p) t4) (.slice R2 (k + 1) t2)) := Lib.hid ⟨⟨CI ++ C2, own_cast (own_le HR14.out (by have h1 := HWX.out.size; exact h1)) (by rw [List.length_append, ← HPL.out.1, ← HIE.out]), Den.append HID.out HD2.out⟩, own_cast (by have h0 := own_le HQ14.out (B' := w0.heap.size) (by have h1 := H0.out.size; have h2 := HWR.out; omega); unfold ic2 at h0 ⊢; rw [List.map_append]; exact h0) (by rw [List.length_append, ← HRE.out]; rfl)⟩
                        go_wp2_with (fail)
                        have HF1 : Hid (Blk ((((w14.setCell ⟨b12, 0, none⟩ (.slice R4 (ni + p) t4)).setCell ⟨b12, 1, none⟩ (.slice R2 (k + 1) t2)).setCell ⟨b12, 2, none⟩ (.int .i64 (deep : Int))).setCell ⟨b12, 3, none⟩ (.int .i64 0)) b12 53 [(.slice R4 (ni + p) t4), (.slice R2 (k + 1) t2), (.int .i64 (deep : Int)), (.int .i64 0)]) := Lib.hid ((((HB12.out.set_ 0 _).set_ 1 _).set_ 2 _).set_ 3 _)
                        have HF2 : Hid (Only (· = b12) w14 ((((w14.setCell ⟨b12, 0, none⟩ (.slice R4 (ni + p) t4)).setCell ⟨b12, 1, none⟩ (.slice R2 (k + 1) t2)).setCell ⟨b12, 2, none⟩ (.int .i64 (deep : Int))).setCell ⟨b12, 3, none⟩ (.int .i64 0))) := Lib.hid (((((Only.refl (· = b12) w14).setCell (p := ⟨b12, 0, none⟩) rfl _).setCell (p := ⟨b12, 1, none⟩) rfl _).setCell (p := ⟨b12, 2, none⟩) rfl _).setCell (p := ⟨b12, 3, none⟩) rfl _)
                        refine bodyPost_ret (v := .agg #[(.slice R4 (ni + p) t4), (.slice R2 (k + 1) t2), (.int .i64 (deep : Int)), (.int .i64 0)]) (results_cell1 rfl rfl (load_rwhole rfl rfl HF1.out)) rfl ?_
                        rw [HVP.out]
                        exact ⟨⟨_, _, rfl, (AInv.other HAF.out HB12.out (by decide) (by decide) HF2.out)⟩, HO14.out.trans (HF2.out.mono fun j hj => by rw [show j = b12 from hj]; exact HNE.out.1)⟩
                      case refine_6 =>
                        go_simp
                        clear hHeld
                        refine hK.out _ _ (by first | exact q1 | exact s1) (fun hHeld => ?_)
                        clear hK K
                        try simp only [List.set_cons_zero, List.set_cons_succ]
                        refine wpAnyL_ready (rs := [0]) (by kernel_rfl) (by kernel_rfl) (by simp) ?_
                        refine AllReadyL.cons (o := ?_) ?_ (fun K hK => ?_) AllReadyL.nil
                        case refine_2 => (simp only [List.getElem?_cons_zero]; rfl)
                        go_simp
                        clear hHeld
                        refine hK.out _ _ s1 (fun hHeld => ?_)
                        clear hK K
                        try simp only [List.set_cons_zero]
                        refine wpAnyL_ready (rs := [3]) (by kernel_rfl) (by kernel_rfl) (by simp) ?_
                        refine AllReadyL.cons (o := ?_) ?_ (fun K hK => ?_) AllReadyL.nil
                        case refine_2 => (simp only [List.getElem?_cons_succ, List.getElem?_cons_zero]; rfl)
                        rw [if_pos (by kernel_rfl)]
                        refine wp_append_row (.tmp 110) (.tmp 112) 26 rfl wx.heap.size 59 i1 zI 4 64 Try.underlying26 HI1.out.1 HI1.out.2.1 HI1.out.2.2.1 HI1.out.2.2.2 (by rfl) (by omega) (.slice (some ⟨wx.heap.size, 0, none⟩) 0 0) 0 [] rfl (own_none wx 59 4) IA ni ic CI rfl HIA.out.1 HIA.out.2 (fun ad e j u hu => cell_later (HIC.out ad e j u hu) HAX.out) (Den.one (fun _ _ => itE.one) HID.out) (by simp only [maxLen]; omega) (by omega) (by simp) ?_
                        intro v' w11 ho' hg' hat'
                        rw [Nat.zero_add, List.nil_append] at ho'
                        obtain ⟨R3, t3, rfl, _⟩ := raw_of_own ho'
                        have HR11 := Lib.hid ho'
                        have HX11 : Hid (Only (wx.heap.size ≤ ·) wx w11) := Lib.hid ((grow_only hg').mono fun j hj => hj.elim (fun e => Nat.le_of_eq (Option.some.inj e)) fun h => h)
                        have s3 := cell_later q1 HX11.out
                        clear ho' hg' hat'
                        clear hHeld
                        refine hK.out _ _ s3 (fun hHeld => ?_)
                        clear hK K
                        try simp only [Act.put, List.setIfInBounds_toArray, List.set_cons_zero, List.set_cons_succ]
                        refine wpAnyL_ready (rs := [6]) (by kernel_rfl) (by kernel_rfl) (by simp) ?_
                        refine AllReadyL.cons (o := ?_) ?_ (fun K hK => ?_) AllReadyL.nil
                        case refine_2 => (simp only [List.getElem?_cons_succ, List.getElem?_cons_zero]; rfl)
                        rw [if_pos (by kernel_rfl)]
                        refine wp_append_row (.tmp 113) (.tmp 115) 26 rfl wx.heap.size 59 i1 zI 4 64 Try.underlying26 HI1.out.1 HI1.out.2.1 HI1.out.2.2.1 HI1.out.2.2.2 (by rfl) (by omega) (.slice R3 ni t3) ni CI rfl HR11.out P p pc C2 rfl HPA.out.1 HPA.out.2 (fun ad e j u hu => cell_later (HPC.out ad e j u hu) (on_new HWX.out HX11.out)) (Den.one (fun _ _ => itE.one) HD2.out) (by simp only [maxLen]; omega) (by omega) (by exact HX11.out.size) ?_
                        intro v' w12 ho' hg' hat'
                        obtain ⟨R4, t4, rfl, _⟩ := raw_of_own ho'
                        have HR12 := Lib.hid ho'
                        have HX12 : Hid (Only (wx.heap.size ≤ ·) wx w12) := Lib.hid (HX11.out.trans (((Only.refl (fun j => (Value.slice R3 ni t3).ownBlock = some j ∨ w11.heap.size ≤ j) w11).grown hg' (fun _ h => .inr h) (fun g e => .inl e)).mono fun j hj => hj.elim (fun e => (World.ownsRow.lt HR11.out j e).1) fun h => Nat.le_trans HX11.out.size h))
                        have HB11y := Lib.hid (HB11.out.later HX12.out)
                        obtain ⟨z0, z1, z2, z3⟩ := HB11y.out.cell4
                        have z4 := HB11y.out.frozen 0
                        have s6 := cell_later q1 HX12.out
                        have s8 : (w12.setCell ⟨b11, 0, none⟩ (.slice R4 (ni + p) t4)).cell? ⟨b13, 1, none⟩ = some (.slice P p pc) := (((Only.refl (· = b11) w12).setCell (p := ⟨b11, 0, none⟩) rfl _).cell (p := ⟨b13, 1, none⟩) (fun e => HE13.out e)).trans s6
                        clear ho' hg' hat'
                        clear hHeld
                        refine hK.out _ _ s6 (fun hHeld => ?_)
                        clear hK K
                        try simp only [Act.put, List.setIfInBounds_toArray, List.set_cons_zero, List.set_cons_succ]
                        refine oneA 7 117 hsel (h := ?_)
                        simp only [Act.put, List.setIfInBounds_toArray, List.set_cons_zero, List.set_cons_succ]
                        refine wpAnyL_ready (rs := [8]) (by kernel_rfl) (by kernel_rfl) (by simp) ?_
                        refine AllReadyL.cons (o := ?_) ?_ (fun K hK => ?_) AllReadyL.nil
                        case refine_2 => (simp only [List.getElem?_cons_succ, List.getElem?_cons_zero]; rfl)
                        go_simp
                        clear hHeld
                        refine hK.out _ _ s8 (fun hHeld => ?_)
                        clear hK K
                        try simp only [List.set_cons_zero, List.set_cons_succ]
                        refine wpAnyL_done (by kernel_rfl) (by kernel_rfl) ?_ _
                        clear hsel hHeld
                        clear z0 z1 z2 z3 z4 s3 s6 s8 q1 s1 u0
                        obtain ⟨w13, hw13⟩ : ∃ z9, z9 = w12.setCell ⟨b11, 0, none⟩ (.slice R4 (ni + p) t4) := ⟨_, rfl⟩
                        have HS13 : Hid (Only (· = b11) w12 w13) := Lib.hid (by rw [hw13]; exact (Only.refl (· = b11) w12).setCell (p := ⟨b11, 0, none⟩) rfl _)
                        have HB13y : Hid (Blk w13 b11 53 [.slice R4 (ni + p) t4, .slice R2 (k + 1) t2, .int .i64 (dep : Int), .int .i64 0]) := Lib.hid (by rw [hw13]; exact HB11y.out.set_ 0 _)
                        rw [← hw13]
                        clear hw13
                        obtain ⟨z0, z1, z2, z3⟩ := HB13y.out.cell4
                        have z4 := HB13y.out.frozen 2
                        go_upto_region 24 with (fail)
                        clear z0 z1 z2 z3 z4
                        obtain ⟨w14, hw14⟩ : ∃ z9, z9 = w13.setCell ⟨b11, 2, none⟩ (.int .i64 (deep : Int)) := ⟨_, rfl⟩
                        have HS14 : Hid (Only (· = b11) w12 w14) := Lib.hid (by rw [hw14]; exact HS13.out.setCell (p := ⟨b11, 2, none⟩) rfl _)
                        have HB14y : Hid (Blk w14 b11 53 [.slice R4 (ni + p) t4, .slice R2 (k + 1) t2, .int .i64 (deep : Int), .int .i64 0]) := Lib.hid (by rw [hw14]; exact HB13y.out.set_ 2 _)
                        rw [← hw14]
                        clear hw14
                        replace HB12 := Lib.hid ((HB12.out.later HX12.out).only HS14.out (fun e => HNE.out.2.2.1 (Eq.symm e)))
                        have HR14 := Lib.hid (own_on HR12.out HS14.out (fun j hj e => own_ne HR12.out HB11y.out (by decide) (e ▸ hj)))
                        have HQ14 := Lib.hid (own_on (own_later HR10.out HX12.out) HS14.out (fun j hj e => own_ne (own_later HR10.out HX12.out) HB11y.out (by decide) (e ▸ hj)))
                        have HO14 : Hid (Only (w.heap.size ≤ ·) w w14) := Lib.hid ((on_new HO.out HX12.out).trans (HS14.out.mono fun j hj => by rw [show j = b11 from hj]; exact HNE.out.2.1))
                        obtain ⟨c0, c1, c2, c3⟩ := HB14y.out.cell4
                        obtain ⟨d0, d1, d2, d3⟩ := HB12.out.cell4
                        obtain ⟨f0, f1, f2, f3⟩ := HB12.out.melt4
                        have HVP : Hid (visitP l (f + 1) ref (lo.getD [], hi) S = (0, ⟨S.its ++ x.its, S.refs ++ [ref], deep⟩)) := Lib.hid (by
                          rw [HVG.out, HDD.out, show x.kds.length = 0 by rw [← HPL.out.2]; omega]
                          rfl)
                        have HAF : Hid (AInv w0 w14 l ⟨S.its ++ x.its, S.refs ++ [ref], deep⟩ (.slice R4 (ni + p) t4) (.slice R2 (k + 1) t2)) := Lib.hid ⟨⟨CI ++ C2, own_cast (own_le HR14.out (by have h1 := HWX.out.size; exact h1)) (by rw [List.length_append, ← HPL.out.1, ← HIE.out]), Den.append HID.out HD2.out⟩, own_cast (by have h0 := own_le HQ14.out (B' := w0.heap.size) (by have h1 := H0.out.size; have h2 := HWR.out; omega); unfold ic2 at h0 ⊢; rw [List.map_append]; exact h0) (by rw [List.length_append, ← HRE.out]; rfl)⟩
                        go_wp2_with (fail)
                        have HF1 : Hid (Blk ((((w14.setCell ⟨b12, 0, none⟩ (.slice R4 (ni + p) t4)).setCell ⟨b12, 1, none⟩ (.slice R2 (k + 1) t2)).setCell ⟨b12, 2, none⟩ (.int .i64 (deep : Int))).setCell ⟨b12, 3, none⟩ (.int .i64 0)) b12 53 [(.slice R4 (ni + p) t4), (.slice R2 (k + 1) t2), (.int .i64 (deep : Int)), (.int .i64 0)]) := Lib.hid ((((HB12.out.set_ 0 _).set_ 1 _).set_ 2 _).set_ 3 _)
                        have HF2 : Hid (Only (· = b12) w14 ((((w14.setCell ⟨b12, 0, none⟩ (.slice R4 (ni + p) t4)).setCell ⟨b12, 1, none⟩ (.slice R2 (k + 1) t2)).setCell ⟨b12, 2, none⟩ (.int .i64 (deep : Int))).setCell ⟨b12, 3, none⟩ (.int .i64 0))) := Lib.hid (((((Only.refl (· = b12) w14).setCell (p := ⟨b12, 0, none⟩) rfl _).setCell (p := ⟨b12, 1, none⟩) rfl _).setCell (p := ⟨b12, 2, none⟩) rfl _).setCell (p := ⟨b12, 3, none⟩) rfl _)
                        refine bodyPost_ret (v := .agg #[(.slice R4 (ni + p) t4), (.slice R2 (k + 1) t2), (.int .i64 (deep : Int)), (.int .i64 0)]) (results_cell1 rfl rfl (load_rwhole rfl rfl HF1.out)) rfl ?_
                        rw [HVP.out]
                        exact ⟨⟨_, _, rfl, (AInv.other HAF.out HB12.out (by decide) (by decide) HF2.out)⟩, HO14.out.trans (HF2.out.mono fun j hj => by rw [show j = b12 from hj]; exact HNE.out.1)⟩
              · have hp0' : ¬ (p : Int) = 0 := by omega
                have HBE2 : Hid (badB x (12 - f) ref (lo.getD [], hi) S = (b || (decide (0 < dep) && decide (dep ≠ deep)))) := Lib.hid (by rw [HBE.out]; simp [hq0, hp0])
                clear hq0 hp0
                by_cases hde : 0 < dep
                · have hde' : (0 : Int) < (dep : Int) := by omega
                  by_cases hdd : dep = deep
                  · have HGD : Hid (badB x (12 - f) ref (lo.getD [], hi) S = b) := Lib.hid (by rw [HBE2.out]; simp [hdd])
                    have HDD : Hid (depP x (12 - f) S.dep = deep) := Lib.hid (by unfold depP; rw [← HDP.out, ← HDF.out.1, hdd]; split <;> rfl)
                    subst hdd
                    cases b with
                    | true =>
                      have HVP : Hid (visitP l (f + 1) ref (lo.getD [], hi) S = (131, S)) := Lib.hid (visit_bad HNO.out HGD.out)
                      go_wp2_with (fail)
                      have HF1 : Hid (Blk ((((wr.setCell ⟨b12, 0, none⟩ (.slice none 0 0)).setCell ⟨b12, 1, none⟩ (.slice none 0 0)).setCell ⟨b12, 2, none⟩ (.int .i64 0)).setCell ⟨b12, 3, none⟩ (.int .i64 131)) b12 53 [(.slice none 0 0), (.slice none 0 0), (.int .i64 0), (.int .i64 131)]) := Lib.hid ((((HB12.out.set_ 0 _).set_ 1 _).set_ 2 _).set_ 3 _)
                      have HF2 : Hid (Only (· = b12) wr ((((wr.setCell ⟨b12, 0, none⟩ (.slice none 0 0)).setCell ⟨b12, 1, none⟩ (.slice none 0 0)).setCell ⟨b12, 2, none⟩ (.int .i64 0)).setCell ⟨b12, 3, none⟩ (.int .i64 131))) := Lib.hid (((((Only.refl (· = b12) wr).setCell (p := ⟨b12, 0, none⟩) rfl _).setCell (p := ⟨b12, 1, none⟩) rfl _).setCell (p := ⟨b12, 2, none⟩) rfl _).setCell (p := ⟨b12, 3, none⟩) rfl _)
                      refine bodyPost_ret (v := .agg #[(.slice none 0 0), (.slice none 0 0), (.int .i64 0), (.int .i64 131)]) (results_cell1 rfl rfl (load_rwhole rfl rfl HF1.out)) rfl ?_
                      rw [HVP.out]
                      exact ⟨⟨_, _, rfl, ⟨⟨[], World.ownsRow_nil _ _ _ _, rfl⟩, World.ownsRow_nil _ _ _ _⟩⟩, HO.out.trans (HF2.out.mono fun j hj => by rw [show j = b12 from hj]; exact HNE.out.1)⟩
                    | false =>
                      have HVG := Lib.hid (visit_good HNO.out HGD.out)
                      clear HBE HBE2 HGD HWB
                      have HWR : Hid (w.heap.size ≤ wr.heap.size) := Lib.hid HO.out.size
                      have hkb := HNRB.out.1
                      have hib := HNRB.out.2
                      have HAL : Hid (Only (wr.heap.size ≤ ·) wr (wr.alloc (.cells #[] 3))) := Lib.hid ((Only.refl _ wr).alloc (fun _ h => h) _)
                      have g1 := cell_later c1 HAL.out
                      go_upto_region 21 with (at_builtin; first
                        | (refine wpList_append_row rfl (.tmp 100) (.tmp 102) 47 rfl wr.heap.size 3 i2 (.int .i64 0) 1 8 Try.underlying47 HI2.out.1 HI2.out.2.1 HI2.out.2.2.1 HI2.out.2.2.2 (by rfl) (by omega) (.slice (some ⟨wr.heap.size, 0, none⟩) 0 0) 0 [] rfl (own_none wr 3 1) RA k rc (ic2 S.refs) rfl HRA.out.1 HRA.out.2 (fun ad e j u hu => cell_later (HRC.out ad e j u hu) HAL.out) (ic2_one _) (by simp only [maxLen]; omega) (by omega) (by simp) ?_; intro v' w8 ho' hg' hat'; rw [Nat.zero_add, List.nil_append] at ho'; (obtain ⟨R1, t1, rfl, _⟩ := raw_of_own ho'); have HR8 := Lib.hid ho'; have HX8 : Hid (Only (wr.heap.size ≤ ·) wr w8) := Lib.hid ((grow_only hg').mono fun j hj => hj.elim (fun e => Nat.le_of_eq (Option.some.inj e)) fun h => h); have HBK8 : Hid (Blk (w8.alloc (.cells #[.int .i64 ref] 3)) w8.heap.size 3 [.int .i64 ref]) := Lib.hid (Blk.new w8 _ _); clear ho' hg' hat')
                        | (refine wpList_append_at rfl (.tmp 103) (.tmp 105) 47 rfl wr.heap.size 3 i2 (.int .i64 0) 1 8 Try.underlying47 HI2.out.1 HI2.out.2.1 HI2.out.2.2.1 HI2.out.2.2.2 (by rfl) (by omega) (.slice R1 k t1) k (ic2 S.refs) rfl (World.ownsRow.alloc HR8.out _) ⟨w8.heap.size, 0, none⟩ 1 1 [.int .i64 ref] rfl rfl (fun j u hu => by rw [Addr.add_lit, HBK8.out.cell, Nat.zero_add]; exact hu) (by simp [Value.oneCell']) (by simp only [maxLen]; omega) (by omega) (by have := HX8.out.size; simp; omega) ?_; intro v' w9 ho' hg' hat'; (obtain ⟨R2, t2, rfl, _⟩ := raw_of_own ho'); have HR9 := Lib.hid ho'; have HX9 : Hid (Only (wr.heap.size ≤ ·) wr w9) := Lib.hid (HX8.out.trans ((grow_only hg').mono fun j hj => hj.elim (fun e => (World.ownsRow.lt HR8.out j e).1) fun h => Nat.le_trans HX8.out.size h)); replace HB9 := Lib.hid (HB9.out.later HX9.out); replace HB10 := Lib.hid (HB10.out.later HX9.out); replace HB11 := Lib.hid (HB11.out.later HX9.out); replace HB12 := Lib.hid (HB12.out.later HX9.out); replace Hb13 := Lib.hid (Hb13.out.later HX9.out); replace HAI := Lib.hid (HAI.out.later HX9.out); replace HO := Lib.hid (on_new HO.out HX9.out); (obtain ⟨y0, y1, y2, y3⟩ := HB11.out.cell4); have y4 := HB11.out.frozen 1; clear ho' hg' hat'))
                      clear a0 a1 a2 a3 c0 c1 c2 c3 d0 d1 d2 d3 f0 f1 f2 f3 q0 q1 q2 g1 y0 y1 y2 y3 y4 HRC HRA HAL hp0'
                      obtain ⟨w10, hw10⟩ : ∃ z9, z9 = w9.setCell ⟨b11, 1, none⟩ (.slice R2 (k + 1) t2) := ⟨_, rfl⟩
                      have HS10 : Hid (Only (· = b11) w9 w10) := Lib.hid (by rw [hw10]; exact (Only.refl (· = b11) w9).setCell (p := ⟨b11, 1, none⟩) rfl _)
                      have HR10 := Lib.hid (own_on HR9.out HS10.out (fun j hj e => own_ne HR9.out HB11.out (by decide) (e ▸ hj)))
                      obtain ⟨CI, hI9, hID⟩ := HAI.out.i
                      have HI10 := Lib.hid (own_on hI9 HS10.out (fun j hj e => own_ne hI9 HB11.out (by decide) (e ▸ hj)))
                      have HID := Lib.hid hID
                      clear hI9 hID HAI
                      have HE13 : Hid (b13 ≠ b11) := Lib.hid (Blk.ne Hb13.out HB11.out (by decide))
                      replace HB9 := Lib.hid (HB9.out.only HS10.out (fun e => HNE.out.2.2.2.2.2.1 e))
                      replace HB10 := Lib.hid (HB10.out.only HS10.out (fun e => HNE.out.2.2.2.2.2.2 e))
                      replace HB12 := Lib.hid (HB12.out.only HS10.out (fun e => HNE.out.2.2.1 (Eq.symm e)))
                      replace Hb13 := Lib.hid (Hb13.out.only HS10.out (fun e => HE13.out e))
                      have HB11' : Hid (Blk w10 b11 53 [.slice IA ni ic, .slice R2 (k + 1) t2, .int .i64 (dep : Int), .int .i64 0]) := Lib.hid (by rw [hw10]; exact HB11.out.set_ 1 _)
                      clear HB11
                      have HB11 := HB11'
                      clear HB11'
                      replace HO := Lib.hid (HO.out.trans (HS10.out.mono fun j hj => by rw [show j = b11 from hj]; exact HNE.out.2.1))
                      have H10 : Hid (Only (w0.heap.size ≤ ·) w0 w10) := Lib.hid (on_new H0.out HO.out)
                      rw [← hw10]
                      clear hw10
                      obtain ⟨q0, q1, q2⟩ := Hb13.out.tri
                      go_upto_region 22 with (fail)
                      obtain ⟨hie, hIA, hIl, hIc⟩ := own_src HI10.out
                      have HIE := Lib.hid hie
                      have HIA := Lib.hid (And.intro hIA hIl)
                      obtain ⟨P', pc', C2, e, hd2, hr2, hP, hpc, hpm⟩ := HND.out.2.1
                      simp only [Value.slice.injEq] at e
                      obtain ⟨e1, e2, e3⟩ := e
                      clear e2
                      subst e1 e3
                      have HPA : Hid ((P = none → p = 0 ∧ pc = 0) ∧ C2.length = p * 4) := Lib.hid ⟨fun e => ⟨by have h1 := hP e; have h2 := HPL.out.1; omega, hP e⟩, by rw [HPL.out.1]; exact Den.length (fun _ _ => itE.len) hd2⟩
                      have HPC : Hid (∀ ad, P = some ad → ∀ j u, C2[j]? = some u → w0.cell? (ad.add j) = some u) := Lib.hid hr2.src
                      have HD2 := Lib.hid hd2
                      clear hd2 hr2 hP hpc hpm hIA hIl hie
                      have HDX : Hid (Only (w10.heap.size ≤ ·) w10 w10.drew) := Lib.hid ((Only.refl _ w10).drew)
                      replace HB11 := Lib.hid (HB11.out.later HDX.out)
                      replace HB12 := Lib.hid (HB12.out.later HDX.out)
                      replace HI10 := Lib.hid (own_later HI10.out HDX.out)
                      replace HR10 := Lib.hid (own_later HR10.out HDX.out)
                      replace HO := Lib.hid (on_new HO.out HDX.out)
                      have HWX := Lib.hid (on_new H10.out HDX.out)
                      have HIC : Hid (∀ ad, IA = some ad → ∀ j u, CI[j]? = some u → w10.drew.cell? (ad.add j) = some u) := Lib.hid (fun ad e j u hu => cell_later (hIc ad e j u hu) HDX.out)
                      have HAX : Hid (Only (w10.drew.heap.size ≤ ·) w10.drew (w10.drew.alloc (.cells #[] 59))) := Lib.hid ((Only.refl _ _).alloc (fun _ h => h) _)
                      clear hIc q0 q2
                      replace q1 := cell_later q1 HDX.out
                      have y0 : w10.drew.cell? ⟨b11, 0, none⟩ = some (.slice IA ni ic) := HB11.out.cell 0
                      have s1 := cell_later q1 HAX.out
                      have u0 := cell_later y0 HAX.out
                      refine wp_region_list (B := [false, false, false, false, false, false, false, false, false]) (S := (fun W : World => W.cell? ⟨b13, 1, none⟩ = some (.slice P p pc))) (by kernel_rfl) (by kernel_rfl) (by kernel_rfl) q1 (fun hsel hHeld => ?_)
                      generalize hwz : World.drew _ = wx at HDX y0 HB11 HB12 HI10 HR10 HO HWX HIC HAX q1 s1 u0 hHeld ⊢
                      clear hwz
                      refine oneA 1 111 hsel (h := ?_)
                      simp only [Act.put, List.setIfInBounds_toArray, List.set_cons_zero, List.set_cons_succ]
                      refine oneA 4 114 hsel (h := ?_)
                      simp only [Act.put, List.setIfInBounds_toArray, List.set_cons_zero, List.set_cons_succ]
                      refine oneA 5 115 hsel (h := ?_)
                      simp only [Act.put, List.setIfInBounds_toArray, List.set_cons_zero, List.set_cons_succ]
                      refine wpAnyL_ready (rs := [0, 2]) (by kernel_rfl) (by kernel_rfl) (by simp) ?_
                      refine AllReadyL.cons (o := ?_) ?_ (fun K hK => ?_) (AllReadyL.cons (o := ?_) ?_ (fun K hK => ?_) AllReadyL.nil)
                      case refine_2 => (simp only [List.getElem?_cons_zero]; rfl)
                      case refine_5 => (simp only [List.getElem?_cons_succ, List.getElem?_cons_zero]; rfl)
                      case refine_3 =>
                        go_simp
                        clear hHeld
                        refine hK.out _ _ s1 (fun hHeld => ?_)
                        clear hK K
                        try simp only [List.set_cons_zero]
                        refine wpAnyL_ready (rs := [2]) (by kernel_rfl) (by kernel_rfl) (by simp) ?_
                        refine AllReadyL.cons (o := ?_) ?_ (fun K hK => ?_) AllReadyL.nil
                        case refine_2 => (simp only [List.getElem?_cons_succ, List.getElem?_cons_zero]; rfl)
                        go_simp
                        clear hHeld
                        refine hK.out _ _ (by first | exact q1 | exact s1) (fun hHeld => ?_)
                        clear hK K
                        try simp only [List.set_cons_zero, List.set_cons_succ]
                        refine wpAnyL_ready (rs := [3]) (by kernel_rfl) (by kernel_rfl) (by simp) ?_
                        refine AllReadyL.cons (o := ?_) ?_ (fun K hK => ?_) AllReadyL.nil
                        case refine_2 => (simp only [List.getElem?_cons_succ, List.getElem?_cons_zero]; rfl)
                        rw [if_pos (by kernel_rfl)]
                        refine wp_append_row (.tmp 110) (.tmp 112) 26 rfl wx.heap.size 59 i1 zI 4 64 Try.underlying26 HI1.out.1 HI1.out.2.1 HI1.out.2.2.1 HI1.out.2.2.2 (by rfl) (by omega) (.slice (some ⟨wx.heap.size, 0, none⟩) 0 0) 0 [] rfl (own_none wx 59 4) IA ni ic CI rfl HIA.out.1 HIA.out.2 (fun ad e j u hu => cell_later (HIC.out ad e j u hu) HAX.out) (Den.one (fun _ _ => itE.one) HID.out) (by simp only [maxLen]; omega) (by omega) (by simp) ?_
                        intro v' w11 ho' hg' hat'
                        rw [Nat.zero_add, List.nil_append] at ho'
                        obtain ⟨R3, t3, rfl, _⟩ := raw_of_own ho'
                        have HR11 := Lib.hid ho'
                        have HX11 : Hid (Only (wx.heap.size ≤ ·) wx w11) := Lib.hid ((grow_only hg').mono fun j hj => hj.elim (fun e => Nat.le_of_eq (Option.some.inj e)) fun h => h)
                        have s3 := cell_later q1 HX11.out
                        clear ho' hg' hat'
                        clear hHeld
                        refine hK.out _ _ s3 (fun hHeld => ?_)
                        clear hK K
                        try simp only [Act.put, List.setIfInBounds_toArray, List.set_cons_zero, List.set_cons_succ]
                        refine wpAnyL_ready (rs := [6]) (by kernel_rfl) (by kernel_rfl) (by simp) ?_
                        refine AllReadyL.cons (o := ?_) ?_ (fun K hK => ?_) AllReadyL.nil
                        case refine_2 => (simp only [List.getElem?_cons_succ, List.getElem?_cons_zero]; rfl)
                        rw [if_pos (by kernel_rfl)]
                        refine wp_append_row (.tmp 113) (.tmp 115) 26 rfl wx.heap.size 59 i1 zI 4 64 Try.underlying26 HI1.out.1 HI1.out.2.1 HI1.out.2.2.1 HI1.out.2.2.2 (by rfl) (by omega) (.slice R3 ni t3) ni CI rfl HR11.out P p pc C2 rfl HPA.out.1 HPA.out.2 (fun ad e j u hu => cell_later (HPC.out ad e j u hu) (on_new HWX.out HX11.out)) (Den.one (fun _ _ => itE.one) HD2.out) (by simp only [maxLen]; omega) (by omega) (by exact HX11.out.size) ?_
                        intro v' w12 ho' hg' hat'
                        obtain ⟨R4, t4, rfl, _⟩ := raw_of_own ho'
                        have HR12 := Lib.hid ho'
                        have HX12 : Hid (Only (wx.heap.size ≤ ·) wx w12) := Lib.hid (HX11.out.trans (((Only.refl (fun j => (Value.slice R3 ni t3).ownBlock = some j ∨ w11.heap.size ≤ j) w11).grown hg' (fun _ h => .inr h) (fun g e => .inl e)).mono fun j hj => hj.elim (fun e => (World.ownsRow.lt HR11.out j e).1) fun h => Nat.le_trans HX11.out.size h))
                        have HB11y := Lib.hid (HB11.out.later HX12.out)
                        obtain ⟨z0, z1, z2, z3⟩ := HB11y.out.cell4
                        have z4 := HB11y.out.frozen 0
                        have s6 := cell_later q1 HX12.out
                        have s8 : (w12.setCell ⟨b11, 0, none⟩ (.slice R4 (ni + p) t4)).cell? ⟨b13, 1, none⟩ = some (.slice P p pc) := (((Only.refl (· = b11) w12).setCell (p := ⟨b11, 0, none⟩) rfl _).cell (p := ⟨b13, 1, none⟩) (fun e => HE13.out e)).trans s6
                        clear ho' hg' hat'
                        clear hHeld
                        refine hK.out _ _ s6 (fun hHeld => ?_)
                        clear hK K
                        try simp only [Act.put, List.setIfInBounds_toArray, List.set_cons_zero, List.set_cons_succ]
                        refine oneA 7 117 hsel (h := ?_)
                        simp only [Act.put, List.setIfInBounds_toArray, List.set_cons_zero, List.set_cons_succ]
                        refine wpAnyL_ready (rs := [8]) (by kernel_rfl) (by kernel_rfl) (by simp) ?_
                        refine AllReadyL.cons (o := ?_) ?_ (fun K hK => ?_) AllReadyL.nil
                        case refine_2 => (simp only [List.getElem?_cons_succ, List.getElem?_cons_zero]; rfl)
                        go_simp
                        clear hHeld
                        refine hK.out _ _ s8 (fun hHeld => ?_)
                        clear hK K
                        try simp only [List.set_cons_zero, List.set_cons_succ]
                        refine wpAnyL_done (by kernel_rfl) (by kernel_rfl) ?_ _
                        clear hsel hHeld
                        clear z0 z1 z2 z3 z4 s3 s6 s8 q1 s1 u0
                        obtain ⟨w13, hw13⟩ : ∃ z9, z9 = w12.setCell ⟨b11, 0, none⟩ (.slice R4 (ni + p) t4) := ⟨_, rfl⟩
                        have HS13 : Hid (Only (· = b11) w12 w13) := Lib.hid (by rw [hw13]; exact (Only.refl (· = b11) w12).setCell (p := ⟨b11, 0, none⟩) rfl _)
                        have HB13y : Hid (Blk w13 b11 53 [.slice R4 (ni + p) t4, .slice R2 (k + 1) t2, .int .i64 (dep : Int), .int .i64 0]) := Lib.hid (by rw [hw13]; exact HB11y.out.set_ 0 _)
                        rw [← hw13]
                        clear hw13
                        obtain ⟨z0, z1, z2, z3⟩ := HB13y.out.cell4
                        have z4 := HB13y.out.frozen 2
                        go_upto_region 24 with (fail)
                        clear z0 z1 z2 z3 z4
                        obtain ⟨w14, hw14⟩ : ∃ z9, z9 = w13.setCell ⟨b11, 2, none⟩ (.int .i64 (dep : Int)) := ⟨_, rfl⟩
                        have HS14 : Hid (Only (· = b11) w12 w14) := Lib.hid (by rw [hw14]; exact HS13.out.setCell (p := ⟨b11, 2, none⟩) rfl _)
                        have HB14y : Hid (Blk w14 b11 53 [.slice R4 (ni + p) t4, .slice R2 (k + 1) t2, .int .i64 (dep : Int), .int .i64 0]) := Lib.hid (by rw [hw14]; exact HB13y.out.set_ 2 _)
                        rw [← hw14]
                        clear hw14
                        replace HB12 := Lib.hid ((HB12.out.later HX12.out).only HS14.out (fun e => HNE.out.2.2.1 (Eq.symm e)))
                        have HR14 := Lib.hid (own_on HR12.out HS14.out (fun j hj e => own_ne HR12.out HB11y.out (by decide) (e ▸ hj)))
                        have HQ14 := Lib.hid (own_on (own_later HR10.out HX12.out) HS14.out (fun j hj e => own_ne (own_later HR10.out HX12.out) HB11y.out (by decide) (e ▸ hj)))
                        have HO14 : Hid (Only (w.heap.size ≤ ·) w w14) := Lib.hid ((on_new HO.out HX12.out).trans (HS14.out.mono fun j hj => by rw [show j = b11 from hj]; exact HNE.out.2.1))
                        obtain ⟨c0, c1, c2, c3⟩ := HB14y.out.cell4
                        obtain ⟨d0, d1, d2, d3⟩ := HB12.out.cell4
                        obtain ⟨f0, f1, f2, f3⟩ := HB12.out.melt4
                        have HVP : Hid (visitP l (f + 1) ref (lo.getD [], hi) S = (0, ⟨S.its ++ x.its, S.refs ++ [ref], dep⟩)) := Lib.hid (by
                          rw [HVG.out, HDD.out, show x.kds.length = 0 by rw [← HPL.out.2]; omega]
                          rfl)
                        have HAF : Hid (AInv w0 w14 l ⟨S.its ++ x.its, S.refs ++ [ref], dep⟩ (.slice R4 (ni + p) t4) (.slice R2 (k + 1) t2)) := Lib.hid ⟨⟨CI ++ C2, own_cast (own_le HR14.out (by have h1 := HWX.out.size; exact h1)) (by rw [List.length_append, ← HPL.out.1, ← HIE.out]), Den.append HID.out HD2.out⟩, own_cast (by have h0 := own_le HQ14.out (B' := w0.heap.size) (by have h1 := H0.out.size; have h2 := HWR.out; omega); unfold ic2 at h0 ⊢; rw [List.map_append]; exact h0) (by rw [List.length_append, ← HRE.out]; rfl)⟩
                        go_wp2_with (fail)
                        have HF1 : Hid (Blk ((((w14.setCell ⟨b12, 0, none⟩ (.slice R4 (ni + p) t4)).setCell ⟨b12, 1, none⟩ (.slice R2 (k + 1) t2)).setCell ⟨b12, 2, none⟩ (.int .i64 (dep : Int))).setCell ⟨b12, 3, none⟩ (.int .i64 0)) b12 53 [(.slice R4 (ni + p) t4), (.slice R2 (k + 1) t2), (.int .i64 (dep : Int)), (.int .i64 0)]) := Lib.hid ((((HB12.out.set_ 0 _).set_ 1 _).set_ 2 _).set_ 3 _)
                        have HF2 : Hid (Only (· = b12) w14 ((((w14.setCell ⟨b12, 0, none⟩ (.slice R4 (ni + p) t4)).setCell ⟨b12, 1, none⟩ (.slice R2 (k + 1) t2)).setCell ⟨b12, 2, none⟩ (.int .i64 (dep : Int))).setCell ⟨b12, 3, none⟩ (.int .i64 0))) := Lib.hid (((((Only.refl (· = b12) w14).setCell (p := ⟨b12, 0, none⟩) rfl _).setCell (p := ⟨b12, 1, none⟩) rfl _).setCell (p := ⟨b12, 2, none⟩) rfl _).setCell (p := ⟨b12, 3, none⟩) rfl _)
                        refine bodyPost_ret (v := .agg #[(.slice R4 (ni + p) t4), (.slice R2 (k + 1) t2), (.int .i64 (dep : Int)), (.int .i64 0)]) (results_cell1 rfl rfl (load_rwhole rfl rfl HF1.out)) rfl ?_
                        rw [HVP.out]
                        exact ⟨⟨_, _, rfl, (AInv.other HAF.out HB12.out (by decide) (by decide) HF2.out)⟩, HO14.out.trans (HF2.out.mono fun j hj => by rw [show j = b12 from hj]; exact HNE.out.1)⟩
                      case refine_6 =>
                        go_simp
                        clear hHeld
                        refine hK.out _ _ (by first | exact q1 | exact s1) (fun hHeld => ?_)
                        clear hK K
                        try simp only [List.set_cons_zero, List.set_cons_succ]
                        refine wpAnyL_ready (rs := [0]) (by kernel_rfl) (by kernel_rfl) (by simp) ?_
                        refine AllReadyL.cons (o := ?_) ?_ (fun K hK => ?_) AllReadyL.nil
                        case refine_2 => (simp only [List.getElem?_cons_zero]; rfl)
                        go_simp
                        clear hHeld
                        refine hK.out _ _ s1 (fun hHeld => ?_)
                        clear hK K
                        try simp only [List.set_cons_zero]
                        refine wpAnyL_ready (rs := [3]) (by kernel_rfl) (by kernel_rfl) (by simp) ?_
                        refine AllReadyL.cons (o := ?_) ?_ (fun K hK => ?_) AllReadyL.nil
                        case refine_2 => (simp only [List.getElem?_cons_succ, List.getElem?_cons_zero]; rfl)
                        rw [if_pos (by kernel_rfl)]
                        refine wp_append_row (.tmp 110) (.tmp 112) 26 rfl wx.heap.size 59 i1 zI 4 64 Try.underlying26 HI1.out.1 HI1.out.2.1 HI1.out.2.2.1 HI1.out.2.2.2 (by rfl) (by omega) (.slice (some ⟨wx.heap.size, 0, none⟩) 0 0) 0 [] rfl (own_none wx 59 4) IA ni ic CI rfl HIA.out.1 HIA.out.2 (fun ad e j u hu => cell_later (HIC.out ad e j u hu) HAX.out) (Den.one (fun _ _ => itE.one) HID.out) (by simp only [maxLen]; omega) (by omega) (by simp) ?_
                        intro v' w11 ho' hg' hat'
                        rw [Nat.zero_add, List.nil_append] at ho'
                        obtain ⟨R3, t3, rfl, _⟩ := raw_of_own ho'
                        have HR11 := Lib.hid ho'
                        have HX11 : Hid (Only (wx.heap.size ≤ ·) wx w11) := Lib.hid ((grow_only hg').mono fun j hj => hj.elim (fun e => Nat.le_of_eq (Option.some.inj e)) fun h => h)
                        have s3 := cell_later q1 HX11.out
                        clear ho' hg' hat'
                        clear hHeld
                        refine hK.out _ _ s3 (fun hHeld => ?_)
                        clear hK K
                        try simp only [Act.put, List.setIfInBounds_toArray, List.set_cons_zero, List.set_cons_succ]
                        refine wpAnyL_ready (rs := [6]) (by kernel_rfl) (by kernel_rfl) (by simp) ?_
                        refine AllReadyL.cons (o := ?_) ?_ (fun K hK => ?_) AllReadyL.nil
                        case refine_2 => (simp only [List.getElem?_cons_succ, List.getElem?_cons_zero]; rfl)
                        rw [if_pos (by kernel_rfl)]
                        refine wp_append_row (.tmp 113) (.tmp 115) 26 rfl wx.heap.size 59 i1 zI 4 64 Try.underlying26 HI1.out.1 HI1.out.2.1 HI1.out.2.2.1 HI1.out.2.2.2 (by rfl) (by omega) (.slice R3 ni t3) ni CI rfl HR11.out P p pc C2 rfl HPA.out.1 HPA.out.2 (fun ad e j u hu => cell_later (HPC.out ad e j u hu) (on_new HWX.out HX11.out)) (Den.one (fun _ _ => itE.one) HD2.out) (by simp only [maxLen]; omega) (by omega) (by exact HX11.out.size) ?_
                        intro v' w12 ho' hg' hat'
                        obtain ⟨R4, t4, rfl, _⟩ := raw_of_own ho'
                        have HR12 := Lib.hid ho'
                        have HX12 : Hid (Only (wx.heap.size ≤ ·) wx w12) := Lib.hid (HX11.out.trans (((Only.refl (fun j => (Value.slice R3 ni t3).ownBlock = some j ∨ w11.heap.size ≤ j) w11).grown hg' (fun _ h => .inr h) (fun g e => .inl e)).mono fun j hj => hj.elim (fun e => (World.ownsRow.lt HR11.out j e).1) fun h => Nat.le_trans HX11.out.size h))
                        have HB11y := Lib.hid (HB11.out.later HX12.out)
                        obtain ⟨z0, z1, z2, z3⟩ := HB11y.out.cell4
                        have z4 := HB11y.out.frozen 0
                        have s6 := cell_later q1 HX12.out
                        have s8 : (w12.setCell ⟨b11, 0, none⟩ (.slice R4 (ni + p) t4)).cell? ⟨b13, 1, none⟩ = some (.slice P p pc) := (((Only.refl (· = b11) w12).setCell (p := ⟨b11, 0, none⟩) rfl _).cell (p := ⟨b13, 1, none⟩) (fun e => HE13.out e)).trans s6
                        clear ho' hg' hat'
                        clear hHeld
                        refine hK.out _ _ s6 (fun hHeld => ?_)
                        clear hK K
                        try simp only [Act.put, List.setIfInBounds_toArray, List.set_cons_zero, List.set_cons_succ]
                        refine oneA 7 117 hsel (h := ?_)
                        simp only [Act.put, List.setIfInBounds_toArray, List.set_cons_zero, List.set_cons_succ]
                        refine wpAnyL_ready (rs := [8]) (by kernel_rfl) (by kernel_rfl) (by simp) ?_
                        refine AllReadyL.cons (o := ?_) ?_ (fun K hK => ?_) AllReadyL.nil
                        case refine_2 => (simp only [List.getElem?_cons_succ, List.getElem?_cons_zero]; rfl)
                        go_simp
                        clear hHeld
                        refine hK.out _ _ s8 (fun hHeld => ?_)
                        clear hK K
                        try simp only [List.set_cons_zero, List.set_cons_succ]
                        refine wpAnyL_done (by kernel_rfl) (by kernel_rfl) ?_ _
                        clear hsel hHeld
                        clear z0 z1 z2 z3 z4 s3 s6 s8 q1 s1 u0
                        obtain ⟨w13, hw13⟩ : ∃ z9, z9 = w12.setCell ⟨b11, 0, none⟩ (.slice R4 (ni + p) t4) := ⟨_, rfl⟩
                        have HS13 : Hid (Only (· = b11) w12 w13) := Lib.hid (by rw [hw13]; exact (Only.refl (· = b11) w12).setCell (p := ⟨b11, 0, none⟩) rfl _)
                        have HB13y : Hid (Blk w13 b11 53 [.slice R4 (ni + p) t4, .slice R2 (k + 1) t2, .int .i64 (dep : Int), .int .i64 0]) := Lib.hid (by rw [hw13]; exact HB11y.out.set_ 0 _)
                        rw [← hw13]
                        clear hw13
                        obtain ⟨z0, z1, z2, z3⟩ := HB13y.out.cell4
                        have z4 := HB13y.out.frozen 2
                        go_upto_region 24 with (fail)
                        clear z0 z1 z2 z3 z4
                        obtain ⟨w14, hw14⟩ : ∃ z9, z9 = w13.setCell ⟨b11, 2, none⟩ (.int .i64 (dep : Int)) := ⟨_, rfl⟩
                        have HS14 : Hid (Only (· = b11) w12 w14) := Lib.hid (by rw [hw14]; exact HS13.out.setCell (p := ⟨b11, 2, none⟩) rfl _)
                        have HB14y : Hid (Blk w14 b11 53 [.slice R4 (ni + p) t4, .slice R2 (k + 1) t2, .int .i64 (dep : Int), .int .i64 0]) := Lib.hid (by rw [hw14]; exact HB13y.out.set_ 2 _)
                        rw [← hw14]
                        clear hw14
                        replace HB12 := Lib.hid ((HB12.out.later HX12.out).only HS14.out (fun e => HNE.out.2.2.1 (Eq.symm e)))
                        have HR14 := Lib.hid (own_on HR12.out HS14.out (fun j hj e => own_ne HR12.out HB11y.out (by decide) (e ▸ hj)))
                        have HQ14 := Lib.hid (own_on (own_later HR10.out HX12.out) HS14.out (fun j hj e => own_ne (own_later HR10.out HX12.out) HB11y.out (by decide) (e ▸ hj)))
                        have HO14 : Hid (Only (w.heap.size ≤ ·) w w14) := Lib.hid ((on_new HO.out HX12.out).trans (HS14.out.mono fun j hj => by rw [show j = b11 from hj]; exact HNE.out.2.1))
                        obtain ⟨c0, c1, c2, c3⟩ := HB14y.out.cell4
                        obtain ⟨d0, d1, d2, d3⟩ := HB12.out.cell4
                        obtain ⟨f0, f1, f2, f3⟩ := HB12.out.melt4
                        have HVP : Hid (visitP l (f + 1) ref (lo.getD [], hi) S = (0, ⟨S.its ++ x.its, S.refs ++ [ref], dep⟩)) := Lib.hid (by
                          rw [HVG.out, HDD.out, show x.kds.length = 0 by rw [← HPL.out.2]; omega]
                          rfl)
                        have HAF : Hid (AInv w0 w14 l ⟨S.its ++ x.its, S.refs ++ [ref], dep⟩ (.slice R4 (ni + p) t4) (.slice R2 (k + 1) t2)) := Lib.hid ⟨⟨CI ++ C2, own_cast (own_le HR14.out (by have h1 := HWX.out.size; exact h1)) (by rw [List.length_append, ← HPL.out.1, ← HIE.out]), Den.append HID.out HD2.out⟩, own_cast (by have h0 := own_le HQ14.out (B' := w0.heap.size) (by have h1 := H0.out.size; have h2 := HWR.out; omega); unfold ic2 at h0 ⊢; rw [List.map_append]; exact h0) (by rw [List.length_append, ← HRE.out]; rfl)⟩
                        go_wp2_with (fail)
                        have HF1 : Hid (Blk ((((w14.setCell ⟨b12, 0, none⟩ (.slice R4 (ni + p) t4)).setCell ⟨b12, 1, none⟩ (.slice R2 (k + 1) t2)).setCell ⟨b12, 2, none⟩ (.int .i64 (dep : Int))).setCell ⟨b12, 3, none⟩ (.int .i64 0)) b12 53 [(.slice R4 (ni + p) t4), (.slice R2 (k + 1) t2), (.int .i64 (dep : Int)), (.int .i64 0)]) := Lib.hid ((((HB12.out.set_ 0 _).set_ 1 _).set_ 2 _).set_ 3 _)
                        have HF2 : Hid (Only (· = b12) w14 ((((w14.setCell ⟨b12, 0, none⟩ (.slice R4 (ni + p) t4)).setCell ⟨b12, 1, none⟩ (.slice R2 (k + 1) t2)).setCell ⟨b12, 2, none⟩ (.int .i64 (dep : Int))).setCell ⟨b12, 3, none⟩ (.int .i64 0))) := Lib.hid (((((Only.refl (· = b12) w14).setCell (p := ⟨b12, 0, none⟩) rfl _).setCell (p := ⟨b12, 1, none⟩) rfl _).setCell (p := ⟨b12, 2, none⟩) rfl _).setCell (p := ⟨b12, 3, none⟩) rfl _)
                        refine bodyPost_ret (v := .agg #[(.slice R4 (ni + p) t4), (.slice R2 (k + 1) t2), (.int .i64 (dep : Int)), (.int .i64 0)]) (results_cell1 rfl rfl (load_rwhole rfl rfl HF1.out)) rfl ?_
                        rw [HVP.out]
                        exact ⟨⟨_, _, rfl, (AInv.other HAF.out HB12.out (by decide) (by decide) HF2.out)⟩, HO14.out.trans (HF2.out.mono fun j hj => by rw [show j = b12 from hj]; exact HNE.out.1)⟩
                  · have hdd' : ¬ (dep : Int) = (deep : Int) := by omega
                    have HVP : Hid (visitP l (f + 1) ref (lo.getD [], hi) S = (131, S)) := Lib.hid (visit_bad HNO.out (by rw [HBE2.out]; simp [hde, hdd]))
                    clear hdd hde
                    go_wp2_with (fail)
                    have HF1 : Hid (Blk ((((wr.setCell ⟨b12, 0, none⟩ (.slice none 0 0)).setCell ⟨b12, 1, none⟩ (.slice none 0 0)).setCell ⟨b12, 2, none⟩ (.int .i64 0)).setCell ⟨b12, 3, none⟩ (.int .i64 131)) b12 53 [(.slice none 0 0), (.slice none 0 0), (.int .i64 0), (.int .i64 131)]) := Lib.hid ((((HB12.out.set_ 0 _).set_ 1 _).set_ 2 _).set_ 3 _)
                    have HF2 : Hid (Only (· = b12) wr ((((wr.setCell ⟨b12, 0, none⟩ (.slice none 0 0)).setCell ⟨b12, 1, none⟩ (.slice none 0 0)).setCell ⟨b12, 2, none⟩ (.int .i64 0)).setCell ⟨b12, 3, none⟩ (.int .i64 131))) := Lib.hid (((((Only.refl (· = b12) wr).setCell (p := ⟨b12, 0, none⟩) rfl _).setCell (p := ⟨b12, 1, none⟩) rfl _).setCell (p := ⟨b12, 2, none⟩) rfl _).setCell (p := ⟨b12, 3, none⟩) rfl _)
                    refine bodyPost_ret (v := .agg #[(.slice none 0 0), (.slice none 0 0), (.int .i64 0), (.int .i64 131)]) (results_cell1 rfl rfl (load_rwhole rfl rfl HF1.out)) rfl ?_
                    rw [HVP.out]
                    exact ⟨⟨_, _, rfl, ⟨⟨[], World.ownsRow_nil _ _ _ _, rfl⟩, World.ownsRow_nil _ _ _ _⟩⟩, HO.out.trans (HF2.out.mono fun j hj => by rw [show j = b12 from hj]; exact HNE.out.1)⟩
                · have hde' : ¬ (0 : Int) < (dep : Int) := by omega
                  have HGD : Hid (badB x (12 - f) ref (lo.getD [], hi) S = b) := Lib.hid (by rw [HBE2.out]; simp [hde])
                  have HDD : Hid (depP x (12 - f) S.dep = deep) := Lib.hid (by unfold depP; rw [← HDP.out, ← HDF.out.1, if_pos ⟨HXL.out, by omega⟩])
                  clear hde
                  cases b with
                  | true =>
                    have HVP : Hid (visitP l (f + 1) ref (lo.getD [], hi) S = (131, S)) := Lib.hid (visit_bad HNO.out HGD.out)
                    go_wp2_with (fail)
                    have HF1 : Hid (Blk ((((wr.setCell ⟨b12, 0, none⟩ (.slice none 0 0)).setCell ⟨b12, 1, none⟩ (.slice none 0 0)).setCell ⟨b12, 2, none⟩ (.int .i64 0)).setCell ⟨b12, 3, none⟩ (.int .i64 131)) b12 53 [(.slice none 0 0), (.slice none 0 0), (.int .i64 0), (.int .i64 131)]) := Lib.hid ((((HB12.out.set_ 0 _).set_ 1 _).set_ 2 _).set_ 3 _)
                    have HF2 : Hid (Only (· = b12) wr ((((wr.setCell ⟨b12, 0, none⟩ (.slice none 0 0)).setCell ⟨b12, 1, none⟩ (.slice none 0 0)).setCell ⟨b12, 2, none⟩ (.int .i64 0)).setCell ⟨b12, 3, none⟩ (.int .i64 131))) := Lib.hid (((((Only.refl (· = b12) wr).setCell (p := ⟨b12, 0, none⟩) rfl _).setCell (p := ⟨b12, 1, none⟩) rfl _).setCell (p := ⟨b12, 2, none⟩) rfl _).setCell (p := ⟨b12, 3, none⟩) rfl _)
                    refine bodyPost_ret (v := .agg #[(.slice none 0 0), (.slice none 0 0), (.int .i64 0), (.int .i64 131)]) (results_cell1 rfl rfl (load_rwhole rfl rfl HF1.out)) rfl ?_
                    rw [HVP.out]
                    exact ⟨⟨_, _, rfl, ⟨⟨[], World.ownsRow_nil _ _ _ _, rfl⟩, World.ownsRow_nil _ _ _ _⟩⟩, HO.out.trans (HF2.out.mono fun j hj => by rw [show j = b12 from hj]; exact HNE.out.1)⟩
                  | false =>
                    have HVG := Lib.hid (visit_good HNO.out HGD.out)
                    clear HBE HBE2 HGD HWB
                    have HWR : Hid (w.heap.size ≤ wr.heap.size) := Lib.hid HO.out.size
                    have hkb := HNRB.out.1
                    have hib := HNRB.out.2
                    have HAL : Hid (Only (wr.heap.size ≤ ·) wr (wr.alloc (.cells #[] 3))) := Lib.hid ((Only.refl _ wr).alloc (fun _ h => h) _)
                    have g1 := cell_later c1 HAL.out
                    go_upto_region 21 with (at_builtin; first
                      | (refine wpList_append_row rfl (.tmp 100) (.tmp 102) 47 rfl wr.heap.size 3 i2 (.int .i64 0) 1 8 Try.underlying47 HI2.out.1 HI2.out.2.1 HI2.out.2.2.1 HI2.out.2.2.2 (by rfl) (by omega) (.slice (some ⟨wr.heap.size, 0, none⟩) 0 0) 0 [] rfl (own_none wr 3 1) RA k rc (ic2 S.refs) rfl HRA.out.1 HRA.out.2 (fun ad e j u hu => cell_later (HRC.out ad e j u hu) HAL.out) (ic2_one _) (by simp only [maxLen]; omega) (by omega) (by simp) ?_; intro v' w8 ho' hg' hat'; rw [Nat.zero_add, List.nil_append] at ho'; (obtain ⟨R1, t1, rfl, _⟩ := raw_of_own ho'); have HR8 := Lib.hid ho'; have HX8 : Hid (Only (wr.heap.size ≤ ·) wr w8) := Lib.hid ((grow_only hg').mono fun j hj => hj.elim (fun e => Nat.le_of_eq (Option.some.inj e)) fun h => h); have HBK8 : Hid (Blk (w8.alloc (.cells #[.int .i64 ref] 3)) w8.heap.size 3 [.int .i64 ref]) := Lib.hid (Blk.new w8 _ _); clear ho' hg' hat')
                      | (refine wpList_append_at rfl (.tmp 103) (.tmp 105) 47 rfl wr.heap.size 3 i2 (.int .i64 0) 1 8 Try.underlying47 HI2.out.1 HI2.out.2.1 HI2.out.2.2.1 HI2.out.2.2.2 (by rfl) (by omega) (.slice R1 k t1) k (ic2 S.refs) rfl (World.ownsRow.alloc HR8.out _) ⟨w8.heap.size, 0, none⟩ 1 1 [.int .i64 ref] rfl rfl (fun j u hu => by rw [Addr.add_lit, HBK8.out.cell, Nat.zero_add]; exact hu) (by simp [Value.oneCell']) (by simp only [maxLen]; omega) (by omega) (by have := HX8.out.size; simp; omega) ?_; intro v' w9 ho' hg' hat'; (obtain ⟨R2, t2, rfl, _⟩ := raw_of_own ho'); have HR9 := Lib.hid ho'; have HX9 : Hid (Only (wr.heap.size ≤ ·) wr w9) := Lib.hid (HX8.out.trans ((grow_only hg').mono fun j hj => hj.elim (fun e => (World.ownsRow.lt HR8.out j e).1) fun h => Nat.le_trans HX8.out.size h)); replace HB9 := Lib.hid (HB9.out.later HX9.out); replace HB10 := Lib.hid (HB10.out.later HX9.out); replace HB11 := Lib.hid (HB11.out.later HX9.out); replace HB12 := Lib.hid (HB12.out.later HX9.out); replace Hb13 := Lib.hid (Hb13.out.later HX9.out); replace HAI := Lib.hid (HAI.out.later HX9.out); replace HO := Lib.hid (on_new HO.out HX9.out); (obtain ⟨y0, y1, y2, y3⟩ := HB11.out.cell4); have y4 := HB11.out.frozen 1; clear ho' hg' hat'))
                    clear a0 a1 a2 a3 c0 c1 c2 c3 d0 d1 d2 d3 f0 f1 f2 f3 q0 q1 q2 g1 y0 y1 y2 y3 y4 HRC HRA HAL hp0'
                    obtain ⟨w10, hw10⟩ : ∃ z9, z9 = w9.setCell ⟨b11, 1, none⟩ (.slice R2 (k + 1) t2) := ⟨_, rfl⟩
                    have HS10 : Hid (Only (· = b11) w9 w10) := Lib.hid (by rw [hw10]; exact (Only.refl (· = b11) w9).setCell (p := ⟨b11, 1, none⟩) rfl _)
                    have HR10 := Lib.hid (own_on HR9.out HS10.out (fun j hj e => own_ne HR9.out HB11.out (by decide) (e ▸ hj)))
                    obtain ⟨CI, hI9, hID⟩ := HAI.out.i
                    have HI10 := Lib.hid (own_on hI9 HS10.out (fun j hj e => own_ne hI9 HB11.out (by decide) (e ▸ hj)))
                    have HID := Lib.hid hID
                    clear hI9 hID HAI
                    have HE13 : Hid (b13 ≠ b11) := Lib.hid (Blk.ne Hb13.out HB11.out (by decide))
                    replace HB9 := Lib.hid (HB9.out.only HS10.out (fun e => HNE.out.2.2.2.2.2.1 e))
                    replace HB10 := Lib.hid (HB10.out.only HS10.out (fun e => HNE.out.2.2.2.2.2.2 e))
                    replace HB12 := Lib.hid (HB12.out.only HS10.out (fun e => HNE.out.2.2.1 (Eq.symm e)))
                    replace Hb13 := Lib.hid (Hb13.out.only HS10.out (fun e => HE13.out e))
                    have HB11' : Hid (Blk w10 b11 53 [.slice IA ni ic, .slice R2 (k + 1) t2, .int .i64 (dep : Int), .int .i64 0]) := Lib.hid (by rw [hw10]; exact HB11.out.set_ 1 _)
                    clear HB11
                    have HB11 := HB11'
                    clear HB11'
                    replace HO := Lib.hid (HO.out.trans (HS10.out.mono fun j hj => by rw [show j = b11 from hj]; exact HNE.out.2.1))
                    have H10 : Hid (Only (w0.heap.size ≤ ·) w0 w10) := Lib.hid (on_new H0.out HO.out)
                    rw [← hw10]
                    clear hw10
                    obtain ⟨q0, q1, q2⟩ := Hb13.out.tri
                    go_upto_region 22 with (fail)
                    obtain ⟨hie, hIA, hIl, hIc⟩ := own_src HI10.out
                    have HIE := Lib.hid hie
                    have HIA := Lib.hid (And.intro hIA hIl)
                    obtain ⟨P', pc', C2, e, hd2, hr2, hP, hpc, hpm⟩ := HND.out.2.1
                    simp only [Value.slice.injEq] at e
                    obtain ⟨e1, e2, e3⟩ := e
                    clear e2
                    subst e1 e3
                    have HPA : Hid ((P = none → p = 0 ∧ pc = 0) ∧ C2.length = p * 4) := Lib.hid ⟨fun e => ⟨by have h1 := hP e; have h2 := HPL.out.1; omega, hP e⟩, by rw [HPL.out.1]; exact Den.length (fun _ _ => itE.len) hd2⟩
                    have HPC : Hid (∀ ad, P = some ad → ∀ j u, C2[j]? = some u → w0.cell? (ad.add j) = some u) := Lib.hid hr2.src
                    have HD2 := Lib.hid hd2
                    clear hd2 hr2 hP hpc hpm hIA hIl hie
                    have HDX : Hid (Only (w10.heap.size ≤ ·) w10 w10.drew) := Lib.hid ((Only.refl _ w10).drew)
                    replace HB11 := Lib.hid (HB11.out.later HDX.out)
                    replace HB12 := Lib.hid (HB12.out.later HDX.out)
                    replace HI10 := Lib.hid (own_later HI10.out HDX.out)
                    replace HR10 := Lib.hid (own_later HR10.out HDX.out)
                    replace HO := Lib.hid (on_new HO.out HDX.out)
                    have HWX := Lib.hid (on_new H10.out HDX.out)
                    have HIC : Hid (∀ ad, IA = some ad → ∀ j u, CI[j]? = some u → w10.drew.cell? (ad.add j) = some u) := Lib.hid (fun ad e j u hu => cell_later (hIc ad e j u hu) HDX.out)
                    have HAX : Hid (Only (w10.drew.heap.size ≤ ·) w10.drew (w10.drew.alloc (.cells #[] 59))) := Lib.hid ((Only.refl _ _).alloc (fun _ h => h) _)
                    clear hIc q0 q2
                    replace q1 := cell_later q1 HDX.out
                    have y0 : w10.drew.cell? ⟨b11, 0, none⟩ = some (.slice IA ni ic) := HB11.out.cell 0
                    have s1 := cell_later q1 HAX.out
                    have u0 := cell_later y0 HAX.out
                    refine wp_region_list (B := [false, false, false, false, false, false, false, false, false]) (S := (fun W : World => W.cell? ⟨b13, 1, none⟩ = some (.slice P p pc))) (by kernel_rfl) (by kernel_rfl) (by kernel_rfl) q1 (fun hsel hHeld => ?_)
                    generalize hwz : World.drew _ = wx at HDX y0 HB11 HB12 HI10 HR10 HO HWX HIC HAX q1 s1 u0 hHeld ⊢
                    clear hwz
                    refine oneA 1 111 hsel (h := ?_)
                    simp only [Act.put, List.setIfInBounds_toArray, List.set_cons_zero, List.set_cons_succ]
                    refine oneA 4 114 hsel (h := ?_)
                    simp only [Act.put, List.setIfInBounds_toArray, List.set_cons_zero, List.set_cons_succ]
                    refine oneA 5 115 hsel (h := ?_)
                    simp only [Act.put, List.setIfInBounds_toArray, List.set_cons_zero, List.set_cons_succ]
                    refine wpAnyL_ready (rs := [0, 2]) (by kernel_rfl) (by kernel_rfl) (by simp) ?_
                    refine AllReadyL.cons (o := ?_) ?_ (fun K hK => ?_) (AllReadyL.cons (o := ?_) ?_ (fun K hK => ?_) AllReadyL.nil)
                    case refine_2 => (simp only [List.getElem?_cons_zero]; rfl)
                    case refine_5 => (simp only [List.getElem?_cons_succ, List.getElem?_cons_zero]; rfl)
                    case refine_3 =>
                      go_simp
                      clear hHeld
                      refine hK.out _ _ s1 (fun hHeld => ?_)
                      clear hK K
                      try simp only [List.set_cons_zero]
                      refine wpAnyL_ready (rs := [2]) (by kernel_rfl) (by kernel_rfl) (by simp) ?_
                      refine AllReadyL.cons (o := ?_) ?_ (fun K hK => ?_) AllReadyL.nil
                      case refine_2 => (simp only [List.getElem?_cons_succ, List.getElem?_cons_zero]; rfl)
                      go_simp
                      clear hHeld
                      refine hK.out _ _ (by first | exact q1 | exact s1) (fun hHeld => ?_)
                      clear hK K
                      try simp only [List.set_cons_zero, List.set_cons_succ]
                      refine wpAnyL_ready (rs := [3]) (by kernel_rfl) (by kernel_rfl) (by simp) ?_
                      refine AllReadyL.cons (o := ?_) ?_ (fun K hK => ?_) AllReadyL.nil
                      case refine_2 => (simp only [List.getElem?_cons_succ, List.getElem?_cons_zero]; rfl)
                      rw [if_pos (by kernel_rfl)]
                      refine wp_append_row (.tmp 110) (.tmp 112) 26 rfl wx.heap.size 59 i1 zI 4 64 Try.underlying26 HI1.out.1 HI1.out.2.1 HI1.out.2.2.1 HI1.out.2.2.2 (by rfl) (by omega) (.slice (some ⟨wx.heap.size, 0, none⟩) 0 0) 0 [] rfl (own_none wx 59 4) IA ni ic CI rfl HIA.out.1 HIA.out.2 (fun ad e j u hu => cell_later (HIC.out ad e j u hu) HAX.out) (Den.one (fun _ _ => itE.one) HID.out) (by simp only [maxLen]; omega) (by omega) (by simp) ?_
                      intro v' w11 ho' hg' hat'
                      rw [Nat.zero_add, List.nil_append] at ho'
                      obtain ⟨R3, t3, rfl, _⟩ := raw_of_own ho'
                      have HR11 := Lib.hid ho'
                      have HX11 : Hid (Only (wx.heap.size ≤ ·) wx w11) := Lib.hid ((grow_only hg').mono fun j hj => hj.elim (fun e => Nat.le_of_eq (Option.some.inj e)) fun h => h)
                      have s3 := cell_later q1 HX11.out
                      clear ho' hg' hat'
                      clear hHeld
                      refine hK.out _ _ s3 (fun hHeld => ?_)
                      clear hK K
                      try simp only [Act.put, List.setIfInBounds_toArray, List.set_cons_zero, List.set_cons_succ]
                      refine wpAnyL_ready (rs := [6]) (by kernel_rfl) (by kernel_rfl) (by simp) ?_
                      refine AllReadyL.cons (o := ?_) ?_ (fun K hK => ?_) AllReadyL.nil
                      case refine_2 => (simp only [List.getElem?_cons_succ, List.getElem?_cons_zero]; rfl)
                      rw [if_pos (by kernel_rfl)]
                      refine wp_append_row (.tmp 113) (.tmp 115) 26 rfl wx.heap.size 59 i1 zI 4 64 Try.underlying26 HI1.out.1 HI1.out.2.1 HI1.out.2.2.1 HI1.out.2.2.2 (by rfl) (by omega) (.slice R3 ni t3) ni CI rfl HR11.out P p pc C2 rfl HPA.out.1 HPA.out.2 (fun ad e j u hu => cell_later (HPC.out ad e j u hu) (on_new HWX.out HX11.out)) (Den.one (fun _ _ => itE.one) HD2.out) (by simp only [maxLen]; omega) (by omega) (by exact HX11.out.size) ?_
                      intro v' w12 ho' hg' hat'
                      obtain ⟨R4, t4, rfl, _⟩ := raw_of_own ho'
                      have HR12 := Lib.hid ho'
                      have HX12 : Hid (Only (wx.heap.size ≤ ·) wx w12) := Lib.hid (HX11.out.trans (((Only.refl (fun j => (Value.slice R3 ni t3).ownBlock = some j ∨ w11.heap.size ≤ j) w11).grown hg' (fun _ h => .inr h) (fun g e => .inl e)).mono fun j hj => hj.elim (fun e => (World.ownsRow.lt HR11.out j e).1) fun h => Nat.le_trans HX11.out.size h))
                      have HB11y := Lib.hid (HB11.out.later HX12.out)
                      obtain ⟨z0, z1, z2, z3⟩ := HB11y.out.cell4
                      have z4 := HB11y.out.frozen 0
                      have s6 := cell_later q1 HX12.out
                      have s8 : (w12.setCell ⟨b11, 0, none⟩ (.slice R4 (ni + p) t4)).cell? ⟨b13, 1, none⟩ = some (.slice P p pc) := (((Only.refl (· = b11) w12).setCell (p := ⟨b11, 0, none⟩) rfl _).cell (p := ⟨b13, 1, none⟩) (fun e => HE13.out e)).trans s6
                      clear ho' hg' hat'
                      clear hHeld
                      refine hK.out _ _ s6 (fun hHeld => ?_)
                      clear hK K
                      try simp only [Act.put, List.setIfInBounds_toArray, List.set_cons_zero, List.set_cons_succ]
                      refine oneA 7 117 hsel (h := ?_)
                      simp only [Act.put, List.setIfInBounds_toArray, List.set_cons_zero, List.set_cons_succ]
                      refine wpAnyL_ready (rs := [8]) (by kernel_rfl) (by kernel_rfl) (by simp) ?_
                      refine AllReadyL.cons (o := ?_) ?_ (fun K hK => ?_) AllReadyL.nil
                      case refine_2 => (simp only [List.getElem?_cons_succ, List.getElem?_cons_zero]; rfl)
                      go_simp
                      clear hHeld
                      refine hK.out _ _ s8 (fun hHeld => ?_)
                      clear hK K
                      try simp only [List.set_cons_zero, List.set_cons_succ]
                      refine wpAnyL_done (by kernel_rfl) (by kernel_rfl) ?_ _
                      clear hsel hHeld
                      clear z0 z1 z2 z3 z4 s3 s6 s8 q1 s1 u0
                      obtain ⟨w13, hw13⟩ : ∃ z9, z9 = w12.setCell ⟨b11, 0, none⟩ (.slice R4 (ni + p) t4) := ⟨_, rfl⟩
                      have HS13 : Hid (Only (· = b11) w12 w13) := Lib.hid (by rw [hw13]; exact (Only.refl (· = b11) w12).setCell (p := ⟨b11, 0, none⟩) rfl _)
                      have HB13y : Hid (Blk w13 b11 53 [.slice R4 (ni + p) t4, .slice R2 (k + 1) t2, .int .i64 (dep : Int), .int .i64 0]) := Lib.hid (by rw [hw13]; exact HB11y.out.set_ 0 _)
                      rw [← hw13]
                      clear hw13
                      obtain ⟨z0, z1, z2, z3⟩ := HB13y.out.cell4
                      have z4 := HB13y.out.frozen 2
                      go_upto_region 24 with (fail)
                      clear z0 z1 z2 z3 z4
                      obtain ⟨w14, hw14⟩ : ∃ z9, z9 = w13.setCell ⟨b11, 2, none⟩ (.int .i64 (deep : Int)) := ⟨_, rfl⟩
                      have HS14 : Hid (Only (· = b11) w12 w14) := Lib.hid (by rw [hw14]; exact HS13.out.setCell (p := ⟨b11, 2, none⟩) rfl _)
                      have HB14y : Hid (Blk w14 b11 53 [.slice R4 (ni + p) t4, .slice R2 (k + 1) t2, .int .i64 (deep : Int), .int .i64 0]) := Lib.hid (by rw [hw14]; exact HB13y.out.set_ 2 _)
                      rw [← hw14]
                      clear hw14
                      replace HB12 := Lib.hid ((HB12.out.later HX12.out).only HS14.out (fun e => HNE.out.2.2.1 (Eq.symm e)))
                      have HR14 := Lib.hid (own_on HR12.out HS14.out (fun j hj e => own_ne HR12.out HB11y.out (by decide) (e ▸ hj)))
                      have HQ14 := Lib.hid (own_on (own_later HR10.out HX12.out) HS14.out (fun j hj e => own_ne (own_later HR10.out HX12.out) HB11y.out (by decide) (e ▸ hj)))
                      have HO14 : Hid (Only (w.heap.size ≤ ·) w w14) := Lib.hid ((on_new HO.out HX12.out).trans (HS14.out.mono fun j hj => by rw [show j = b11 from hj]; exact HNE.out.2.1))
                      obtain ⟨c0, c1, c2, c3⟩ := HB14y.out.cell4
                      obtain ⟨d0, d1, d2, d3⟩ := HB12.out.cell4
                      obtain ⟨f0, f1, f2, f3⟩ := HB12.out.melt4
                      have HVP : Hid (visitP l (f + 1) ref (lo.getD [], hi) S = (0, ⟨S.its ++ x.its, S.refs ++ [ref], deep⟩)) := Lib.hid (by
                        rw [HVG.out, HDD.out, show x.kds.length = 0 by rw [← HPL.out.2]; omega]
                        rfl)
                      have HAF : Hid (AInv w0 w14 l ⟨S.its ++ x.its, S.refs ++ [ref], deep⟩ (.slice R4 (ni + p) t4) (.slice R2 (k + 1) t2)) := Lib.hid ⟨⟨CI ++ C2, own_cast (own_le HR14.out (by have h1 := HWX.out.size; exact h1)) (by rw [List.length_append, ← HPL.out.1, ← HIE.out]), Den.append HID.out HD2.out⟩, own_cast (by have h0 := own_le HQ14.out (B' := w0.heap.size) (by have h1 := H0.out.size; have h2 := HWR.out; omega); unfold ic2 at h0 ⊢; rw [List.map_append]; exact h0) (by rw [List.length_append, ← HRE.out]; rfl)⟩
                      go_wp2_with (fail)
                      have HF1 : Hid (Blk ((((w14.setCell ⟨b12, 0, none⟩ (.slice R4 (ni + p) t4)).setCell ⟨b12, 1, none⟩ (.slice R2 (k + 1) t2)).setCell ⟨b12, 2, none⟩ (.int .i64 (deep : Int))).setCell ⟨b12, 3, none⟩ (.int .i64 0)) b12 53 [(.slice R4 (ni + p) t4), (.slice R2 (k + 1) t2), (.int .i64 (deep : Int)), (.int .i64 0)]) := Lib.hid ((((HB12.out.set_ 0 _).set_ 1 _).set_ 2 _).set_ 3 _)
                      have HF2 : Hid (Only (· = b12) w14 ((((w14.setCell ⟨b12, 0, none⟩ (.slice R4 (ni + p) t4)).setCell ⟨b12, 1, none⟩ (.slice R2 (k + 1) t2)).setCell ⟨b12, 2, none⟩ (.int .i64 (deep : Int))).setCell ⟨b12, 3, none⟩ (.int .i64 0))) := Lib.hid (((((Only.refl (· = b12) w14).setCell (p := ⟨b12, 0, none⟩) rfl _).setCell (p := ⟨b12, 1, none⟩) rfl _).setCell (p := ⟨b12, 2, none⟩) rfl _).setCell (p := ⟨b12, 3, none⟩) rfl _)
                      refine bodyPost_ret (v := .agg #[(.slice R4 (ni + p) t4), (.slice R2 (k + 1) t2), (.int .i64 (deep : Int)), (.int .i64 0)]) (results_cell1 rfl rfl (load_rwhole rfl rfl HF1.out)) rfl ?_
                      rw [HVP.out]
                      exact ⟨⟨_, _, rfl, (AInv.other HAF.out HB12.out (by decide) (by decide) HF2.out)⟩, HO14.out.trans (HF2.out.mono fun j hj => by rw [show j = b12 from hj]; exact HNE.out.1)⟩
                    case refine_6 =>
                      go_simp
                      clear hHeld
                      refine hK.out _ _ (by first | exact q1 | exact s1) (fun hHeld => ?_)
                      clear hK K
                      try simp only [List.set_cons_zero, List.set_cons_succ]
                      refine wpAnyL_ready (rs := [0]) (by kernel_rfl) (by kernel_rfl) (by simp) ?_
                      refine AllReadyL.cons (o := ?_) ?_ (fun K hK => ?_) AllReadyL.nil
                      case refine_2 => (simp only [List.getElem?_cons_zero]; rfl)
                      go_simp
                      clear hHeld
                      refine hK.out _ _ s1 (fun hHeld => ?_)
                      clear hK K
                      try simp only [List.set_cons_zero]
                      refine wpAnyL_ready (rs := [3]) (by kernel_rfl) (by kernel_rfl) (by simp) ?_
                      refine AllReadyL.cons (o := ?_) ?_ (fun K hK => ?_) AllReadyL.nil
                      case refine_2 => (simp only [List.getElem?_cons_succ, List.getElem?_cons_zero]; rfl)
                      rw [if_pos (by kernel_rfl)]
                      refine wp_append_row (.tmp 110) (.tmp 112) 26 rfl wx.heap.size 59 i1 zI 4 64 Try.underlying26 HI1.out.1 HI1.out.2.1 HI1.out.2.2.1 HI1.out.2.2.2 (by rfl) (by omega) (.slice (some ⟨wx.heap.size, 0, none⟩) 0 0) 0 [] rfl (own_none wx 59 4) IA ni ic CI rfl HIA.out.1 HIA.out.2 (fun ad e j u hu => cell_later (HIC.out ad e j u hu) HAX.out) (Den.one (fun _ _ => itE.one) HID.out) (by simp only [maxLen]; omega) (by omega) (by simp) ?_
                      intro v' w11 ho' hg' hat'
                      rw [Nat.zero_add, List.nil_append] at ho'
                      obtain ⟨R3, t3, rfl, _⟩ := raw_of_own ho'
                      have HR11 := Lib.hid ho'
                      have HX11 : Hid (Only (wx.heap.size ≤ ·) wx w11) := Lib.hid ((grow_only hg').mono fun j hj => hj.elim (fun e => Nat.le_of_eq (Option.some.inj e)) fun h => h)
                      have s3 := cell_later q1 HX11.out
                      clear ho' hg' hat'
                      clear hHeld
                      refine hK.out _ _ s3 (fun hHeld => ?_)
                      clear hK K
                      try simp only [Act.put, List.setIfInBounds_toArray, List.set_cons_zero, List.set_cons_succ]
                      refine wpAnyL_ready (rs := [6]) (by kernel_rfl) (by kernel_rfl) (by simp) ?_
                      refine AllReadyL.cons (o := ?_) ?_ (fun K hK => ?_) AllReadyL.nil
                      case refine_2 => (simp only [List.getElem?_cons_succ, List.getElem?_cons_zero]; rfl)
                      rw [if_pos (by kernel_rfl)]
                      refine wp_append_row (.tmp 113) (.tmp 115) 26 rfl wx.heap.size 59 i1 zI 4 64 Try.underlying26 HI1.out.1 HI1.out.2.1 HI1.out.2.2.1 HI1.out.2.2.2 (by rfl) (by omega) (.slice R3 ni t3) ni CI rfl HR11.out P p pc C2 rfl HPA.out.1 HPA.out.2 (fun ad e j u hu => cell_later (HPC.out ad e j u hu) (on_new HWX.out HX11.out)) (Den.one (fun _ _ => itE.one) HD2.out) (by simp only [maxLen]; omega) (by omega) (by exact HX11.out.size) ?_
                      intro v' w12 ho' hg' hat'
                      obtain ⟨R4, t4, rfl, _⟩ := raw_of_own ho'
                      have HR12 := Lib.hid ho'
                      have HX12 : Hid (Only (wx.heap.size ≤ ·) wx w12) := Lib.hid (HX11.out.trans (((Only.refl (fun j => (Value.slice R3 ni t3).ownBlock = some j ∨ w11.heap.size ≤ j) w11).grown hg' (fun _ h => .inr h) (fun g e => .inl e)).mono fun j hj => hj.elim (fun e => (World.ownsRow.lt HR11.out j e).1) fun h => Nat.le_trans HX11.out.size h))
                      have HB11y := Lib.hid (HB11.out.later HX12.out)
                      obtain ⟨z0, z1, z2, z3⟩ := HB11y.out.cell4
                      have z4 := HB11y.out.frozen 0
                      have s6 := cell_later q1 HX12.out
                      have s8 : (w12.setCell ⟨b11, 0, none⟩ (.slice R4 (ni + p) t4)).cell? ⟨b13, 1, none⟩ = some (.slice P p pc) := (((Only.refl (· = b11) w12).setCell (p := ⟨b11, 0, none⟩) rfl _).cell (p := ⟨b13, 1, none⟩) (fun e => HE13.out e)).trans s6
                      clear ho' hg' hat'
                      clear hHeld
                      refine hK.out _ _ s6 (fun hHeld => ?_)
                      clear hK K
                      try simp only [Act.put, List.setIfInBounds_toArray, List.set_cons_zero, List.set_cons_succ]
                      refine oneA 7 117 hsel (h := ?_)
                      simp only [Act.put, List.setIfInBounds_toArray, List.set_cons_zero, List.set_cons_succ]
                      refine wpAnyL_ready (rs := [8]) (by kernel_rfl) (by kernel_rfl) (by simp) ?_
                      refine AllReadyL.cons (o := ?_) ?_ (fun K hK => ?_) AllReadyL.nil
                      case refine_2 => (simp only [List.getElem?_cons_succ, List.getElem?_cons_zero]; rfl)
                      go_simp
                      clear hHeld
                      refine hK.out _ _ s8 (fun hHeld => ?_)
                      clear hK K
                      try simp only [List.set_cons_zero, List.set_cons_succ]
                      refine wpAnyL_done (by kernel_rfl) (by kernel_rfl) ?_ _
                      clear hsel hHeld
                      clear z0 z1 z2 z3 z4 s3 s6 s8 q1 s1 u0
                      obtain ⟨w13, hw13⟩ : ∃ z9, z9 = w12.setCell ⟨b11, 0, none⟩ (.slice R4 (ni + p) t4) := ⟨_, rfl⟩
                      have HS13 : Hid (Only (· = b11) w12 w13) := Lib.hid (by rw [hw13]; exact (Only.refl (· = b11) w12).setCell (p := ⟨b11, 0, none⟩) rfl _)
                      have HB13y : Hid (Blk w13 b11 53 [.slice R4 (ni + p) t4, .slice R2 (k + 1) t2, .int .i64 (dep : Int), .int .i64 0]) := Lib.hid (by rw [hw13]; exact HB11y.out.set_ 0 _)
                      rw [← hw13]
                      clear hw13
                      obtain ⟨z0, z1, z2, z3⟩ := HB13y.out.cell4
                      have z4 := HB13y.out.frozen 2
                      go_upto_region 24 with (fail)
                      clear z0 z1 z2 z3 z4
                      obtain ⟨w14, hw14⟩ : ∃ z9, z9 = w13.setCell ⟨b11, 2, none⟩ (.int .i64 (deep : Int)) := ⟨_, rfl⟩
                      have HS14 : Hid (Only (· = b11) w12 w14) := Lib.hid (by rw [hw14]; exact HS13.out.setCell (p := ⟨b11, 2, none⟩) rfl _)
                      have HB14y : Hid (Blk w14 b11 53 [.slice R4 (ni + p) t4, .slice R2 (k + 1) t2, .int .i64 (deep : Int), .int .i64 0]) := Lib.hid (by rw [hw14]; exact HB13y.out.set_ 2 _)
                      rw [← hw14]
                      clear hw14
                      replace HB12 := Lib.hid ((HB12.out.later HX12.out).only HS14.out (fun e => HNE.out.2.2.1 (Eq.symm e)))
                      have HR14 := Lib.hid (own_on HR12.out HS14.out (fun j hj e => own_ne HR12.out HB11y.out (by decide) (e ▸ hj)))
                      have HQ14 := Lib.hid (own_on (own_later HR10.out HX12.out) HS14.out (fun j hj e => own_ne (own_later HR10.out HX12.out) HB11y.out (by decide) (e ▸ hj)))
                      have HO14 : Hid (Only (w.heap.size ≤ ·) w w14) := Lib.hid ((on_new HO.out HX12.out).trans (HS14.out.mono fun j hj => by rw [show j = b11 from hj]; exact HNE.out.2.1))
                      obtain ⟨c0, c1, c2, c3⟩ := HB14y.out.cell4
                      obtain ⟨d0, d1, d2, d3⟩ := HB12.out.cell4
                      obtain ⟨f0, f1, f2, f3⟩ := HB12.out.melt4
                      have HVP : Hid (visitP l (f + 1) ref (lo.getD [], hi) S = (0, ⟨S.its ++ x.its, S.refs ++ [ref], deep⟩)) := Lib.hid (by
                        rw [HVG.out, HDD.out, show x.kds.length = 0 by rw [← HPL.out.2]; omega]
                        rfl)
                      have HAF : Hid (AInv w0 w14 l ⟨S.its ++ x.its, S.refs ++ [ref], deep⟩ (.slice R4 (ni + p) t4) (.slice R2 (k + 1) t2)) := Lib.hid ⟨⟨CI ++ C2, own_cast (own_le HR14.out (by have h1 := HWX.out.size; exact h1)) (by rw [List.length_append, ← HPL.out.1, ← HIE.out]), Den.append HID.out HD2.out⟩, own_cast (by have h0 := own_le HQ14.out (B' := w0.heap.size) (by have h1 := H0.out.size; have h2 := HWR.out; omega); unfold ic2 at h0 ⊢; rw [List.map_append]; exact h0) (by rw [List.length_append, ← HRE.out]; rfl)⟩
                      go_wp2_with (fail)
                      have HF1 : Hid (Blk ((((w14.setCell ⟨b12, 0, none⟩ (.slice R4 (ni + p) t4)).setCell ⟨b12, 1, none⟩ (.slice R2 (k + 1) t2)).setCell ⟨b12, 2, none⟩ (.int .i64 (deep : Int))).setCell ⟨b12, 3, none⟩ (.int .i64 0)) b12 53 [(.slice R4 (ni + p) t4), (.slice R2 (k + 1) t2), (.int .i64 (deep : Int)), (.int .i64 0)]) := Lib.hid ((((HB12.out.set_ 0 _).set_ 1 _).set_ 2 _).set_ 3 _)
                      have HF2 : Hid (Only (· = b12) w14 ((((w14.setCell ⟨b12, 0, none⟩ (.slice R4 (ni + p) t4)).setCell ⟨b12, 1, none⟩ (.slice R2 (k + 1) t2)).setCell ⟨b12, 2, none⟩ (.int .i64 (deep : Int))).setCell ⟨b12, 3, none⟩ (.int .i64 0))) := Lib.hid (((((Only.refl (· = b12) w14).setCell (p := ⟨b12, 0, none⟩) rfl _).setCell (p := ⟨b12, 1, none⟩) rfl _).setCell (p := ⟨b12, 2, none⟩) rfl _).setCell (p := ⟨b12, 3, none⟩) rfl _)
                      refine bodyPost_ret (v := .agg #[(.slice R4 (ni + p) t4), (.slice R2 (k + 1) t2), (.int .i64 (deep : Int)), (.int .i64 0)]) (results_cell1 rfl rfl (load_rwhole rfl rfl HF1.out)) rfl ?_
                      rw [HVP.out]
                      exact ⟨⟨_, _, rfl, (AInv.other HAF.out HB12.out (by decide) (by decide) HF2.out)⟩, HO14.out.trans (HF2.out.mono fun j hj => by rw [show j = b12 from hj]; exact HNE.out.1)⟩
end Go.Proofs.Ytdpdlhfjemehcaa
