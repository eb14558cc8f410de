/-
  The document's Newest.
-/
import Derived.Test.YtopaponemjaenaaGreatDoorPud
import Derived.Test.YtopaponemjaenaaGreatDoorMcd
set_option linter.unusedVariables false
namespace Go.Proofs.YtopaponemjaenaaGreatDoor
open Go.RowKit

theorem rm_set {W : World} {q : Nat} {t : TypeId} {a b c d e f g h0 a' b' c' d' e' f' g' h' : Value} (h : Blk W q t [a, b, c, d, e, f, g, h0]) : Blk ((((((((W.setCell ⟨q, 0, none⟩ a').setCell ⟨q, 1, none⟩ b').setCell ⟨q, 2, none⟩ c').setCell ⟨q, 3, none⟩ d').setCell ⟨q, 4, none⟩ e').setCell ⟨q, 5, none⟩ f').setCell ⟨q, 6, none⟩ g').setCell ⟨q, 7, none⟩ h') q t [a', b', c', d', e', f', g', h'] ∧ Only (· = q) W ((((((((W.setCell ⟨q, 0, none⟩ a').setCell ⟨q, 1, none⟩ b').setCell ⟨q, 2, none⟩ c').setCell ⟨q, 3, none⟩ d').setCell ⟨q, 4, none⟩ e').setCell ⟨q, 5, none⟩ f').setCell ⟨q, 6, none⟩ g').setCell ⟨q, 7, none⟩ h') :=
  ⟨((((((((h.set_ 0 a').set_ 1 b').set_ 2 c').set_ 3 d').set_ 4 e').set_ 5 f').set_ 6 g').set_ 7 h'), (((((((((Only.refl (· = q) W).setCell (p := ⟨q, 0, none⟩) rfl a').setCell (p := ⟨q, 1, none⟩) rfl b').setCell (p := ⟨q, 2, none⟩) rfl c').setCell (p := ⟨q, 3, none⟩) rfl d').setCell (p := ⟨q, 4, none⟩) rfl e').setCell (p := ⟨q, 5, none⟩) rfl f').setCell (p := ⟨q, 6, none⟩) rfl g').setCell (p := ⟨q, 7, none⟩) rfl h')⟩
def kpg0 (im : Bytes) : Bytes := if 256 ≤ im.length then im.take 256 else []
def kpg1 (im : Bytes) : Bytes := if 512 ≤ im.length then (im.drop 256).take (512 - 256) else []
set_option maxRecDepth 100000 in
set_option maxHeartbeats 12800000 in
theorem kNewest_c (w : World) (L : Int) (BA : Option Addr) (bn bc : Nat) (RA : Option Addr) (rn rc : Nat) (ops fu : Int) (B : Bytes) (row : List Dk.Wr) (N : Nat) (hs : Src w (.slice BA bn bc) B) (hn : B.length = bn) (hN : bn = N * 64) (hN2 : N ≤ 65536) (hr : Kws w (.slice RA rn rc) row) (hf : Dk.Fits N row) (hrn : rn ≤ 1000000) :
    Calls Tryz.prog 27 #[.agg #[.int .i64 L, .slice BA bn bc, .slice RA rn rc, .int .i64 ops, .int .i64 fu, .bool false]] w (GaveRC w (docC (mdM (kpg0 (Dk.look B row))) (mdM (kpg1 (Dk.look B row))) (mdX (kpg0 (Dk.look B row))) (mdX (kpg1 (Dk.look B row))) (mdE (kpg0 (Dk.look B row))) (mdE (kpg1 (Dk.look B row))))) := by
  obtain ⟨w1, hw1⟩ : ∃ W0, W0 = (w.alloc (.cells #[.int .i64 L, .slice BA bn bc, .slice RA rn rc, .int .i64 ops, .int .i64 fu, .bool false] 34)).alloc (.cells #[.int .i64 0, .int .i64 0, .int .i64 0, .int .i64 0, .int .i64 0, .int .i64 0, .int .i64 0, .slice none 0 0] 25) := ⟨_, rfl⟩
  have HO1 : Hid (Only (w.heap.size ≤ ·) w w1) := Lib.hid (by rw [hw1]; exact ((Only.refl _ w).alloc (fun _ h => h) _).alloc (fun _ h => h) _)
  have HQ1 : Hid (Blk w1 w.heap.size 34 [.int .i64 L, .slice BA bn bc, .slice RA rn rc, .int .i64 ops, .int .i64 fu, .bool false]) := Lib.hid (by rw [hw1]; exact (Blk.new w 34 [.int .i64 L, .slice BA bn bc, .slice RA rn rc, .int .i64 ops, .int .i64 fu, .bool false]).alloc _)
  have HQ2 : Hid (Blk w1 (w.heap.size + 1) 25 [.int .i64 0, .int .i64 0, .int .i64 0, .int .i64 0, .int .i64 0, .int .i64 0, .int .i64 0, .slice none 0 0]) := Lib.hid (by
    have h := Blk.new (w.alloc (.cells #[.int .i64 L, .slice BA bn bc, .slice RA rn rc, .int .i64 ops, .int .i64 fu, .bool false] 34)) 25 [.int .i64 0, .int .i64 0, .int .i64 0, .int .i64 0, .int .i64 0, .int .i64 0, .int .i64 0, .slice none 0 0]
    rw [← hw1] at h
    simpa using h)
  have HE1 := Lib.hid hw1
  have HBL : Hid ((Dk.look B row).length = bn) := Lib.hid (by rw [hN]; exact Dk.look_length row B hf (by rw [hn, hN]))
  have HIM : Hid (∀ W, Only (w.heap.size ≤ ·) w W → Calls Tryz.prog 40 #[.agg #[.int .i64 L, .slice BA bn bc, .slice RA rn rc, .int .i64 ops, .int .i64 fu, .bool false]] W (GaveIm W bn (Dk.look B row))) := Lib.hid (fun W hW => kImage_c W L BA bn bc RA rn rc ops fu false B row N (hs.later hW) hn hN hN2 (Rw.later hr hW) hf hrn)
  have HNN := Lib.hid (And.intro hN hN2)
  clear hw1 hs hn hN hN2 hr hf hrn
  obtain ⟨i0, i1, i2, i3, i4, i5⟩ := blk_six HQ1.out
  go_enter Tryz.func27, Tryz.ntmps27
  go_upto_region 1 with (fail)
  rw [← HE1.out]
  clear HE1
  generalize hq2 : w.heap.size + 1 = q2 at HQ2 ⊢
  have HQN : Hid (w.heap.size < q2) := Lib.hid (by omega)
  clear hq2
  go_upto_region 6 with (go_at_call 40; (with_reducible refine (HIM.out _ HO1.out).mono ?_); rintro e wk ⟨A, c, rfl, hsi, hg, ho⟩; have HSI := Lib.hid hsi; have HG := Lib.hid hg; have HK := Lib.hid ho; clear hsi hg ho)
  clear i0 i1 i2 i3 i4 i5
  by_cases h1 : bn < 256
  · have h2 : ¬ 256 ≤ (bn : Int) := by omega
    have h3 : ¬ 512 ≤ (bn : Int) := by omega
    have HCH := Lib.hid (rmChoose_c wk (.slice none 0 0) (.slice none 0 0) _ _ (Src.nil_ _) (Src.nil_ _))
    have KE : Hid (kpg0 (Dk.look B row) = [] ∧ kpg1 (Dk.look B row) = []) := Lib.hid (⟨if_neg (by rw [HBL.out]; omega), if_neg (by rw [HBL.out]; omega)⟩)
    obtain ⟨r0, r1, r2, r3, r4, r5, r6, r7⟩ := (HQ2.out.only HK.out (Nat.not_le.2 HQ2.out.lt)).eight
    have f0 := (HQ2.out.only HK.out (Nat.not_le.2 HQ2.out.lt)).frozen 0
    have f1 := (HQ2.out.only HK.out (Nat.not_le.2 HQ2.out.lt)).frozen 1
    have f2 := (HQ2.out.only HK.out (Nat.not_le.2 HQ2.out.lt)).frozen 2
    have f3 := (HQ2.out.only HK.out (Nat.not_le.2 HQ2.out.lt)).frozen 3
    have f4 := (HQ2.out.only HK.out (Nat.not_le.2 HQ2.out.lt)).frozen 4
    have f5 := (HQ2.out.only HK.out (Nat.not_le.2 HQ2.out.lt)).frozen 5
    have f6 := (HQ2.out.only HK.out (Nat.not_le.2 HQ2.out.lt)).frozen 6
    have f7 := (HQ2.out.only HK.out (Nat.not_le.2 HQ2.out.lt)).frozen 7
    go_wp2_with (go_at_call 57; (with_reducible refine HCH.out.mono ?_); rintro e w5 ⟨g', ph', t', x', r', p', l', MA, mn, mc, h1, h2, rfl, hsm, ho⟩; have HM1 := Lib.hid h1; have HM2 := Lib.hid h2; have HSM := Lib.hid hsm; have HO5 := Lib.hid (on_new HK.out ho); clear h1 h2 hsm ho r0 r1 r2 r3 r4 r5 r6 r7 f0 f1 f2 f3 f4 f5 f6 f7; (obtain ⟨r0, r1, r2, r3, r4, r5, r6, r7⟩ := (HQ2.out.only HO5.out (Nat.not_le.2 HQ2.out.lt)).eight); have f0 := (HQ2.out.only HO5.out (Nat.not_le.2 HQ2.out.lt)).frozen 0; have f1 := (HQ2.out.only HO5.out (Nat.not_le.2 HQ2.out.lt)).frozen 1; have f2 := (HQ2.out.only HO5.out (Nat.not_le.2 HQ2.out.lt)).frozen 2; have f3 := (HQ2.out.only HO5.out (Nat.not_le.2 HQ2.out.lt)).frozen 3; have f4 := (HQ2.out.only HO5.out (Nat.not_le.2 HQ2.out.lt)).frozen 4; have f5 := (HQ2.out.only HO5.out (Nat.not_le.2 HQ2.out.lt)).frozen 5; have f6 := (HQ2.out.only HO5.out (Nat.not_le.2 HQ2.out.lt)).frozen 6; have f7 := (HQ2.out.only HO5.out (Nat.not_le.2 HQ2.out.lt)).frozen 7)
    have hk := rm_set (a' := (.int .i64 g')) (b' := (.int .i64 ph')) (c' := (.int .i64 t')) (d' := (.int .i64 x')) (e' := (.int .i64 r')) (f' := (.int .i64 p')) (g' := (.int .i64 l')) (h' := (.slice MA mn mc)) (HQ2.out.only HO5.out (Nat.not_le.2 HQ2.out.lt))
    refine bodyPost_ret (results_ctt rfl rfl (rload_meta hk.1)) rfl ?_
    rw [KE.out.1, KE.out.2]
    exact ⟨g', ph', t', x', r', p', l', MA, mn, mc, HM1.out, HM2.out, rfl, src_off HSM.out (HQ2.out.only HO5.out (Nat.not_le.2 HQ2.out.lt)) (by intro v hv x e; rw [e] at hv; simp at hv) hk.2, (on_new HO1.out HO5.out).trans (hk.2.mono fun k hk' => by have h2 : k = q2 := hk'; have h3 := HQN.out; omega)⟩
  by_cases h4 : bn < 512
  · have h2 : 256 ≤ (bn : Int) := by omega
    have h3 : ¬ 512 ≤ (bn : Int) := by omega
    obtain ⟨g, rfl, _⟩ := HG.out (by omega)
    have h5 : bn ≤ c := src_capn HSI.out
    have h6 : (256 : Int) ≤ (c : Int) := by omega
    have h7 : 256 ≤ c := by omega
    have HS0 := Lib.hid (src_cut HSI.out (q := 256) (by omega) (by omega))
    have HCH := Lib.hid (rmChoose_c wk (.slice (some ⟨g, 0, none⟩) 256 c) (.slice none 0 0) _ _ HS0.out (Src.nil_ _))
    have KE : Hid (kpg0 (Dk.look B row) = (Dk.look B row).take 256 ∧ kpg1 (Dk.look B row) = []) := Lib.hid (⟨if_pos (by rw [HBL.out]; omega), if_neg (by rw [HBL.out]; omega)⟩)
    obtain ⟨r0, r1, r2, r3, r4, r5, r6, r7⟩ := (HQ2.out.only HK.out (Nat.not_le.2 HQ2.out.lt)).eight
    have f0 := (HQ2.out.only HK.out (Nat.not_le.2 HQ2.out.lt)).frozen 0
    have f1 := (HQ2.out.only HK.out (Nat.not_le.2 HQ2.out.lt)).frozen 1
    have f2 := (HQ2.out.only HK.out (Nat.not_le.2 HQ2.out.lt)).frozen 2
    have f3 := (HQ2.out.only HK.out (Nat.not_le.2 HQ2.out.lt)).frozen 3
    have f4 := (HQ2.out.only HK.out (Nat.not_le.2 HQ2.out.lt)).frozen 4
    have f5 := (HQ2.out.only HK.out (Nat.not_le.2 HQ2.out.lt)).frozen 5
    have f6 := (HQ2.out.only HK.out (Nat.not_le.2 HQ2.out.lt)).frozen 6
    have f7 := (HQ2.out.only HK.out (Nat.not_le.2 HQ2.out.lt)).frozen 7
    go_wp2_with (go_at_call 57; (with_reducible refine HCH.out.mono ?_); rintro e w5 ⟨g', ph', t', x', r', p', l', MA, mn, mc, h1, h2, rfl, hsm, ho⟩; have HM1 := Lib.hid h1; have HM2 := Lib.hid h2; have HSM := Lib.hid hsm; have HO5 := Lib.hid (on_new HK.out ho); clear h1 h2 hsm ho r0 r1 r2 r3 r4 r5 r6 r7 f0 f1 f2 f3 f4 f5 f6 f7; (obtain ⟨r0, r1, r2, r3, r4, r5, r6, r7⟩ := (HQ2.out.only HO5.out (Nat.not_le.2 HQ2.out.lt)).eight); have f0 := (HQ2.out.only HO5.out (Nat.not_le.2 HQ2.out.lt)).frozen 0; have f1 := (HQ2.out.only HO5.out (Nat.not_le.2 HQ2.out.lt)).frozen 1; have f2 := (HQ2.out.only HO5.out (Nat.not_le.2 HQ2.out.lt)).frozen 2; have f3 := (HQ2.out.only HO5.out (Nat.not_le.2 HQ2.out.lt)).frozen 3; have f4 := (HQ2.out.only HO5.out (Nat.not_le.2 HQ2.out.lt)).frozen 4; have f5 := (HQ2.out.only HO5.out (Nat.not_le.2 HQ2.out.lt)).frozen 5; have f6 := (HQ2.out.only HO5.out (Nat.not_le.2 HQ2.out.lt)).frozen 6; have f7 := (HQ2.out.only HO5.out (Nat.not_le.2 HQ2.out.lt)).frozen 7)
    have hk := rm_set (a' := (.int .i64 g')) (b' := (.int .i64 ph')) (c' := (.int .i64 t')) (d' := (.int .i64 x')) (e' := (.int .i64 r')) (f' := (.int .i64 p')) (g' := (.int .i64 l')) (h' := (.slice MA mn mc)) (HQ2.out.only HO5.out (Nat.not_le.2 HQ2.out.lt))
    refine bodyPost_ret (results_ctt rfl rfl (rload_meta hk.1)) rfl ?_
    rw [KE.out.1, KE.out.2]
    exact ⟨g', ph', t', x', r', p', l', MA, mn, mc, HM1.out, HM2.out, rfl, src_off HSM.out (HQ2.out.only HO5.out (Nat.not_le.2 HQ2.out.lt)) (by intro v hv x e; rw [e] at hv; simp at hv) hk.2, (on_new HO1.out HO5.out).trans (hk.2.mono fun k hk' => by have h2 : k = q2 := hk'; have h3 := HQN.out; omega)⟩
  · have h2 : 256 ≤ (bn : Int) := by omega
    have h3 : 512 ≤ (bn : Int) := by omega
    obtain ⟨g, rfl, _⟩ := HG.out (by omega)
    have h5 : bn ≤ c := src_capn HSI.out
    have h6 : (256 : Int) ≤ (c : Int) := by omega
    have h7 : 256 ≤ c := by omega
    have h8 : (512 : Int) ≤ (c : Int) := by omega
    have h9 : 512 ≤ c := by omega
    have h10 : ¬ c = 256 := by omega
    have HS0 := Lib.hid (src_cut HSI.out (q := 256) (by omega) (by omega))
    have HS1 := Lib.hid (src_part HSI.out (a := 256) (z := 512) (by omega) (by omega))
    have HCH := Lib.hid (rmChoose_c wk (.slice (some ⟨g, 0, none⟩) 256 c) (.slice (some ⟨g, 0 + 256, none⟩) (512 - 256) (c - 256)) _ _ HS0.out HS1.out)
    have KE : Hid (kpg0 (Dk.look B row) = (Dk.look B row).take 256 ∧ kpg1 (Dk.look B row) = ((Dk.look B row).drop 256).take (512 - 256)) := Lib.hid (⟨if_pos (by rw [HBL.out]; omega), if_pos (by rw [HBL.out]; omega)⟩)
    obtain ⟨r0, r1, r2, r3, r4, r5, r6, r7⟩ := (HQ2.out.only HK.out (Nat.not_le.2 HQ2.out.lt)).eight
    have f0 := (HQ2.out.only HK.out (Nat.not_le.2 HQ2.out.lt)).frozen 0
    have f1 := (HQ2.out.only HK.out (Nat.not_le.2 HQ2.out.lt)).frozen 1
    have f2 := (HQ2.out.only HK.out (Nat.not_le.2 HQ2.out.lt)).frozen 2
    have f3 := (HQ2.out.only HK.out (Nat.not_le.2 HQ2.out.lt)).frozen 3
    have f4 := (HQ2.out.only HK.out (Nat.not_le.2 HQ2.out.lt)).frozen 4
    have f5 := (HQ2.out.only HK.out (Nat.not_le.2 HQ2.out.lt)).frozen 5
    have f6 := (HQ2.out.only HK.out (Nat.not_le.2 HQ2.out.lt)).frozen 6
    have f7 := (HQ2.out.only HK.out (Nat.not_le.2 HQ2.out.lt)).frozen 7
    go_wp2_with (go_at_call 57; (with_reducible refine HCH.out.mono ?_); rintro e w5 ⟨g', ph', t', x', r', p', l', MA, mn, mc, h1, h2, rfl, hsm, ho⟩; have HM1 := Lib.hid h1; have HM2 := Lib.hid h2; have HSM := Lib.hid hsm; have HO5 := Lib.hid (on_new HK.out ho); clear h1 h2 hsm ho r0 r1 r2 r3 r4 r5 r6 r7 f0 f1 f2 f3 f4 f5 f6 f7; (obtain ⟨r0, r1, r2, r3, r4, r5, r6, r7⟩ := (HQ2.out.only HO5.out (Nat.not_le.2 HQ2.out.lt)).eight); have f0 := (HQ2.out.only HO5.out (Nat.not_le.2 HQ2.out.lt)).frozen 0; have f1 := (HQ2.out.only HO5.out (Nat.not_le.2 HQ2.out.lt)).frozen 1; have f2 := (HQ2.out.only HO5.out (Nat.not_le.2 HQ2.out.lt)).frozen 2; have f3 := (HQ2.out.only HO5.out (Nat.not_le.2 HQ2.out.lt)).frozen 3; have f4 := (HQ2.out.only HO5.out (Nat.not_le.2 HQ2.out.lt)).frozen 4; have f5 := (HQ2.out.only HO5.out (Nat.not_le.2 HQ2.out.lt)).frozen 5; have f6 := (HQ2.out.only HO5.out (Nat.not_le.2 HQ2.out.lt)).frozen 6; have f7 := (HQ2.out.only HO5.out (Nat.not_le.2 HQ2.out.lt)).frozen 7)
    have hk := rm_set (a' := (.int .i64 g')) (b' := (.int .i64 ph')) (c' := (.int .i64 t')) (d' := (.int .i64 x')) (e' := (.int .i64 r')) (f' := (.int .i64 p')) (g' := (.int .i64 l')) (h' := (.slice MA mn mc)) (HQ2.out.only HO5.out (Nat.not_le.2 HQ2.out.lt))
    refine bodyPost_ret (results_ctt rfl rfl (rload_meta hk.1)) rfl ?_
    rw [KE.out.1, KE.out.2]
    exact ⟨g', ph', t', x', r', p', l', MA, mn, mc, HM1.out, HM2.out, rfl, src_off HSM.out (HQ2.out.only HO5.out (Nat.not_le.2 HQ2.out.lt)) (by intro v hv x e; rw [e] at hv; simp at hv) hk.2, (on_new HO1.out HO5.out).trans (hk.2.mono fun k hk' => by have h2 : k = q2 := hk'; have h3 := HQN.out; omega)⟩
end Go.Proofs.YtopaponemjaenaaGreatDoor
