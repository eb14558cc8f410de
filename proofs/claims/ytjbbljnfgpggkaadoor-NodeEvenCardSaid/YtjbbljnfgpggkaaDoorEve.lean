/-
  NodeEven: the walk.
-/
import Derived.Test.YtjbbljnfgpggkaaDoorSem
import Derived.Test.YtjbbljnfgpggkaaDoorPts
import Derived.Test.YtjbbljnfgpggkaaDoorDoc
import Derived.RegionTactic
import Derived.BigRegion
import Derived.Deep.CutRange
set_option linter.unusedVariables false
namespace Go.Proofs.YtjbbljnfgpggkaaDoor
open Go.RowKit

theorem manys_take (k : Nat) (l : List Pt) : manys (l.take k) ≤ manys l := by
  have : manys l = manys (l.take k) + manys (l.drop k) := by
    unfold manys
    rw [← List.sum_append, ← List.map_append, List.take_append_drop]
  omega


theorem two_facts {g : Int} {key : Bytes} {x : Nd} {l : List Pt} (h : Cuts g key x l) (hp : Pure x) (hs : Small x) (h2 : l.length = 2) :
    ∃ (K : Nat) (u v s : Int) (y : Pt), l[0]? = some y ∧ y.2.its.length + y.2.kds.length = K ∧ 1 ≤ K ∧ K < many x ∧ u = pre (rms g x) K ∧ v = pre (rms g x) (K - 1) ∧ s = pre (rms g x) (many x) ∧
      0 ≤ u ∧ u ≤ 20000000 ∧ 0 ≤ v ∧ v ≤ 20000000 ∧ 0 ≤ s ∧ s ≤ 20000000 ∧ (2 * u < s → K + 1 = many x) ∧ (1 < K → 2 * v < s) := by
  match l, h2, h with
  | [p, q], _, h =>
    obtain ⟨K, hm, rfl, rfl⟩ := h.two
    obtain ⟨m1, m2, m3, m4⟩ := hm
    have hr := hs.rm g
    have e1 := (hs.each g).pre (by omega) K
    have e2 := (hs.each g).pre (by omega) (K - 1)
    have e3 : pre (rms g x) (many x) = nrm g x := by rw [← rms_length g x, pre_all]; rfl
    rw [rms_length] at m2 m4
    have hf : many (fstN K x) = K := many_fst (by omega)
    rw [(Pure.fst K x).many] at hf
    unfold nrm at hr e3
    refine ⟨K, _, _, _, _, rfl, hf, m1, m2, rfl, rfl, rfl, e1.1, by omega, e2.1, by omega, by omega, by omega, fun hu => ?_, fun hk => ?_⟩
    · rcases m4 with m4 | m4
      · omega
      · exact m4
    · have := m3 (K - 1) (by omega) (by omega)
      omega

set_option maxRecDepth 100000 in
set_option maxHeartbeats 12800000 in
theorem even_c (hal : ∀ W, Gens W → Calls Tryd.prog 7 #[] W (Told W (.bool true))) (w : World) (g : Int) (f : Bool) (A B : Option Addr) (n c m d : Nat) (x : Nd) (hN : Nod w x f (.slice A n c) (.slice B m d)) (hG : Gens w) :
    Calls Tryd.prog 5 #[.int .i64 g, .agg #[.bool f, .slice A n c, .slice B m d]] w (Told w (.bool true)) := by
  obtain ⟨W0, hW0⟩ : ∃ W0, W0 = w.alloc (.cells #[.bool f, .slice A n c, .slice B m d] 25) := ⟨_, rfl⟩
  have HO : Hid (Only (w.heap.size ≤ ·) w W0) := Lib.hid (by rw [hW0]; exact (Only.refl _ w).alloc (fun _ h => h) _)
  have HB : Hid (Blk W0 w.heap.size 25 [.bool f, .slice A n c, .slice B m d]) := Lib.hid (by rw [hW0]; exact Blk.new w 25 _)
  obtain ⟨b0, b1, b2⟩ := HB.out.tri
  have HN := Lib.hid hN
  have HAL : Hid (∀ W, Only (w.heap.size ≤ ·) w W → Calls Tryd.prog 7 #[] W (Told W (.bool true))) := Lib.hid fun W hW => hal W (hG.later hW)
  have HG := Lib.hid hG
  obtain ⟨q, hq⟩ : ∃ b : Bool, b = true ↔ Few x := ⟨@decide (Few x) (Classical.propDecidable _), @decide_eq_true_iff _ (Classical.propDecidable _)⟩
  have HF : Hid (∀ W, Only (w.heap.size ≤ ·) w W → Calls Tryd.prog 6 #[.agg #[.bool f, .slice A n c, .slice B m d]] W (Told W (.bool q))) := Lib.hid fun W hW => few_c W f A B n c m d x q hq (HN.out.later hW)
  have HQ := Lib.hid hq
  have hf := hN.1
  have hn := hN.2.1.len
  have hm := hN.2.2.len
  have hcn := hN.2.1.cap
  have hcm := hN.2.2.cap
  have HL := Lib.hid (And.intro hf (And.intro hn hm))
  clear hal hq hG hf hn hm
  go_enter Tryd.func5, Tryd.ntmps5
  go_upto_region 1 with (fail)
  rw [← hW0]
  have HW0 := Lib.hid hW0
  clear hW0
  cases q
  · go_wp2_with (first | (go_at_call 6; (with_reducible refine (HF.out _ HO.out).mono ?_); rintro ee W1 ⟨rfl, ho⟩; clear b0 b1 b2; (replace HO := Lib.hid (on_new HO.out ho)); (replace HB := Lib.hid (HB.out.later ho)); (obtain ⟨b0, b1, b2⟩ := HB.out.tri); clear ho) | (go_at_call 7; (with_reducible refine (HAL.out _ HO.out).mono ?_); rintro ee W9 ⟨rfl, ho⟩; clear b0 b1 b2; (replace HO := Lib.hid (on_new HO.out ho)); (replace HB := Lib.hid (HB.out.later ho)); (obtain ⟨b0, b1, b2⟩ := HB.out.tri); clear ho))
    go_ret
    exact ⟨rfl, HO.out⟩
  have HFW : Hid (Few x) := Lib.hid (HQ.out.1 rfl)
  clear HQ
  by_cases h1 : g < 1
  · go_wp2_with (first | (go_at_call 6; (with_reducible refine (HF.out _ HO.out).mono ?_); rintro ee W1 ⟨rfl, ho⟩; clear b0 b1 b2; (replace HO := Lib.hid (on_new HO.out ho)); (replace HB := Lib.hid (HB.out.later ho)); (obtain ⟨b0, b1, b2⟩ := HB.out.tri); clear ho) | (go_at_call 7; (with_reducible refine (HAL.out _ HO.out).mono ?_); rintro ee W9 ⟨rfl, ho⟩; clear b0 b1 b2; (replace HO := Lib.hid (on_new HO.out ho)); (replace HB := Lib.hid (HB.out.later ho)); (obtain ⟨b0, b1, b2⟩ := HB.out.tri); clear ho))
    go_ret
    exact ⟨rfl, HO.out⟩
  by_cases h3 : 3 < g
  · go_wp2_with (first | (go_at_call 6; (with_reducible refine (HF.out _ HO.out).mono ?_); rintro ee W1 ⟨rfl, ho⟩; clear b0 b1 b2; (replace HO := Lib.hid (on_new HO.out ho)); (replace HB := Lib.hid (HB.out.later ho)); (obtain ⟨b0, b1, b2⟩ := HB.out.tri); clear ho) | (go_at_call 7; (with_reducible refine (HAL.out _ HO.out).mono ?_); rintro ee W9 ⟨rfl, ho⟩; clear b0 b1 b2; (replace HO := Lib.hid (on_new HO.out ho)); (replace HB := Lib.hid (HB.out.later ho)); (obtain ⟨b0, b1, b2⟩ := HB.out.tri); clear ho))
    go_ret
    exact ⟨rfl, HO.out⟩
  cases f
  · by_cases h4 : 0 < n
    · have h4i : (0 : Int) < (n : Int) := by omega
      go_wp2_with (first | (go_at_call 6; (with_reducible refine (HF.out _ HO.out).mono ?_); rintro ee W1 ⟨rfl, ho⟩; clear b0 b1 b2; (replace HO := Lib.hid (on_new HO.out ho)); (replace HB := Lib.hid (HB.out.later ho)); (obtain ⟨b0, b1, b2⟩ := HB.out.tri); clear ho) | (go_at_call 7; (with_reducible refine (HAL.out _ HO.out).mono ?_); rintro ee W9 ⟨rfl, ho⟩; clear b0 b1 b2; (replace HO := Lib.hid (on_new HO.out ho)); (replace HB := Lib.hid (HB.out.later ho)); (obtain ⟨b0, b1, b2⟩ := HB.out.tri); clear ho))
      go_ret
      exact ⟨rfl, HO.out⟩
    obtain rfl : n = 0 := by omega
    by_cases h5 : 0 < m
    · have h5i : (0 : Int) < (m : Int) := by omega
      obtain ⟨kb, ko, y, P, p, rfl, hkb, hy, k0, _, _⟩ := kds_at HN.out.2.2 (k := 0) h5
      have HK : Hid (∀ W, Only (w.heap.size ≤ ·) w W → W.cell? ⟨kb, ko, none⟩ = some (.slice P y.1.length p)) := Lib.hid fun W hW => (hW.cell (p := ⟨kb, ko, none⟩) (Nat.not_le.2 hkb)).trans (by simpa using k0)
      clear k0 hkb hy
      by_cases h6 : 0 < y.1.length
      · have h6i : (0 : Int) < (y.1.length : Int) := by omega
        have h0 := HK.out _ HO.out
        go_wp2_with (first | (go_at_call 6; (with_reducible refine (HF.out _ HO.out).mono ?_); rintro ee W1 ⟨rfl, ho⟩; clear b0 b1 b2; (replace HO := Lib.hid (on_new HO.out ho)); (replace HB := Lib.hid (HB.out.later ho)); (obtain ⟨b0, b1, b2⟩ := HB.out.tri); clear ho; clear h0; have h0 := HK.out _ HO.out) | (go_at_call 7; (with_reducible refine (HAL.out _ HO.out).mono ?_); rintro ee W9 ⟨rfl, ho⟩; clear b0 b1 b2; (replace HO := Lib.hid (on_new HO.out ho)); (replace HB := Lib.hid (HB.out.later ho)); (obtain ⟨b0, b1, b2⟩ := HB.out.tri); clear ho))
        go_ret
        exact ⟨rfl, HO.out⟩
      · have h6i : ¬ (0 : Int) < (y.1.length : Int) := by omega
        have h0 := HK.out _ HO.out
        go_upto_region 3 with ((go_at_call 6; (with_reducible refine (HF.out _ HO.out).mono ?_); rintro ee W1 ⟨rfl, ho⟩; clear b0 b1 b2; (replace HO := Lib.hid (on_new HO.out ho)); (replace HB := Lib.hid (HB.out.later ho)); (obtain ⟨b0, b1, b2⟩ := HB.out.tri); clear ho; clear h0; have h0 := HK.out _ HO.out))
        clear h0
        have HSM := Lib.hid HFW.out.small
        have HPU : Hid (Pure x) := Lib.hid (by
          have h := HL.out
          unfold Pure
          rw [← h.1]
          first | exact List.eq_nil_of_length_eq_zero h.2.2.symm | exact List.eq_nil_of_length_eq_zero h.2.1.symm)
        have HM60 : Hid (many x ≤ 120) := Lib.hid (by have h := HFW.out; rw [HPU.out.many]; have := h.1; have := h.2.1; omega)
        go_upto_region 4 with (first
          | (go_at_call 8; (with_reducible refine (NOf_c _ _ _ _ _ _ _ _ x (HN.out.later HO.out) HSM.out).mono ?_); rintro ee W2 ⟨QA, qn, qc, QB, qm, qd, rfl, hn2, ho⟩; have HN2 := Lib.hid hn2; clear hn2 b0 b1 b2; (replace HO := Lib.hid (on_new HO.out ho)); (replace HB := Lib.hid (HB.out.later ho)); (obtain ⟨b0, b1, b2⟩ := HB.out.tri); clear ho)
          | (go_at_call 9; (with_reducible refine (Parts_n _ _ _ _ _ _ _ _ x g HN2.out (HG.out.later HO.out) HSM.out).mono ?_); rintro ee W3 ⟨PA, pn, pc, l, rfl, hcu, hpt, ho⟩; have HCU := Lib.hid hcu; have HP := Lib.hid hpt; clear hpt hcu b0 b1 b2; (replace HO := Lib.hid (on_new HO.out ho)); (replace HB := Lib.hid (HB.out.later ho)); (obtain ⟨b0, b1, b2⟩ := HB.out.tri); clear ho))
        obtain rfl : pn = l.length := HP.out.len
        have hpc := HP.out.cap
        have HLE : Hid (l.length ≤ 120) := Lib.hid (by have := HCU.out.most; have := HM60.out; omega)
        have hl120 := HLE.out
        have HS0 : Hid (Only (W3.heap.size ≤ ·) W3 W3) := Lib.hid (Only.refl _ W3)
        clear b0 b1 b2
        go_wp2
        go_loopw [6, 66] (fun s i wr => ∃ (k t : Nat), k ≤ l.length ∧ i = .int .i64 k ∧ s = .int .i64 t ∧ Hid (t = manys (l.take k)) ∧ Hid (Only (W3.heap.size ≤ ·) W3 wr)) (fun s i _ => l.length - (intOf i).toNat)
        case atStart => exact ⟨0, 0, Nat.zero_le _, rfl, rfl, Lib.hid rfl, HS0⟩
        case round =>
          obtain ⟨k, t, hk, rfl, rfl, HT, HU⟩ := hrel
          by_cases hlt : k < l.length
          · have hlti : (k : Int) < (l.length : Int) := by omega
            obtain ⟨pb, po, y, P1, Q1, R1, p1, q1, r1, rfl, hpb, hy, c0, c1, c2, c3, _, _⟩ := pts_at (HP.out.later HU.out) hlt
            obtain ⟨my, hmy⟩ : ∃ my, my = many y.2 := ⟨_, rfl⟩
            have hyl : y ∈ l := List.mem_of_getElem? hy
            have hpu := HCU.out.pures HPU.out y hyl
            have hms : my = y.2.its.length + y.2.kds.length := by rw [hmy]; exact hpu.many
            have hlf : y.2.leaf = _ := (HCU.out.leaf y hyl).trans HL.out.1.symm
            have hfull : 1 < l.length → my ≠ 0 := fun h => by have := HCU.out.full (by have := HCU.out.long h; omega) y hyl; omega
            have hbd : t + my ≤ 120 ∧ t + my = manys (l.take (k + 1)) := by
              have e1 : manys (l.take (k + 1)) = manys (l.take k) + many y.2 := by unfold manys; rw [List.take_add_one, hy]; simp
              have e2 := manys_take (k + 1) l
              have e3 := HCU.out.manys
              have := HM60.out
              have := HT.out
              omega
            have hw1 : IntKind.i64.wrap ((y.2.its.length : Int) + (y.2.kds.length : Int)) = (my : Int) := by rw [IntWalk.i64_in _ (by omega)]; omega
            have hw2 : IntKind.i64.wrap ((t : Int) + (my : Int)) = ((t + my : Nat) : Int) := by rw [IntWalk.i64_in _ (by omega)]; omega
            have HT1 := Lib.hid hbd.2
            have HU1 : Hid (Only (W3.heap.size ≤ ·) W3 (wr.alloc (.cells #[.slice P1 y.1.length p1, .bool y.2.leaf, .slice Q1 y.2.its.length q1, .slice R1 y.2.kds.length r1] 41))) := Lib.hid (HU.out.alloc (fun _ h => h) _)
            obtain ⟨b0, b1, b2⟩ := ((HB.out.later HU.out).alloc (.cells #[.slice P1 y.1.length p1, .bool y.2.leaf, .slice Q1 y.2.its.length q1, .slice R1 y.2.kds.length r1] 41)).tri
            rw [hlf] at c1 HU1 b0 b1 b2
            by_cases hl1 : 1 < l.length
            · have hl1i : (1 : Int) < (l.length : Int) := by omega
              have hm0 := hfull hl1
              have hm0i : ((my : Int) == 0) = false := by simp; omega
              clear hfull hbd hms hpu hmy hyl hy hlf
              go_wp2
              go_roundw
              case rel => exact ⟨k + 1, t + my, by omega, by go_num, by go_num, HT1, HU1⟩
              case measure => simp [intOf]; omega
            · have hl1i : ¬ (1 : Int) < (l.length : Int) := by omega
              clear hfull hbd hms hpu hmy hyl hy hlf
              go_wp2
              go_roundw
              case rel => exact ⟨k + 1, t + my, by omega, by go_num, by go_num, HT1, HU1⟩
              case measure => simp [intOf]; omega
          · obtain rfl : k = l.length := by omega
            have HTT : Hid (t = many x) := Lib.hid (by have h := HT.out; rw [List.take_length] at h; rw [h]; exact HCU.out.manys)
            by_cases hl2 : l.length = 2
            · have hl2i : ((l.length : Int) == 2) = true := by simp; omega
              obtain ⟨K, u, v, t2, y, hy0, hky, hK1, hKm, hu, hv, hs2, u1, u2, v1, v2, s1, s2, huk, hvk⟩ := two_facts HCU.out HPU.out HSM.out hl2
              obtain ⟨pb, po, y', P1, Q1, R1, p1, q1, r1, rfl, hpb, hy, c0, c1, c2, c3, _, _⟩ := pts_at (HP.out.later HU.out) (k := 0) (by omega)
              obtain rfl : y = y' := Option.some.inj (hy0.symm.trans hy)
              obtain ⟨a1, ha1⟩ : ∃ a, a = y.2.its.length := ⟨_, rfl⟩
              obtain ⟨a2, ha2⟩ : ∃ a, a = y.2.kds.length := ⟨_, rfl⟩
              obtain ⟨mx, hmx⟩ : ∃ a, a = many x := ⟨_, rfl⟩
              rw [← ha1] at c2 hky
              rw [← ha2] at c3 hky
              rw [← hmx] at hKm hs2 huk
              have hmm : mx ≤ 120 := by have := HM60.out; omega
              have HB9 := Lib.hid (HB.out.later HU.out)
              have HO9 : Hid (Only (w.heap.size ≤ ·) w wr) := Lib.hid (on_new HO.out HU.out)
              have HDM : Hid (∀ W, Only (w.heap.size ≤ ·) w W → Calls Tryd.prog 22 #[.agg #[.bool false, .slice A 0 c, .slice (some ⟨kb, ko, none⟩) m d]] W (Told W (.int .i64 (mx : Nat)))) := Lib.hid fun W hW => hmx ▸ DMany_c _ _ _ _ _ _ _ _ _ (HN.out.later hW)
              have HDN : Hid (∀ W, Only (w.heap.size ≤ ·) w W → Calls Tryd.prog 21 #[.int .i64 g, .agg #[.bool false, .slice A 0 c, .slice (some ⟨kb, ko, none⟩) m d], .int .i64 (mx : Nat)] W (Told W (.int .i64 t2))) := Lib.hid fun W hW => hs2 ▸ DRoom_c _ _ _ _ _ _ _ _ _ g mx (HN.out.later hW) HSM.out (by omega)
              have HDK : Hid (∀ W, Only (w.heap.size ≤ ·) w W → Calls Tryd.prog 21 #[.int .i64 g, .agg #[.bool false, .slice A 0 c, .slice (some ⟨kb, ko, none⟩) m d], .int .i64 (K : Nat)] W (Told W (.int .i64 u))) := Lib.hid fun W hW => hu ▸ DRoom_c _ _ _ _ _ _ _ _ _ g K (HN.out.later hW) HSM.out (by omega)
              have HDJ : Hid (∀ W, Only (w.heap.size ≤ ·) w W → Calls Tryd.prog 21 #[.int .i64 g, .agg #[.bool false, .slice A 0 c, .slice (some ⟨kb, ko, none⟩) m d], .int .i64 (K - 1 : Nat)] W (Told W (.int .i64 v))) := Lib.hid fun W hW => hv ▸ DRoom_c _ _ _ _ _ _ _ _ _ g (K - 1) (HN.out.later hW) HSM.out (by omega)
              have HYS : Hid (a1 + a2 = K ∧ t = mx) := Lib.hid ⟨hky, by rw [hmx]; exact HTT.out⟩
              have hw1 : IntKind.i64.wrap ((a1 : Int) + (a2 : Int)) = (K : Int) := by rw [IntWalk.i64_in _ (by omega)]; omega
              have hw2 : IntKind.i64.wrap (2 * u) = 2 * u := IntWalk.i64_in _ (by omega)
              have hw3 : IntKind.i64.wrap (2 * v) = 2 * v := IntWalk.i64_in _ (by omega)
              have hw4 : IntKind.i64.wrap ((mx : Int) - 1) = (mx : Int) - 1 := IntWalk.i64_in _ (by omega)
              have HBD : Hid ((1 : Nat) ≤ K ∧ K < mx ∧ (2 * u < t2 → K + 1 = mx) ∧ (1 < K → 2 * v < t2)) := Lib.hid ⟨hK1, hKm, huk, hvk⟩
              have hl0 : (0 : Int) < (l.length : Int) := by omega
              simp only [Nat.zero_mul, Nat.add_zero] at c0 c1 c2 c3
              clear hmx hy hy0 hky ha1 ha2 hu hv hs2 u1 u2 v1 v2 s1 s2 huk hvk hK1 hKm
              have KC : Hid (∀ W, Only (wr.heap.size ≤ ·) wr W → W.cell? ⟨pb, po + 2, none⟩ = some (.slice Q1 a1 q1) ∧ W.cell? ⟨pb, po + 3, none⟩ = some (.slice R1 a2 r1)) := Lib.hid fun W hW => ⟨(hW.cell (p := ⟨pb, po + 2, none⟩) (Nat.not_le.2 hpb)).trans c2, (hW.cell (p := ⟨pb, po + 3, none⟩) (Nat.not_le.2 hpb)).trans c3⟩
              have KB : Hid (∀ W, Only (wr.heap.size ≤ ·) wr W → W.cell? ⟨w.heap.size, 0, none⟩ = some (.bool false) ∧ W.cell? ⟨w.heap.size, 1, none⟩ = some (.slice A 0 c) ∧ W.cell? ⟨w.heap.size, 2, none⟩ = some (.slice (some ⟨kb, ko, none⟩) m d)) := Lib.hid fun W hW => (HB9.out.later hW).tri
              have HOZ : Hid (Only (wr.heap.size ≤ ·) wr wr.drew) := Lib.hid (Only.refl _ wr).drew
              clear hpb c0 c1 c2 c3
              go_wp2_with (fail)
              refine wp_region_held_drew (S := (fun W => W.cell? ⟨pb, po + 2, none⟩ = some (.slice Q1 a1 q1) ∧ W.cell? ⟨pb, po + 3, none⟩ = some (.slice R1 a2 r1))) (by kernel_rfl) (KC.out _ HOZ.out) (fun hHeld => ?_)
              refine take_one (i := 0) (d := 101) (oi := ?_) (v := ?_) ?_ (by kernel_rfl) (by kernel_rfl) (by kernel_rfl) (fun _ _ _ h => h) ?_ ?_ ?_ (by assumption) ?_
              case refine_3 => (simp only [List.getElem?_toArray, List.getElem?_cons_zero]; rfl)
              case refine_4 => rfl
              case refine_5 => rfl
              case refine_6 => (intro w' hSw; (try dsimp only at hSw); go_simp; (try with_reducible rfl))
              simp only [Act.put, List.setIfInBounds_toArray, List.set_cons_zero, List.set_cons_succ]
              refine take_one (i := 1) (d := 102) (oi := ?_) (v := ?_) ?_ (by kernel_rfl) (by kernel_rfl) (by kernel_rfl) (fun _ _ _ h => h) ?_ ?_ ?_ (by assumption) ?_
              case refine_3 => (simp only [List.getElem?_toArray, List.getElem?_cons_succ, List.getElem?_cons_zero]; rfl)
              case refine_4 => rfl
              case refine_5 => rfl
              case refine_6 => (intro w' hSw; (try dsimp only at hSw); go_simp; (try with_reducible rfl))
              simp only [Act.put, List.setIfInBounds_toArray, List.set_cons_zero, List.set_cons_succ]
              refine take_one (i := 2) (d := 103) (oi := ?_) (v := ?_) ?_ (by kernel_rfl) (by kernel_rfl) (by kernel_rfl) (fun _ _ _ h => h) ?_ ?_ ?_ (by assumption) ?_
              case refine_3 => (simp only [List.getElem?_toArray, List.getElem?_cons_succ, List.getElem?_cons_zero]; rfl)
              case refine_4 => rfl
              case refine_5 => rfl
              case refine_6 => (intro w' hSw; (try dsimp only at hSw); go_simp; (try with_reducible rfl))
              simp only [Act.put, List.setIfInBounds_toArray, List.set_cons_zero, List.set_cons_succ]
              refine take_one (i := 3) (d := 104) (oi := ?_) (v := ?_) ?_ (by kernel_rfl) (by kernel_rfl) (by kernel_rfl) (fun _ _ _ h => h) ?_ ?_ ?_ (by assumption) ?_
              case refine_3 => (simp only [List.getElem?_toArray, List.getElem?_cons_succ, List.getElem?_cons_zero]; rfl)
              case refine_4 => rfl
              case refine_5 => rfl
              case refine_6 => (intro w' hSw; (try dsimp only at hSw); go_simp; (try with_reducible rfl))
              simp only [Act.put, List.setIfInBounds_toArray, List.set_cons_zero, List.set_cons_succ]
              refine take_one (i := 4) (d := 105) (oi := ?_) (v := ?_) ?_ (by kernel_rfl) (by kernel_rfl) (by kernel_rfl) (fun _ _ _ h => h) ?_ ?_ ?_ (by assumption) ?_
              case refine_3 => (simp only [List.getElem?_toArray, List.getElem?_cons_succ, List.getElem?_cons_zero]; rfl)
              case refine_4 => rfl
              case refine_5 => rfl
              case refine_6 => (intro w' hSw; (try dsimp only at hSw); go_simp; (try with_reducible rfl))
              simp only [Act.put, List.setIfInBounds_toArray, List.set_cons_zero, List.set_cons_succ]
              refine take_one (i := 5) (d := 106) (oi := ?_) (v := ?_) ?_ (by kernel_rfl) (by kernel_rfl) (by kernel_rfl) (fun _ _ _ h => h) ?_ ?_ ?_ (by assumption) ?_
              case refine_3 => (simp only [List.getElem?_toArray, List.getElem?_cons_succ, List.getElem?_cons_zero]; rfl)
              case refine_4 => rfl
              case refine_5 => rfl
              case refine_6 => (intro w' hSw; (try dsimp only at hSw); go_simp; (try with_reducible rfl))
              simp only [Act.put, List.setIfInBounds_toArray, List.set_cons_zero, List.set_cons_succ]
              refine take_one (i := 6) (d := 107) (oi := ?_) (v := ?_) ?_ (by kernel_rfl) (by kernel_rfl) (by kernel_rfl) (fun _ _ _ h => h) ?_ ?_ ?_ (by assumption) ?_
              case refine_3 => (simp only [List.getElem?_toArray, List.getElem?_cons_succ, List.getElem?_cons_zero]; rfl)
              case refine_4 => rfl
              case refine_5 => rfl
              case refine_6 => (intro w' hSw; (try dsimp only at hSw); go_simp; (try with_reducible rfl))
              simp only [Act.put, List.setIfInBounds_toArray, List.set_cons_zero, List.set_cons_succ]
              refine take_one (i := 7) (d := 108) (oi := ?_) (v := ?_) ?_ (by kernel_rfl) (by kernel_rfl) (by kernel_rfl) (fun _ _ _ h => h) ?_ ?_ ?_ (by assumption) ?_
              case refine_3 => (simp only [List.getElem?_toArray, List.getElem?_cons_succ, List.getElem?_cons_zero]; rfl)
              case refine_4 => rfl
              case refine_5 => rfl
              case refine_6 => (intro w' hSw; (try dsimp only at hSw); go_simp; (try with_reducible rfl))
              simp only [Act.put, List.setIfInBounds_toArray, List.set_cons_zero, List.set_cons_succ]
              refine take_one (i := 8) (d := 109) (oi := ?_) (v := ?_) ?_ (by kernel_rfl) (by kernel_rfl) (by kernel_rfl) (fun _ _ _ h => h) ?_ ?_ ?_ (by assumption) ?_
              case refine_3 => (simp only [List.getElem?_toArray, List.getElem?_cons_succ, List.getElem?_cons_zero]; rfl)
              case refine_4 => rfl
              case refine_5 => rfl
              case refine_6 => (intro w' hSw; (try dsimp only at hSw); go_simp; (try with_reducible rfl))
              simp only [Act.put, List.setIfInBounds_toArray, List.set_cons_zero, List.set_cons_succ]
              refine take_one (i := 9) (d := 110) (oi := ?_) (v := ?_) ?_ (by kernel_rfl) (by kernel_rfl) (by kernel_rfl) (fun _ _ _ h => h) ?_ ?_ ?_ (by assumption) ?_
              case refine_3 => (simp only [List.getElem?_toArray, List.getElem?_cons_succ, List.getElem?_cons_zero]; rfl)
              case refine_4 => rfl
              case refine_5 => rfl
              case refine_6 => (intro w' hSw; (try dsimp only at hSw); go_simp; (try with_reducible rfl))
              simp only [Act.put, List.setIfInBounds_toArray, List.set_cons_zero, List.set_cons_succ]
              refine take_one (i := 10) (d := 111) (oi := ?_) (v := ?_) ?_ (by kernel_rfl) (by kernel_rfl) (by kernel_rfl) (fun _ _ _ h => h) ?_ ?_ ?_ (by assumption) ?_
              case refine_3 => (simp only [List.getElem?_toArray, List.getElem?_cons_succ, List.getElem?_cons_zero]; rfl)
              case refine_4 => rfl
              case refine_5 => rfl
              case refine_6 => (intro w' hSw; (try dsimp only at hSw); go_simp; (try with_reducible rfl))
              simp only [Act.put, List.setIfInBounds_toArray, List.set_cons_zero, List.set_cons_succ]
              refine take_one (i := 11) (d := 112) (oi := ?_) (v := ?_) ?_ (by kernel_rfl) (by kernel_rfl) (by kernel_rfl) (fun _ _ _ h => h) ?_ ?_ ?_ (by assumption) ?_
              case refine_3 => (simp only [List.getElem?_toArray, List.getElem?_cons_succ, List.getElem?_cons_zero]; rfl)
              case refine_4 => rfl
              case refine_5 => rfl
              case refine_6 => (intro w' hSw; (try dsimp only at hSw); go_simp; (try with_reducible rfl))
              simp only [Act.put, List.setIfInBounds_toArray, List.set_cons_zero, List.set_cons_succ]
              refine take_one (i := 12) (d := 113) (oi := ?_) (v := ?_) ?_ (by kernel_rfl) (by kernel_rfl) (by kernel_rfl) (fun _ _ _ h => h) ?_ ?_ ?_ (by assumption) ?_
              case refine_3 => (simp only [List.getElem?_toArray, List.getElem?_cons_succ, List.getElem?_cons_zero]; rfl)
              case refine_4 => rfl
              case refine_5 => rfl
              case refine_6 => (intro w' hSw; (try dsimp only at hSw); go_simp; (try with_reducible rfl))
              simp only [Act.put, List.setIfInBounds_toArray, List.set_cons_zero, List.set_cons_succ]
              refine take_one (i := 13) (d := 10) (oi := ?_) (v := ?_) ?_ (by kernel_rfl) (by kernel_rfl) (by kernel_rfl) (fun _ _ _ h => h) ?_ ?_ ?_ (by assumption) ?_
              case refine_3 => (simp only [List.getElem?_toArray, List.getElem?_cons_succ, List.getElem?_cons_zero]; rfl)
              case refine_4 => rfl
              case refine_5 => rfl
              case refine_6 => (intro w' hSw; (try dsimp only at hSw); go_simp; (try with_reducible rfl))
              simp only [Act.put, List.setIfInBounds_toArray, List.set_cons_zero, List.set_cons_succ]
              refine wpAnyH_done (by kernel_rfl) ?_ _
              clear KC
              go_wp2_with (fail)
              replace HOZ : Hid (Only (wr.heap.size ≤ ·) wr wr.drew.drew) := Lib.hid HOZ.out.drew
              refine wp_region_held_drew (S := (fun W => W.cell? ⟨w.heap.size, 0, none⟩ = some (.bool false) ∧ W.cell? ⟨w.heap.size, 1, none⟩ = some (.slice A 0 c) ∧ W.cell? ⟨w.heap.size, 2, none⟩ = some (.slice (some ⟨kb, ko, none⟩) m d))) (by kernel_rfl) (KB.out _ HOZ.out) (fun hHeld => ?_)
              obtain ⟨wz, hwz⟩ : ∃ wz, wz = wr.drew.drew := ⟨_, rfl⟩
              rw [← hwz] at HOZ hHeld
              rw [← hwz]
              clear hwz
              refine take_one (i := 0) (d := 114) (oi := ?_) (v := ?_) ?_ (by kernel_rfl) (by kernel_rfl) (by kernel_rfl) (fun _ _ _ h => h) ?_ ?_ ?_ (by assumption) ?_
              case refine_3 => (simp only [List.getElem?_toArray, List.getElem?_cons_zero]; rfl)
              case refine_4 => rfl
              case refine_5 => rfl
              case refine_6 => (intro w' hSw; (try dsimp only at hSw); go_simp; (try with_reducible rfl))
              simp only [Act.put, List.setIfInBounds_toArray, List.set_cons_zero, List.set_cons_succ]
              refine take_one (i := 1) (d := 115) (oi := ?_) (v := ?_) ?_ (by kernel_rfl) (by kernel_rfl) (by kernel_rfl) (fun _ _ _ h => h) ?_ ?_ ?_ (by assumption) ?_
              case refine_3 => (simp only [List.getElem?_toArray, List.getElem?_cons_succ, List.getElem?_cons_zero]; rfl)
              case refine_4 => rfl
              case refine_5 => rfl
              case refine_6 => (intro w' hSw; (try dsimp only at hSw); go_simp; (try with_reducible rfl))
              simp only [Act.put, List.setIfInBounds_toArray, List.set_cons_zero, List.set_cons_succ]
              refine take_one (i := 2) (d := 116) (oi := ?_) (v := ?_) ?_ (by kernel_rfl) (by kernel_rfl) (by kernel_rfl) (fun _ _ _ h => h) ?_ ?_ ?_ (by assumption) ?_
              case refine_3 => (simp only [List.getElem?_toArray, List.getElem?_cons_succ, List.getElem?_cons_zero]; rfl)
              case refine_4 => rfl
              case refine_5 => rfl
              case refine_6 => (intro w' hSw; (try dsimp only at hSw); go_simp; (try with_reducible rfl))
              simp only [Act.put, List.setIfInBounds_toArray, List.set_cons_zero, List.set_cons_succ]
              refine wpAnyH_ready (rs := [3]) (by kernel_rfl) (by simp) ?_
              refine AllReadyH.cons (o := ?_) ?_ (fun K hK => ?_) AllReadyH.nil
              case refine_2 => (simp only [List.getElem?_toArray, List.getElem?_cons_succ, List.getElem?_cons_zero]; rfl)
              go_simp
              (go_at_call 22; (with_reducible refine (HDM.out _ (on_new HO9.out HOZ.out)).mono ?_); rintro ee w7 ⟨rfl, ho⟩; (replace HOZ := Lib.hid (on_new HOZ.out ho)); clear ho)
              go_wp2_with (fail)
              refine hK.out _ _ (KB.out _ HOZ.out) (fun hHeld => ?_)
              clear hK K
              try simp only [Act.put, List.setIfInBounds_toArray, List.set_cons_zero, List.set_cons_succ]
              refine wpAnyH_ready (rs := [4]) (by kernel_rfl) (by simp) ?_
              refine AllReadyH.cons (o := ?_) ?_ (fun K hK => ?_) AllReadyH.nil
              case refine_2 => (simp only [List.getElem?_toArray, List.getElem?_cons_succ, List.getElem?_cons_zero]; rfl)
              go_simp
              (go_at_call 21; (with_reducible refine (HDN.out _ (on_new HO9.out HOZ.out)).mono ?_); rintro ee w8 ⟨rfl, ho⟩; (replace HOZ := Lib.hid (on_new HOZ.out ho)); clear ho)
              go_wp2_with (fail)
              refine hK.out _ _ (KB.out _ HOZ.out) (fun hHeld => ?_)
              clear hK K
              try simp only [Act.put, List.setIfInBounds_toArray, List.set_cons_zero, List.set_cons_succ]
              refine take_one (i := 5) (d := 11) (oi := ?_) (v := ?_) ?_ (by kernel_rfl) (by kernel_rfl) (by kernel_rfl) (fun _ _ _ h => h) ?_ ?_ ?_ (by assumption) ?_
              case refine_3 => (simp only [List.getElem?_toArray, List.getElem?_cons_succ, List.getElem?_cons_zero]; rfl)
              case refine_4 => rfl
              case refine_5 => rfl
              case refine_6 => (intro w' hSw; (try dsimp only at hSw); go_simp; (try with_reducible rfl))
              simp only [Act.put, List.setIfInBounds_toArray, List.set_cons_zero, List.set_cons_succ]
              refine wpAnyH_done (by kernel_rfl) ?_ _
              clear hHeld
              obtain ⟨b0, b1, b2⟩ := KB.out _ HOZ.out
              replace HO9 := Lib.hid (on_new HO9.out HOZ.out)
              replace HB9 := Lib.hid (HB9.out.later HOZ.out)
              clear KB HOZ
              obtain rfl : t = mx := HYS.out.2
              clear HTT HT HYS hw1
              by_cases hx1 : 2 * u < t2
              · have hkm : ¬ (K : Int) < (t : Int) - 1 := by have := HBD.out; have := this.2.2.1 hx1; omega
                by_cases hx2 : 1 < K
                · have hx2i : (1 : Int) < (K : Int) := by omega
                  have hx3 : ¬ t2 ≤ 2 * v := by have := HBD.out.2.2.2 hx2; omega
                  have hw5 : IntKind.i64.wrap ((K : Int) - 1) = ((K - 1 : Nat) : Int) := by have := HBD.out.2.1; rw [IntWalk.i64_in _ (by omega)]; omega
                  clear hl2 hx2
                  go_wp2_with (first
                    | (go_at_call 7; (with_reducible refine (HAL.out _ HO9.out).mono ?_); rintro ee W9 ⟨rfl, ho⟩; (replace HO9 := Lib.hid (on_new HO9.out ho)); (replace HB9 := Lib.hid (HB9.out.later ho)); clear b0 b1 b2; (obtain ⟨b0, b1, b2⟩ := HB9.out.tri); clear ho)
                    | (go_at_call 22; (with_reducible refine (HDM.out _ HO9.out).mono ?_); rintro ee W9 ⟨rfl, ho⟩; (replace HO9 := Lib.hid (on_new HO9.out ho)); (replace HB9 := Lib.hid (HB9.out.later ho)); clear b0 b1 b2; (obtain ⟨b0, b1, b2⟩ := HB9.out.tri); clear ho)
                    | (go_at_call 21; (with_reducible refine (HDK.out _ HO9.out).mono ?_); rintro ee W9 ⟨rfl, ho⟩; (replace HO9 := Lib.hid (on_new HO9.out ho)); (replace HB9 := Lib.hid (HB9.out.later ho)); clear b0 b1 b2; (obtain ⟨b0, b1, b2⟩ := HB9.out.tri); clear ho)
                    | (go_at_call 21; (with_reducible refine (HDJ.out _ HO9.out).mono ?_); rintro ee W9 ⟨rfl, ho⟩; (replace HO9 := Lib.hid (on_new HO9.out ho)); (replace HB9 := Lib.hid (HB9.out.later ho)); clear b0 b1 b2; (obtain ⟨b0, b1, b2⟩ := HB9.out.tri); clear ho))
                  go_ret
                  exact ⟨by simp, HO9.out⟩
                · have hx2i : ¬ (1 : Int) < (K : Int) := by omega
                  clear hl2 hx2
                  go_wp2_with (first
                    | (go_at_call 7; (with_reducible refine (HAL.out _ HO9.out).mono ?_); rintro ee W9 ⟨rfl, ho⟩; (replace HO9 := Lib.hid (on_new HO9.out ho)); (replace HB9 := Lib.hid (HB9.out.later ho)); clear b0 b1 b2; (obtain ⟨b0, b1, b2⟩ := HB9.out.tri); clear ho)
                    | (go_at_call 22; (with_reducible refine (HDM.out _ HO9.out).mono ?_); rintro ee W9 ⟨rfl, ho⟩; (replace HO9 := Lib.hid (on_new HO9.out ho)); (replace HB9 := Lib.hid (HB9.out.later ho)); clear b0 b1 b2; (obtain ⟨b0, b1, b2⟩ := HB9.out.tri); clear ho)
                    | (go_at_call 21; (with_reducible refine (HDK.out _ HO9.out).mono ?_); rintro ee W9 ⟨rfl, ho⟩; (replace HO9 := Lib.hid (on_new HO9.out ho)); (replace HB9 := Lib.hid (HB9.out.later ho)); clear b0 b1 b2; (obtain ⟨b0, b1, b2⟩ := HB9.out.tri); clear ho)
                    | (go_at_call 21; (with_reducible refine (HDJ.out _ HO9.out).mono ?_); rintro ee W9 ⟨rfl, ho⟩; (replace HO9 := Lib.hid (on_new HO9.out ho)); (replace HB9 := Lib.hid (HB9.out.later ho)); clear b0 b1 b2; (obtain ⟨b0, b1, b2⟩ := HB9.out.tri); clear ho))
                  go_ret
                  exact ⟨by simp, HO9.out⟩
              · by_cases hx2 : 1 < K
                · have hx2i : (1 : Int) < (K : Int) := by omega
                  have hx3 : ¬ t2 ≤ 2 * v := by have := HBD.out.2.2.2 hx2; omega
                  have hw5 : IntKind.i64.wrap ((K : Int) - 1) = ((K - 1 : Nat) : Int) := by have := HBD.out.2.1; rw [IntWalk.i64_in _ (by omega)]; omega
                  clear hl2 hx2
                  go_wp2_with (first
                    | (go_at_call 7; (with_reducible refine (HAL.out _ HO9.out).mono ?_); rintro ee W9 ⟨rfl, ho⟩; (replace HO9 := Lib.hid (on_new HO9.out ho)); (replace HB9 := Lib.hid (HB9.out.later ho)); clear b0 b1 b2; (obtain ⟨b0, b1, b2⟩ := HB9.out.tri); clear ho)
                    | (go_at_call 22; (with_reducible refine (HDM.out _ HO9.out).mono ?_); rintro ee W9 ⟨rfl, ho⟩; (replace HO9 := Lib.hid (on_new HO9.out ho)); (replace HB9 := Lib.hid (HB9.out.later ho)); clear b0 b1 b2; (obtain ⟨b0, b1, b2⟩ := HB9.out.tri); clear ho)
                    | (go_at_call 21; (with_reducible refine (HDK.out _ HO9.out).mono ?_); rintro ee W9 ⟨rfl, ho⟩; (replace HO9 := Lib.hid (on_new HO9.out ho)); (replace HB9 := Lib.hid (HB9.out.later ho)); clear b0 b1 b2; (obtain ⟨b0, b1, b2⟩ := HB9.out.tri); clear ho)
                    | (go_at_call 21; (with_reducible refine (HDJ.out _ HO9.out).mono ?_); rintro ee W9 ⟨rfl, ho⟩; (replace HO9 := Lib.hid (on_new HO9.out ho)); (replace HB9 := Lib.hid (HB9.out.later ho)); clear b0 b1 b2; (obtain ⟨b0, b1, b2⟩ := HB9.out.tri); clear ho))
                  go_ret
                  exact ⟨by simp, HO9.out⟩
                · have hx2i : ¬ (1 : Int) < (K : Int) := by omega
                  clear hl2 hx2
                  go_wp2_with (first
                    | (go_at_call 7; (with_reducible refine (HAL.out _ HO9.out).mono ?_); rintro ee W9 ⟨rfl, ho⟩; (replace HO9 := Lib.hid (on_new HO9.out ho)); (replace HB9 := Lib.hid (HB9.out.later ho)); clear b0 b1 b2; (obtain ⟨b0, b1, b2⟩ := HB9.out.tri); clear ho)
                    | (go_at_call 22; (with_reducible refine (HDM.out _ HO9.out).mono ?_); rintro ee W9 ⟨rfl, ho⟩; (replace HO9 := Lib.hid (on_new HO9.out ho)); (replace HB9 := Lib.hid (HB9.out.later ho)); clear b0 b1 b2; (obtain ⟨b0, b1, b2⟩ := HB9.out.tri); clear ho)
                    | (go_at_call 21; (with_reducible refine (HDK.out _ HO9.out).mono ?_); rintro ee W9 ⟨rfl, ho⟩; (replace HO9 := Lib.hid (on_new HO9.out ho)); (replace HB9 := Lib.hid (HB9.out.later ho)); clear b0 b1 b2; (obtain ⟨b0, b1, b2⟩ := HB9.out.tri); clear ho)
                    | (go_at_call 21; (with_reducible refine (HDJ.out _ HO9.out).mono ?_); rintro ee W9 ⟨rfl, ho⟩; (replace HO9 := Lib.hid (on_new HO9.out ho)); (replace HB9 := Lib.hid (HB9.out.later ho)); clear b0 b1 b2; (obtain ⟨b0, b1, b2⟩ := HB9.out.tri); clear ho))
                  go_ret
                  exact ⟨by simp, HO9.out⟩
            · have hl2i : ((l.length : Int) == 2) = false := by simp; omega
              have HB9 := Lib.hid (HB.out.later HU.out)
              have HO9 : Hid (Only (w.heap.size ≤ ·) w wr) := Lib.hid (on_new HO.out HU.out)
              have HDM : Hid (∀ W, Only (w.heap.size ≤ ·) w W → Calls Tryd.prog 22 #[.agg #[.bool false, .slice A 0 c, .slice (some ⟨kb, ko, none⟩) m d]] W (Told W (.int .i64 (many x : Nat)))) := Lib.hid fun W hW => DMany_c _ _ _ _ _ _ _ _ _ (HN.out.later hW)
              obtain ⟨b0, b1, b2⟩ := HB9.out.tri
              go_wp2_with (first
                | (go_at_call 7; (with_reducible refine (HAL.out _ HO9.out).mono ?_); rintro ee W9 ⟨rfl, ho⟩; (replace HO9 := Lib.hid (on_new HO9.out ho)); (replace HB9 := Lib.hid (HB9.out.later ho)); clear b0 b1 b2; (obtain ⟨b0, b1, b2⟩ := HB9.out.tri); clear ho)
                | (go_at_call 22; (with_reducible refine (HDM.out _ HO9.out).mono ?_); rintro ee W10 ⟨rfl, ho⟩; (replace HO9 := Lib.hid (on_new HO9.out ho)); clear ho))
              have htm := HTT.out
              subst htm
              go_ret
              exact ⟨by simp, HO9.out⟩
    · obtain rfl : m = 0 := by omega
      go_upto_region 3 with ((go_at_call 6; (with_reducible refine (HF.out _ HO.out).mono ?_); rintro ee W1 ⟨rfl, ho⟩; clear b0 b1 b2; (replace HO := Lib.hid (on_new HO.out ho)); (replace HB := Lib.hid (HB.out.later ho)); (obtain ⟨b0, b1, b2⟩ := HB.out.tri); clear ho))
      have HSM := Lib.hid HFW.out.small
      have HPU : Hid (Pure x) := Lib.hid (by
        have h := HL.out
        unfold Pure
        rw [← h.1]
        first | exact List.eq_nil_of_length_eq_zero h.2.2.symm | exact List.eq_nil_of_length_eq_zero h.2.1.symm)
      have HM60 : Hid (many x ≤ 120) := Lib.hid (by have h := HFW.out; rw [HPU.out.many]; have := h.1; have := h.2.1; omega)
      go_upto_region 4 with (first
        | (go_at_call 8; (with_reducible refine (NOf_c _ _ _ _ _ _ _ _ x (HN.out.later HO.out) HSM.out).mono ?_); rintro ee W2 ⟨QA, qn, qc, QB, qm, qd, rfl, hn2, ho⟩; have HN2 := Lib.hid hn2; clear hn2 b0 b1 b2; (replace HO := Lib.hid (on_new HO.out ho)); (replace HB := Lib.hid (HB.out.later ho)); (obtain ⟨b0, b1, b2⟩ := HB.out.tri); clear ho)
        | (go_at_call 9; (with_reducible refine (Parts_n _ _ _ _ _ _ _ _ x g HN2.out (HG.out.later HO.out) HSM.out).mono ?_); rintro ee W3 ⟨PA, pn, pc, l, rfl, hcu, hpt, ho⟩; have HCU := Lib.hid hcu; have HP := Lib.hid hpt; clear hpt hcu b0 b1 b2; (replace HO := Lib.hid (on_new HO.out ho)); (replace HB := Lib.hid (HB.out.later ho)); (obtain ⟨b0, b1, b2⟩ := HB.out.tri); clear ho))
      obtain rfl : pn = l.length := HP.out.len
      have hpc := HP.out.cap
      have HLE : Hid (l.length ≤ 120) := Lib.hid (by have := HCU.out.most; have := HM60.out; omega)
      have hl120 := HLE.out
      have HS0 : Hid (Only (W3.heap.size ≤ ·) W3 W3) := Lib.hid (Only.refl _ W3)
      clear b0 b1 b2
      go_wp2
      go_loopw [6, 66] (fun s i wr => ∃ (k t : Nat), k ≤ l.length ∧ i = .int .i64 k ∧ s = .int .i64 t ∧ Hid (t = manys (l.take k)) ∧ Hid (Only (W3.heap.size ≤ ·) W3 wr)) (fun s i _ => l.length - (intOf i).toNat)
      case atStart => exact ⟨0, 0, Nat.zero_le _, rfl, rfl, Lib.hid rfl, HS0⟩
      case round =>
        obtain ⟨k, t, hk, rfl, rfl, HT, HU⟩ := hrel
        by_cases hlt : k < l.length
        · have hlti : (k : Int) < (l.length : Int) := by omega
          obtain ⟨pb, po, y, P1, Q1, R1, p1, q1, r1, rfl, hpb, hy, c0, c1, c2, c3, _, _⟩ := pts_at (HP.out.later HU.out) hlt
          obtain ⟨my, hmy⟩ : ∃ my, my = many y.2 := ⟨_, rfl⟩
          have hyl : y ∈ l := List.mem_of_getElem? hy
          have hpu := HCU.out.pures HPU.out y hyl
          have hms : my = y.2.its.length + y.2.kds.length := by rw [hmy]; exact hpu.many
          have hlf : y.2.leaf = _ := (HCU.out.leaf y hyl).trans HL.out.1.symm
          have hfull : 1 < l.length → my ≠ 0 := fun h => by have := HCU.out.full (by have := HCU.out.long h; omega) y hyl; omega
          have hbd : t + my ≤ 120 ∧ t + my = manys (l.take (k + 1)) := by
            have e1 : manys (l.take (k + 1)) = manys (l.take k) + many y.2 := by unfold manys; rw [List.take_add_one, hy]; simp
            have e2 := manys_take (k + 1) l
            have e3 := HCU.out.manys
            have := HM60.out
            have := HT.out
            omega
          have hw1 : IntKind.i64.wrap ((y.2.its.length : Int) + (y.2.kds.length : Int)) = (my : Int) := by rw [IntWalk.i64_in _ (by omega)]; omega
          have hw2 : IntKind.i64.wrap ((t : Int) + (my : Int)) = ((t + my : Nat) : Int) := by rw [IntWalk.i64_in _ (by omega)]; omega
          have HT1 := Lib.hid hbd.2
          have HU1 : Hid (Only (W3.heap.size ≤ ·) W3 (wr.alloc (.cells #[.slice P1 y.1.length p1, .bool y.2.leaf, .slice Q1 y.2.its.length q1, .slice R1 y.2.kds.length r1] 41))) := Lib.hid (HU.out.alloc (fun _ h => h) _)
          obtain ⟨b0, b1, b2⟩ := ((HB.out.later HU.out).alloc (.cells #[.slice P1 y.1.length p1, .bool y.2.leaf, .slice Q1 y.2.its.length q1, .slice R1 y.2.kds.length r1] 41)).tri
          rw [hlf] at c1 HU1 b0 b1 b2
          by_cases hl1 : 1 < l.length
          · have hl1i : (1 : Int) < (l.length : Int) := by omega
            have hm0 := hfull hl1
            have hm0i : ((my : Int) == 0) = false := by simp; omega
            clear hfull hbd hms hpu hmy hyl hy hlf
            go_wp2
            go_roundw
            case rel => exact ⟨k + 1, t + my, by omega, by go_num, by go_num, HT1, HU1⟩
            case measure => simp [intOf]; omega
          · have hl1i : ¬ (1 : Int) < (l.length : Int) := by omega
            clear hfull hbd hms hpu hmy hyl hy hlf
            go_wp2
            go_roundw
            case rel => exact ⟨k + 1, t + my, by omega, by go_num, by go_num, HT1, HU1⟩
            case measure => simp [intOf]; omega
        · obtain rfl : k = l.length := by omega
          have HTT : Hid (t = many x) := Lib.hid (by have h := HT.out; rw [List.take_length] at h; rw [h]; exact HCU.out.manys)
          by_cases hl2 : l.length = 2
          · have hl2i : ((l.length : Int) == 2) = true := by simp; omega
            obtain ⟨K, u, v, t2, y, hy0, hky, hK1, hKm, hu, hv, hs2, u1, u2, v1, v2, s1, s2, huk, hvk⟩ := two_facts HCU.out HPU.out HSM.out hl2
            obtain ⟨pb, po, y', P1, Q1, R1, p1, q1, r1, rfl, hpb, hy, c0, c1, c2, c3, _, _⟩ := pts_at (HP.out.later HU.out) (k := 0) (by omega)
            obtain rfl : y = y' := Option.some.inj (hy0.symm.trans hy)
            obtain ⟨a1, ha1⟩ : ∃ a, a = y.2.its.length := ⟨_, rfl⟩
            obtain ⟨a2, ha2⟩ : ∃ a, a = y.2.kds.length := ⟨_, rfl⟩
            obtain ⟨mx, hmx⟩ : ∃ a, a = many x := ⟨_, rfl⟩
            rw [← ha1] at c2 hky
            rw [← ha2] at c3 hky
            rw [← hmx] at hKm hs2 huk
            have hmm : mx ≤ 120 := by have := HM60.out; omega
            have HB9 := Lib.hid (HB.out.later HU.out)
            have HO9 : Hid (Only (w.heap.size ≤ ·) w wr) := Lib.hid (on_new HO.out HU.out)
            have HDM : Hid (∀ W, Only (w.heap.size ≤ ·) w W → Calls Tryd.prog 22 #[.agg #[.bool false, .slice A 0 c, .slice B 0 d]] W (Told W (.int .i64 (mx : Nat)))) := Lib.hid fun W hW => hmx ▸ DMany_c _ _ _ _ _ _ _ _ _ (HN.out.later hW)
            have HDN : Hid (∀ W, Only (w.heap.size ≤ ·) w W → Calls Tryd.prog 21 #[.int .i64 g, .agg #[.bool false, .slice A 0 c, .slice B 0 d], .int .i64 (mx : Nat)] W (Told W (.int .i64 t2))) := Lib.hid fun W hW => hs2 ▸ DRoom_c _ _ _ _ _ _ _ _ _ g mx (HN.out.later hW) HSM.out (by omega)
            have HDK : Hid (∀ W, Only (w.heap.size ≤ ·) w W → Calls Tryd.prog 21 #[.int .i64 g, .agg #[.bool false, .slice A 0 c, .slice B 0 d], .int .i64 (K : Nat)] W (Told W (.int .i64 u))) := Lib.hid fun W hW => hu ▸ DRoom_c _ _ _ _ _ _ _ _ _ g K (HN.out.later hW) HSM.out (by omega)
            have HDJ : Hid (∀ W, Only (w.heap.size ≤ ·) w W → Calls Tryd.prog 21 #[.int .i64 g, .agg #[.bool false, .slice A 0 c, .slice B 0 d], .int .i64 (K - 1 : Nat)] W (Told W (.int .i64 v))) := Lib.hid fun W hW => hv ▸ DRoom_c _ _ _ _ _ _ _ _ _ g (K - 1) (HN.out.later hW) HSM.out (by omega)
            have HYS : Hid (a1 + a2 = K ∧ t = mx) := Lib.hid ⟨hky, by rw [hmx]; exact HTT.out⟩
            have hw1 : IntKind.i64.wrap ((a1 : Int) + (a2 : Int)) = (K : Int) := by rw [IntWalk.i64_in _ (by omega)]; omega
            have hw2 : IntKind.i64.wrap (2 * u) = 2 * u := IntWalk.i64_in _ (by omega)
            have hw3 : IntKind.i64.wrap (2 * v) = 2 * v := IntWalk.i64_in _ (by omega)
            have hw4 : IntKind.i64.wrap ((mx : Int) - 1) = (mx : Int) - 1 := IntWalk.i64_in _ (by omega)
            have HBD : Hid ((1 : Nat) ≤ K ∧ K < mx ∧ (2 * u < t2 → K + 1 = mx) ∧ (1 < K → 2 * v < t2)) := Lib.hid ⟨hK1, hKm, huk, hvk⟩
            have hl0 : (0 : Int) < (l.length : Int) := by omega
            simp only [Nat.zero_mul, Nat.add_zero] at c0 c1 c2 c3
            clear hmx hy hy0 hky ha1 ha2 hu hv hs2 u1 u2 v1 v2 s1 s2 huk hvk hK1 hKm
            have KC : Hid (∀ W, Only (wr.heap.size ≤ ·) wr W → W.cell? ⟨pb, po + 2, none⟩ = some (.slice Q1 a1 q1) ∧ W.cell? ⟨pb, po + 3, none⟩ = some (.slice R1 a2 r1)) := Lib.hid fun W hW => ⟨(hW.cell (p := ⟨pb, po + 2, none⟩) (Nat.not_le.2 hpb)).trans c2, (hW.cell (p := ⟨pb, po + 3, none⟩) (Nat.not_le.2 hpb)).trans c3⟩
            have KB : Hid (∀ W, Only (wr.heap.size ≤ ·) wr W → W.cell? ⟨w.heap.size, 0, none⟩ = some (.bool false) ∧ W.cell? ⟨w.heap.size, 1, none⟩ = some (.slice A 0 c) ∧ W.cell? ⟨w.heap.size, 2, none⟩ = some (.slice B 0 d)) := Lib.hid fun W hW => (HB9.out.later hW).tri
            have HOZ : Hid (Only (wr.heap.size ≤ ·) wr wr.drew) := Lib.hid (Only.refl _ wr).drew
            clear hpb c0 c1 c2 c3
            go_wp2_with (fail)
            refine wp_region_held_drew (S := (fun W => W.cell? ⟨pb, po + 2, none⟩ = some (.slice Q1 a1 q1) ∧ W.cell? ⟨pb, po + 3, none⟩ = some (.slice R1 a2 r1))) (by kernel_rfl) (KC.out _ HOZ.out) (fun hHeld => ?_)
            refine take_one (i := 0) (d := 101) (oi := ?_) (v := ?_) ?_ (by kernel_rfl) (by kernel_rfl) (by kernel_rfl) (fun _ _ _ h => h) ?_ ?_ ?_ (by assumption) ?_
            case refine_3 => (simp only [List.getElem?_toArray, List.getElem?_cons_zero]; rfl)
            case refine_4 => rfl
            case refine_5 => rfl
            case refine_6 => (intro w' hSw; (try dsimp only at hSw); go_simp; (try with_reducible rfl))
            simp only [Act.put, List.setIfInBounds_toArray, List.set_cons_zero, List.set_cons_succ]
            refine take_one (i := 1) (d := 102) (oi := ?_) (v := ?_) ?_ (by kernel_rfl) (by kernel_rfl) (by kernel_rfl) (fun _ _ _ h => h) ?_ ?_ ?_ (by assumption) ?_
            case refine_3 => (simp only [List.getElem?_toArray, List.getElem?_cons_succ, List.getElem?_cons_zero]; rfl)
            case refine_4 => rfl
            case refine_5 => rfl
            case refine_6 => (intro w' hSw; (try dsimp only at hSw); go_simp; (try with_reducible rfl))
            simp only [Act.put, List.setIfInBounds_toArray, List.set_cons_zero, List.set_cons_succ]
            refine take_one (i := 2) (d := 103) (oi := ?_) (v := ?_) ?_ (by kernel_rfl) (by kernel_rfl) (by kernel_rfl) (fun _ _ _ h => h) ?_ ?_ ?_ (by assumption) ?_
            case refine_3 => (simp only [List.getElem?_toArray, List.getElem?_cons_succ, List.getElem?_cons_zero]; rfl)
            case refine_4 => rfl
            case refine_5 => rfl
            case refine_6 => (intro w' hSw; (try dsimp only at hSw); go_simp; (try with_reducible rfl))
            simp only [Act.put, List.setIfInBounds_toArray, List.set_cons_zero, List.set_cons_succ]
            refine take_one (i := 3) (d := 104) (oi := ?_) (v := ?_) ?_ (by kernel_rfl) (by kernel_rfl) (by kernel_rfl) (fun _ _ _ h => h) ?_ ?_ ?_ (by assumption) ?_
            case refine_3 => (simp only [List.getElem?_toArray, List.getElem?_cons_succ, List.getElem?_cons_zero]; rfl)
            case refine_4 => rfl
            case refine_5 => rfl
            case refine_6 => (intro w' hSw; (try dsimp only at hSw); go_simp; (try with_reducible rfl))
            simp only [Act.put, List.setIfInBounds_toArray, List.set_cons_zero, List.set_cons_succ]
            refine take_one (i := 4) (d := 105) (oi := ?_) (v := ?_) ?_ (by kernel_rfl) (by kernel_rfl) (by kernel_rfl) (fun _ _ _ h => h) ?_ ?_ ?_ (by assumption) ?_
            case refine_3 => (simp only [List.getElem?_toArray, List.getElem?_cons_succ, List.getElem?_cons_zero]; rfl)
            case refine_4 => rfl
            case refine_5 => rfl
            case refine_6 => (intro w' hSw; (try dsimp only at hSw); go_simp; (try with_reducible rfl))
            simp only [Act.put, List.setIfInBounds_toArray, List.set_cons_zero, List.set_cons_succ]
            refine take_one (i := 5) (d := 106) (oi := ?_) (v := ?_) ?_ (by kernel_rfl) (by kernel_rfl) (by kernel_rfl) (fun _ _ _ h => h) ?_ ?_ ?_ (by assumption) ?_
            case refine_3 => (simp only [List.getElem?_toArray, List.getElem?_cons_succ, List.getElem?_cons_zero]; rfl)
            case refine_4 => rfl
            case refine_5 => rfl
            case refine_6 => (intro w' hSw; (try dsimp only at hSw); go_simp; (try with_reducible rfl))
            simp only [Act.put, List.setIfInBounds_toArray, List.set_cons_zero, List.set_cons_succ]
            refine take_one (i := 6) (d := 107) (oi := ?_) (v := ?_) ?_ (by kernel_rfl) (by kernel_rfl) (by kernel_rfl) (fun _ _ _ h => h) ?_ ?_ ?_ (by assumption) ?_
            case refine_3 => (simp only [List.getElem?_toArray, List.getElem?_cons_succ, List.getElem?_cons_zero]; rfl)
            case refine_4 => rfl
            case refine_5 => rfl
            case refine_6 => (intro w' hSw; (try dsimp only at hSw); go_simp; (try with_reducible rfl))
            simp only [Act.put, List.setIfInBounds_toArray, List.set_cons_zero, List.set_cons_succ]
            refine take_one (i := 7) (d := 108) (oi := ?_) (v := ?_) ?_ (by kernel_rfl) (by kernel_rfl) (by kernel_rfl) (fun _ _ _ h => h) ?_ ?_ ?_ (by assumption) ?_
            case refine_3 => (simp only [List.getElem?_toArray, List.getElem?_cons_succ, List.getElem?_cons_zero]; rfl)
            case refine_4 => rfl
            case refine_5 => rfl
            case refine_6 => (intro w' hSw; (try dsimp only at hSw); go_simp; (try with_reducible rfl))
            simp only [Act.put, List.setIfInBounds_toArray, List.set_cons_zero, List.set_cons_succ]
            refine take_one (i := 8) (d := 109) (oi := ?_) (v := ?_) ?_ (by kernel_rfl) (by kernel_rfl) (by kernel_rfl) (fun _ _ _ h => h) ?_ ?_ ?_ (by assumption) ?_
            case refine_3 => (simp only [List.getElem?_toArray, List.getElem?_cons_succ, List.getElem?_cons_zero]; rfl)
            case refine_4 => rfl
            case refine_5 => rfl
            case refine_6 => (intro w' hSw; (try dsimp only at hSw); go_simp; (try with_reducible rfl))
            simp only [Act.put, List.setIfInBounds_toArray, List.set_cons_zero, List.set_cons_succ]
            refine take_one (i := 9) (d := 110) (oi := ?_) (v := ?_) ?_ (by kernel_rfl) (by kernel_rfl) (by kernel_rfl) (fun _ _ _ h => h) ?_ ?_ ?_ (by assumption) ?_
            case refine_3 => (simp only [List.getElem?_toArray, List.getElem?_cons_succ, List.getElem?_cons_zero]; rfl)
            case refine_4 => rfl
            case refine_5 => rfl
            case refine_6 => (intro w' hSw; (try dsimp only at hSw); go_simp; (try with_reducible rfl))
            simp only [Act.put, List.setIfInBounds_toArray, List.set_cons_zero, List.set_cons_succ]
            refine take_one (i := 10) (d := 111) (oi := ?_) (v := ?_) ?_ (by kernel_rfl) (by kernel_rfl) (by kernel_rfl) (fun _ _ _ h => h) ?_ ?_ ?_ (by assumption) ?_
            case refine_3 => (simp only [List.getElem?_toArray, List.getElem?_cons_succ, List.getElem?_cons_zero]; rfl)
            case refine_4 => rfl
            case refine_5 => rfl
            case refine_6 => (intro w' hSw; (try dsimp only at hSw); go_simp; (try with_reducible rfl))
            simp only [Act.put, List.setIfInBounds_toArray, List.set_cons_zero, List.set_cons_succ]
            refine take_one (i := 11) (d := 112) (oi := ?_) (v := ?_) ?_ (by kernel_rfl) (by kernel_rfl) (by kernel_rfl) (fun _ _ _ h => h) ?_ ?_ ?_ (by assumption) ?_
            case refine_3 => (simp only [List.getElem?_toArray, List.getElem?_cons_succ, List.getElem?_cons_zero]; rfl)
            case refine_4 => rfl
            case refine_5 => rfl
            case refine_6 => (intro w' hSw; (try dsimp only at hSw); go_simp; (try with_reducible rfl))
            simp only [Act.put, List.setIfInBounds_toArray, List.set_cons_zero, List.set_cons_succ]
            refine take_one (i := 12) (d := 113) (oi := ?_) (v := ?_) ?_ (by kernel_rfl) (by kernel_rfl) (by kernel_rfl) (fun _ _ _ h => h) ?_ ?_ ?_ (by assumption) ?_
            case refine_3 => (simp only [List.getElem?_toArray, List.getElem?_cons_succ, List.getElem?_cons_zero]; rfl)
            case refine_4 => rfl
            case refine_5 => rfl
            case refine_6 => (intro w' hSw; (try dsimp only at hSw); go_simp; (try with_reducible rfl))
            simp only [Act.put, List.setIfInBounds_toArray, List.set_cons_zero, List.set_cons_succ]
            refine take_one (i := 13) (d := 10) (oi := ?_) (v := ?_) ?_ (by kernel_rfl) (by kernel_rfl) (by kernel_rfl) (fun _ _ _ h => h) ?_ ?_ ?_ (by assumption) ?_
            case refine_3 => (simp only [List.getElem?_toArray, List.getElem?_cons_succ, List.getElem?_cons_zero]; rfl)
            case refine_4 => rfl
            case refine_5 => rfl
            case refine_6 => (intro w' hSw; (try dsimp only at hSw); go_simp; (try with_reducible rfl))
            simp only [Act.put, List.setIfInBounds_toArray, List.set_cons_zero, List.set_cons_succ]
            refine wpAnyH_done (by kernel_rfl) ?_ _
            clear KC
            go_wp2_with (fail)
            replace HOZ : Hid (Only (wr.heap.size ≤ ·) wr wr.drew.drew) := Lib.hid HOZ.out.drew
            refine wp_region_held_drew (S := (fun W => W.cell? ⟨w.heap.size, 0, none⟩ = some (.bool false) ∧ W.cell? ⟨w.heap.size, 1, none⟩ = some (.slice A 0 c) ∧ W.cell? ⟨w.heap.size, 2, none⟩ = some (.slice B 0 d))) (by kernel_rfl) (KB.out _ HOZ.out) (fun hHeld => ?_)
            obtain ⟨wz, hwz⟩ : ∃ wz, wz = wr.drew.drew := ⟨_, rfl⟩
            rw [← hwz] at HOZ hHeld
            rw [← hwz]
            clear hwz
            refine take_one (i := 0) (d := 114) (oi := ?_) (v := ?_) ?_ (by kernel_rfl) (by kernel_rfl) (by kernel_rfl) (fun _ _ _ h => h) ?_ ?_ ?_ (by assumption) ?_
            case refine_3 => (simp only [List.getElem?_toArray, List.getElem?_cons_zero]; rfl)
            case refine_4 => rfl
            case refine_5 => rfl
            case refine_6 => (intro w' hSw; (try dsimp only at hSw); go_simp; (try with_reducible rfl))
            simp only [Act.put, List.setIfInBounds_toArray, List.set_cons_zero, List.set_cons_succ]
            refine take_one (i := 1) (d := 115) (oi := ?_) (v := ?_) ?_ (by kernel_rfl) (by kernel_rfl) (by kernel_rfl) (fun _ _ _ h => h) ?_ ?_ ?_ (by assumption) ?_
            case refine_3 => (simp only [List.getElem?_toArray, List.getElem?_cons_succ, List.getElem?_cons_zero]; rfl)
            case refine_4 => rfl
            case refine_5 => rfl
            case refine_6 => (intro w' hSw; (try dsimp only at hSw); go_simp; (try with_reducible rfl))
            simp only [Act.put, List.setIfInBounds_toArray, List.set_cons_zero, List.set_cons_succ]
            refine take_one (i := 2) (d := 116) (oi := ?_) (v := ?_) ?_ (by kernel_rfl) (by kernel_rfl) (by kernel_rfl) (fun _ _ _ h => h) ?_ ?_ ?_ (by assumption) ?_
            case refine_3 => (simp only [List.getElem?_toArray, List.getElem?_cons_succ, List.getElem?_cons_zero]; rfl)
            case refine_4 => rfl
            case refine_5 => rfl
            case refine_6 => (intro w' hSw; (try dsimp only at hSw); go_simp; (try with_reducible rfl))
            simp only [Act.put, List.setIfInBounds_toArray, List.set_cons_zero, List.set_cons_succ]
            refine wpAnyH_ready (rs := [3]) (by kernel_rfl) (by simp) ?_
            refine AllReadyH.cons (o := ?_) ?_ (fun K hK => ?_) AllReadyH.nil
            case refine_2 => (simp only [List.getElem?_toArray, List.getElem?_cons_succ, List.getElem?_cons_zero]; rfl)
            go_simp
            (go_at_call 22; (with_reducible refine (HDM.out _ (on_new HO9.out HOZ.out)).mono ?_); rintro ee w7 ⟨rfl, ho⟩; (replace HOZ := Lib.hid (on_new HOZ.out ho)); clear ho)
            go_wp2_with (fail)
            refine hK.out _ _ (KB.out _ HOZ.out) (fun hHeld => ?_)
            clear hK K
            try simp only [Act.put, List.setIfInBounds_toArray, List.set_cons_zero, List.set_cons_succ]
            refine wpAnyH_ready (rs := [4]) (by kernel_rfl) (by simp) ?_
            refine AllReadyH.cons (o := ?_) ?_ (fun K hK => ?_) AllReadyH.nil
            case refine_2 => (simp only [List.getElem?_toArray, List.getElem?_cons_succ, List.getElem?_cons_zero]; rfl)
            go_simp
            (go_at_call 21; (with_reducible refine (HDN.out _ (on_new HO9.out HOZ.out)).mono ?_); rintro ee w8 ⟨rfl, ho⟩; (replace HOZ := Lib.hid (on_new HOZ.out ho)); clear ho)
            go_wp2_with (fail)
            refine hK.out _ _ (KB.out _ HOZ.out) (fun hHeld => ?_)
            clear hK K
            try simp only [Act.put, List.setIfInBounds_toArray, List.set_cons_zero, List.set_cons_succ]
            refine take_one (i := 5) (d := 11) (oi := ?_) (v := ?_) ?_ (by kernel_rfl) (by kernel_rfl) (by kernel_rfl) (fun _ _ _ h => h) ?_ ?_ ?_ (by assumption) ?_
            case refine_3 => (simp only [List.getElem?_toArray, List.getElem?_cons_succ, List.getElem?_cons_zero]; rfl)
            case refine_4 => rfl
            case refine_5 => rfl
            case refine_6 => (intro w' hSw; (try dsimp only at hSw); go_simp; (try with_reducible rfl))
            simp only [Act.put, List.setIfInBounds_toArray, List.set_cons_zero, List.set_cons_succ]
            refine wpAnyH_done (by kernel_rfl) ?_ _
            clear hHeld
            obtain ⟨b0, b1, b2⟩ := KB.out _ HOZ.out
            replace HO9 := Lib.hid (on_new HO9.out HOZ.out)
            replace HB9 := Lib.hid (HB9.out.later HOZ.out)
            clear KB HOZ
            obtain rfl : t = mx := HYS.out.2
            clear HTT HT HYS hw1
            by_cases hx1 : 2 * u < t2
            · have hkm : ¬ (K : Int) < (t : Int) - 1 := by have := HBD.out; have := this.2.2.1 hx1; omega
              by_cases hx2 : 1 < K
              · have hx2i : (1 : Int) < (K : Int) := by omega
                have hx3 : ¬ t2 ≤ 2 * v := by have := HBD.out.2.2.2 hx2; omega
                have hw5 : IntKind.i64.wrap ((K : Int) - 1) = ((K - 1 : Nat) : Int) := by have := HBD.out.2.1; rw [IntWalk.i64_in _ (by omega)]; omega
                clear hl2 hx2
                go_wp2_with (first
                  | (go_at_call 7; (with_reducible refine (HAL.out _ HO9.out).mono ?_); rintro ee W9 ⟨rfl, ho⟩; (replace HO9 := Lib.hid (on_new HO9.out ho)); (replace HB9 := Lib.hid (HB9.out.later ho)); clear b0 b1 b2; (obtain ⟨b0, b1, b2⟩ := HB9.out.tri); clear ho)
                  | (go_at_call 22; (with_reducible refine (HDM.out _ HO9.out).mono ?_); rintro ee W9 ⟨rfl, ho⟩; (replace HO9 := Lib.hid (on_new HO9.out ho)); (replace HB9 := Lib.hid (HB9.out.later ho)); clear b0 b1 b2; (obtain ⟨b0, b1, b2⟩ := HB9.out.tri); clear ho)
                  | (go_at_call 21; (with_reducible refine (HDK.out _ HO9.out).mono ?_); rintro ee W9 ⟨rfl, ho⟩; (replace HO9 := Lib.hid (on_new HO9.out ho)); (replace HB9 := Lib.hid (HB9.out.later ho)); clear b0 b1 b2; (obtain ⟨b0, b1, b2⟩ := HB9.out.tri); clear ho)
                  | (go_at_call 21; (with_reducible refine (HDJ.out _ HO9.out).mono ?_); rintro ee W9 ⟨rfl, ho⟩; (replace HO9 := Lib.hid (on_new HO9.out ho)); (replace HB9 := Lib.hid (HB9.out.later ho)); clear b0 b1 b2; (obtain ⟨b0, b1, b2⟩ := HB9.out.tri); clear ho))
                go_ret
                exact ⟨by simp, HO9.out⟩
              · have hx2i : ¬ (1 : Int) < (K : Int) := by omega
                clear hl2 hx2
                go_wp2_with (first
                  | (go_at_call 7; (with_reducible refine (HAL.out _ HO9.out).mono ?_); rintro ee W9 ⟨rfl, ho⟩; (replace HO9 := Lib.hid (on_new HO9.out ho)); (replace HB9 := Lib.hid (HB9.out.later ho)); clear b0 b1 b2; (obtain ⟨b0, b1, b2⟩ := HB9.out.tri); clear ho)
                  | (go_at_call 22; (with_reducible refine (HDM.out _ HO9.out).mono ?_); rintro ee W9 ⟨rfl, ho⟩; (replace HO9 := Lib.hid (on_new HO9.out ho)); (replace HB9 := Lib.hid (HB9.out.later ho)); clear b0 b1 b2; (obtain ⟨b0, b1, b2⟩ := HB9.out.tri); clear ho)
                  | (go_at_call 21; (with_reducible refine (HDK.out _ HO9.out).mono ?_); rintro ee W9 ⟨rfl, ho⟩; (replace HO9 := Lib.hid (on_new HO9.out ho)); (replace HB9 := Lib.hid (HB9.out.later ho)); clear b0 b1 b2; (obtain ⟨b0, b1, b2⟩ := HB9.out.tri); clear ho)
                  | (go_at_call 21; (with_reducible refine (HDJ.out _ HO9.out).mono ?_); rintro ee W9 ⟨rfl, ho⟩; (replace HO9 := Lib.hid (on_new HO9.out ho)); (replace HB9 := Lib.hid (HB9.out.later ho)); clear b0 b1 b2; (obtain ⟨b0, b1, b2⟩ := HB9.out.tri); clear ho))
                go_ret
                exact ⟨by simp, HO9.out⟩
            · by_cases hx2 : 1 < K
              · have hx2i : (1 : Int) < (K : Int) := by omega
                have hx3 : ¬ t2 ≤ 2 * v := by have := HBD.out.2.2.2 hx2; omega
                have hw5 : IntKind.i64.wrap ((K : Int) - 1) = ((K - 1 : Nat) : Int) := by have := HBD.out.2.1; rw [IntWalk.i64_in _ (by omega)]; omega
                clear hl2 hx2
                go_wp2_with (first
                  | (go_at_call 7; (with_reducible refine (HAL.out _ HO9.out).mono ?_); rintro ee W9 ⟨rfl, ho⟩; (replace HO9 := Lib.hid (on_new HO9.out ho)); (replace HB9 := Lib.hid (HB9.out.later ho)); clear b0 b1 b2; (obtain ⟨b0, b1, b2⟩ := HB9.out.tri); clear ho)
                  | (go_at_call 22; (with_reducible refine (HDM.out _ HO9.out).mono ?_); rintro ee W9 ⟨rfl, ho⟩; (replace HO9 := Lib.hid (on_new HO9.out ho)); (replace HB9 := Lib.hid (HB9.out.later ho)); clear b0 b1 b2; (obtain ⟨b0, b1, b2⟩ := HB9.out.tri); clear ho)
                  | (go_at_call 21; (with_reducible refine (HDK.out _ HO9.out).mono ?_); rintro ee W9 ⟨rfl, ho⟩; (replace HO9 := Lib.hid (on_new HO9.out ho)); (replace HB9 := Lib.hid (HB9.out.later ho)); clear b0 b1 b2; (obtain ⟨b0, b1, b2⟩ := HB9.out.tri); clear ho)
                  | (go_at_call 21; (with_reducible refine (HDJ.out _ HO9.out).mono ?_); rintro ee W9 ⟨rfl, ho⟩; (replace HO9 := Lib.hid (on_new HO9.out ho)); (replace HB9 := Lib.hid (HB9.out.later ho)); clear b0 b1 b2; (obtain ⟨b0, b1, b2⟩ := HB9.out.tri); clear ho))
                go_ret
                exact ⟨by simp, HO9.out⟩
              · have hx2i : ¬ (1 : Int) < (K : Int) := by omega
                clear hl2 hx2
                go_wp2_with (first
                  | (go_at_call 7; (with_reducible refine (HAL.out _ HO9.out).mono ?_); rintro ee W9 ⟨rfl, ho⟩; (replace HO9 := Lib.hid (on_new HO9.out ho)); (replace HB9 := Lib.hid (HB9.out.later ho)); clear b0 b1 b2; (obtain ⟨b0, b1, b2⟩ := HB9.out.tri); clear ho)
                  | (go_at_call 22; (with_reducible refine (HDM.out _ HO9.out).mono ?_); rintro ee W9 ⟨rfl, ho⟩; (replace HO9 := Lib.hid (on_new HO9.out ho)); (replace HB9 := Lib.hid (HB9.out.later ho)); clear b0 b1 b2; (obtain ⟨b0, b1, b2⟩ := HB9.out.tri); clear ho)
                  | (go_at_call 21; (with_reducible refine (HDK.out _ HO9.out).mono ?_); rintro ee W9 ⟨rfl, ho⟩; (replace HO9 := Lib.hid (on_new HO9.out ho)); (replace HB9 := Lib.hid (HB9.out.later ho)); clear b0 b1 b2; (obtain ⟨b0, b1, b2⟩ := HB9.out.tri); clear ho)
                  | (go_at_call 21; (with_reducible refine (HDJ.out _ HO9.out).mono ?_); rintro ee W9 ⟨rfl, ho⟩; (replace HO9 := Lib.hid (on_new HO9.out ho)); (replace HB9 := Lib.hid (HB9.out.later ho)); clear b0 b1 b2; (obtain ⟨b0, b1, b2⟩ := HB9.out.tri); clear ho))
                go_ret
                exact ⟨by simp, HO9.out⟩
          · have hl2i : ((l.length : Int) == 2) = false := by simp; omega
            have HB9 := Lib.hid (HB.out.later HU.out)
            have HO9 : Hid (Only (w.heap.size ≤ ·) w wr) := Lib.hid (on_new HO.out HU.out)
            have HDM : Hid (∀ W, Only (w.heap.size ≤ ·) w W → Calls Tryd.prog 22 #[.agg #[.bool false, .slice A 0 c, .slice B 0 d]] W (Told W (.int .i64 (many x : Nat)))) := Lib.hid fun W hW => DMany_c _ _ _ _ _ _ _ _ _ (HN.out.later hW)
            obtain ⟨b0, b1, b2⟩ := HB9.out.tri
            go_wp2_with (first
              | (go_at_call 7; (with_reducible refine (HAL.out _ HO9.out).mono ?_); rintro ee W9 ⟨rfl, ho⟩; (replace HO9 := Lib.hid (on_new HO9.out ho)); (replace HB9 := Lib.hid (HB9.out.later ho)); clear b0 b1 b2; (obtain ⟨b0, b1, b2⟩ := HB9.out.tri); clear ho)
              | (go_at_call 22; (with_reducible refine (HDM.out _ HO9.out).mono ?_); rintro ee W10 ⟨rfl, ho⟩; (replace HO9 := Lib.hid (on_new HO9.out ho)); clear ho))
            have htm := HTT.out
            subst htm
            go_ret
            exact ⟨by simp, HO9.out⟩
  · by_cases h4 : 0 < m
    · have h4i : (0 : Int) < (m : Int) := by omega
      go_wp2_with (first | (go_at_call 6; (with_reducible refine (HF.out _ HO.out).mono ?_); rintro ee W1 ⟨rfl, ho⟩; clear b0 b1 b2; (replace HO := Lib.hid (on_new HO.out ho)); (replace HB := Lib.hid (HB.out.later ho)); (obtain ⟨b0, b1, b2⟩ := HB.out.tri); clear ho) | (go_at_call 7; (with_reducible refine (HAL.out _ HO.out).mono ?_); rintro ee W9 ⟨rfl, ho⟩; clear b0 b1 b2; (replace HO := Lib.hid (on_new HO.out ho)); (replace HB := Lib.hid (HB.out.later ho)); (obtain ⟨b0, b1, b2⟩ := HB.out.tri); clear ho))
      go_ret
      exact ⟨rfl, HO.out⟩
    obtain rfl : m = 0 := by omega
    go_upto_region 3 with ((go_at_call 6; (with_reducible refine (HF.out _ HO.out).mono ?_); rintro ee W1 ⟨rfl, ho⟩; clear b0 b1 b2; (replace HO := Lib.hid (on_new HO.out ho)); (replace HB := Lib.hid (HB.out.later ho)); (obtain ⟨b0, b1, b2⟩ := HB.out.tri); clear ho))
    have HSM := Lib.hid HFW.out.small
    have HPU : Hid (Pure x) := Lib.hid (by
      have h := HL.out
      unfold Pure
      rw [← h.1]
      first | exact List.eq_nil_of_length_eq_zero h.2.2.symm | exact List.eq_nil_of_length_eq_zero h.2.1.symm)
    have HM60 : Hid (many x ≤ 120) := Lib.hid (by have h := HFW.out; rw [HPU.out.many]; have := h.1; have := h.2.1; omega)
    go_upto_region 4 with (first
      | (go_at_call 8; (with_reducible refine (NOf_c _ _ _ _ _ _ _ _ x (HN.out.later HO.out) HSM.out).mono ?_); rintro ee W2 ⟨QA, qn, qc, QB, qm, qd, rfl, hn2, ho⟩; have HN2 := Lib.hid hn2; clear hn2 b0 b1 b2; (replace HO := Lib.hid (on_new HO.out ho)); (replace HB := Lib.hid (HB.out.later ho)); (obtain ⟨b0, b1, b2⟩ := HB.out.tri); clear ho)
      | (go_at_call 9; (with_reducible refine (Parts_n _ _ _ _ _ _ _ _ x g HN2.out (HG.out.later HO.out) HSM.out).mono ?_); rintro ee W3 ⟨PA, pn, pc, l, rfl, hcu, hpt, ho⟩; have HCU := Lib.hid hcu; have HP := Lib.hid hpt; clear hpt hcu b0 b1 b2; (replace HO := Lib.hid (on_new HO.out ho)); (replace HB := Lib.hid (HB.out.later ho)); (obtain ⟨b0, b1, b2⟩ := HB.out.tri); clear ho))
    obtain rfl : pn = l.length := HP.out.len
    have hpc := HP.out.cap
    have HLE : Hid (l.length ≤ 120) := Lib.hid (by have := HCU.out.most; have := HM60.out; omega)
    have hl120 := HLE.out
    have HS0 : Hid (Only (W3.heap.size ≤ ·) W3 W3) := Lib.hid (Only.refl _ W3)
    clear b0 b1 b2
    go_wp2
    go_loopw [6, 66] (fun s i wr => ∃ (k t : Nat), k ≤ l.length ∧ i = .int .i64 k ∧ s = .int .i64 t ∧ Hid (t = manys (l.take k)) ∧ Hid (Only (W3.heap.size ≤ ·) W3 wr)) (fun s i _ => l.length - (intOf i).toNat)
    case atStart => exact ⟨0, 0, Nat.zero_le _, rfl, rfl, Lib.hid rfl, HS0⟩
    case round =>
      obtain ⟨k, t, hk, rfl, rfl, HT, HU⟩ := hrel
      by_cases hlt : k < l.length
      · have hlti : (k : Int) < (l.length : Int) := by omega
        obtain ⟨pb, po, y, P1, Q1, R1, p1, q1, r1, rfl, hpb, hy, c0, c1, c2, c3, _, _⟩ := pts_at (HP.out.later HU.out) hlt
        obtain ⟨my, hmy⟩ : ∃ my, my = many y.2 := ⟨_, rfl⟩
        have hyl : y ∈ l := List.mem_of_getElem? hy
        have hpu := HCU.out.pures HPU.out y hyl
        have hms : my = y.2.its.length + y.2.kds.length := by rw [hmy]; exact hpu.many
        have hlf : y.2.leaf = _ := (HCU.out.leaf y hyl).trans HL.out.1.symm
        have hfull : 1 < l.length → my ≠ 0 := fun h => by have := HCU.out.full (by have := HCU.out.long h; omega) y hyl; omega
        have hbd : t + my ≤ 120 ∧ t + my = manys (l.take (k + 1)) := by
          have e1 : manys (l.take (k + 1)) = manys (l.take k) + many y.2 := by unfold manys; rw [List.take_add_one, hy]; simp
          have e2 := manys_take (k + 1) l
          have e3 := HCU.out.manys
          have := HM60.out
          have := HT.out
          omega
        have hw1 : IntKind.i64.wrap ((y.2.its.length : Int) + (y.2.kds.length : Int)) = (my : Int) := by rw [IntWalk.i64_in _ (by omega)]; omega
        have hw2 : IntKind.i64.wrap ((t : Int) + (my : Int)) = ((t + my : Nat) : Int) := by rw [IntWalk.i64_in _ (by omega)]; omega
        have HT1 := Lib.hid hbd.2
        have HU1 : Hid (Only (W3.heap.size ≤ ·) W3 (wr.alloc (.cells #[.slice P1 y.1.length p1, .bool y.2.leaf, .slice Q1 y.2.its.length q1, .slice R1 y.2.kds.length r1] 41))) := Lib.hid (HU.out.alloc (fun _ h => h) _)
        obtain ⟨b0, b1, b2⟩ := ((HB.out.later HU.out).alloc (.cells #[.slice P1 y.1.length p1, .bool y.2.leaf, .slice Q1 y.2.its.length q1, .slice R1 y.2.kds.length r1] 41)).tri
        rw [hlf] at c1 HU1 b0 b1 b2
        by_cases hl1 : 1 < l.length
        · have hl1i : (1 : Int) < (l.length : Int) := by omega
          have hm0 := hfull hl1
          have hm0i : ((my : Int) == 0) = false := by simp; omega
          clear hfull hbd hms hpu hmy hyl hy hlf
          go_wp2
          go_roundw
          case rel => exact ⟨k + 1, t + my, by omega, by go_num, by go_num, HT1, HU1⟩
          case measure => simp [intOf]; omega
        · have hl1i : ¬ (1 : Int) < (l.length : Int) := by omega
          clear hfull hbd hms hpu hmy hyl hy hlf
          go_wp2
          go_roundw
          case rel => exact ⟨k + 1, t + my, by omega, by go_num, by go_num, HT1, HU1⟩
          case measure => simp [intOf]; omega
      · obtain rfl : k = l.length := by omega
        have HTT : Hid (t = many x) := Lib.hid (by have h := HT.out; rw [List.take_length] at h; rw [h]; exact HCU.out.manys)
        by_cases hl2 : l.length = 2
        · have hl2i : ((l.length : Int) == 2) = true := by simp; omega
          obtain ⟨K, u, v, t2, y, hy0, hky, hK1, hKm, hu, hv, hs2, u1, u2, v1, v2, s1, s2, huk, hvk⟩ := two_facts HCU.out HPU.out HSM.out hl2
          obtain ⟨pb, po, y', P1, Q1, R1, p1, q1, r1, rfl, hpb, hy, c0, c1, c2, c3, _, _⟩ := pts_at (HP.out.later HU.out) (k := 0) (by omega)
          obtain rfl : y = y' := Option.some.inj (hy0.symm.trans hy)
          obtain ⟨a1, ha1⟩ : ∃ a, a = y.2.its.length := ⟨_, rfl⟩
          obtain ⟨a2, ha2⟩ : ∃ a, a = y.2.kds.length := ⟨_, rfl⟩
          obtain ⟨mx, hmx⟩ : ∃ a, a = many x := ⟨_, rfl⟩
          rw [← ha1] at c2 hky
          rw [← ha2] at c3 hky
          rw [← hmx] at hKm hs2 huk
          have hmm : mx ≤ 120 := by have := HM60.out; omega
          have HB9 := Lib.hid (HB.out.later HU.out)
          have HO9 : Hid (Only (w.heap.size ≤ ·) w wr) := Lib.hid (on_new HO.out HU.out)
          have HDM : Hid (∀ W, Only (w.heap.size ≤ ·) w W → Calls Tryd.prog 22 #[.agg #[.bool true, .slice A n c, .slice B 0 d]] W (Told W (.int .i64 (mx : Nat)))) := Lib.hid fun W hW => hmx ▸ DMany_c _ _ _ _ _ _ _ _ _ (HN.out.later hW)
          have HDN : Hid (∀ W, Only (w.heap.size ≤ ·) w W → Calls Tryd.prog 21 #[.int .i64 g, .agg #[.bool true, .slice A n c, .slice B 0 d], .int .i64 (mx : Nat)] W (Told W (.int .i64 t2))) := Lib.hid fun W hW => hs2 ▸ DRoom_c _ _ _ _ _ _ _ _ _ g mx (HN.out.later hW) HSM.out (by omega)
          have HDK : Hid (∀ W, Only (w.heap.size ≤ ·) w W → Calls Tryd.prog 21 #[.int .i64 g, .agg #[.bool true, .slice A n c, .slice B 0 d], .int .i64 (K : Nat)] W (Told W (.int .i64 u))) := Lib.hid fun W hW => hu ▸ DRoom_c _ _ _ _ _ _ _ _ _ g K (HN.out.later hW) HSM.out (by omega)
          have HDJ : Hid (∀ W, Only (w.heap.size ≤ ·) w W → Calls Tryd.prog 21 #[.int .i64 g, .agg #[.bool true, .slice A n c, .slice B 0 d], .int .i64 (K - 1 : Nat)] W (Told W (.int .i64 v))) := Lib.hid fun W hW => hv ▸ DRoom_c _ _ _ _ _ _ _ _ _ g (K - 1) (HN.out.later hW) HSM.out (by omega)
          have HYS : Hid (a1 + a2 = K ∧ t = mx) := Lib.hid ⟨hky, by rw [hmx]; exact HTT.out⟩
          have hw1 : IntKind.i64.wrap ((a1 : Int) + (a2 : Int)) = (K : Int) := by rw [IntWalk.i64_in _ (by omega)]; omega
          have hw2 : IntKind.i64.wrap (2 * u) = 2 * u := IntWalk.i64_in _ (by omega)
          have hw3 : IntKind.i64.wrap (2 * v) = 2 * v := IntWalk.i64_in _ (by omega)
          have hw4 : IntKind.i64.wrap ((mx : Int) - 1) = (mx : Int) - 1 := IntWalk.i64_in _ (by omega)
          have HBD : Hid ((1 : Nat) ≤ K ∧ K < mx ∧ (2 * u < t2 → K + 1 = mx) ∧ (1 < K → 2 * v < t2)) := Lib.hid ⟨hK1, hKm, huk, hvk⟩
          have hl0 : (0 : Int) < (l.length : Int) := by omega
          simp only [Nat.zero_mul, Nat.add_zero] at c0 c1 c2 c3
          clear hmx hy hy0 hky ha1 ha2 hu hv hs2 u1 u2 v1 v2 s1 s2 huk hvk hK1 hKm
          have KC : Hid (∀ W, Only (wr.heap.size ≤ ·) wr W → W.cell? ⟨pb, po + 2, none⟩ = some (.slice Q1 a1 q1) ∧ W.cell? ⟨pb, po + 3, none⟩ = some (.slice R1 a2 r1)) := Lib.hid fun W hW => ⟨(hW.cell (p := ⟨pb, po + 2, none⟩) (Nat.not_le.2 hpb)).trans c2, (hW.cell (p := ⟨pb, po + 3, none⟩) (Nat.not_le.2 hpb)).trans c3⟩
          have KB : Hid (∀ W, Only (wr.heap.size ≤ ·) wr W → W.cell? ⟨w.heap.size, 0, none⟩ = some (.bool true) ∧ W.cell? ⟨w.heap.size, 1, none⟩ = some (.slice A n c) ∧ W.cell? ⟨w.heap.size, 2, none⟩ = some (.slice B 0 d)) := Lib.hid fun W hW => (HB9.out.later hW).tri
          have HOZ : Hid (Only (wr.heap.size ≤ ·) wr wr.drew) := Lib.hid (Only.refl _ wr).drew
          clear hpb c0 c1 c2 c3
          go_wp2_with (fail)
          refine wp_region_held_drew (S := (fun W => W.cell? ⟨pb, po + 2, none⟩ = some (.slice Q1 a1 q1) ∧ W.cell? ⟨pb, po + 3, none⟩ = some (.slice R1 a2 r1))) (by kernel_rfl) (KC.out _ HOZ.out) (fun hHeld => ?_)
          refine take_one (i := 0) (d := 101) (oi := ?_) (v := ?_) ?_ (by kernel_rfl) (by kernel_rfl) (by kernel_rfl) (fun _ _ _ h => h) ?_ ?_ ?_ (by assumption) ?_
          case refine_3 => (simp only [List.getElem?_toArray, List.getElem?_cons_zero]; rfl)
          case refine_4 => rfl
          case refine_5 => rfl
          case refine_6 => (intro w' hSw; (try dsimp only at hSw); go_simp; (try with_reducible rfl))
          simp only [Act.put, List.setIfInBounds_toArray, List.set_cons_zero, List.set_cons_succ]
          refine take_one (i := 1) (d := 102) (oi := ?_) (v := ?_) ?_ (by kernel_rfl) (by kernel_rfl) (by kernel_rfl) (fun _ _ _ h => h) ?_ ?_ ?_ (by assumption) ?_
          case refine_3 => (simp only [List.getElem?_toArray, List.getElem?_cons_succ, List.getElem?_cons_zero]; rfl)
          case refine_4 => rfl
          case refine_5 => rfl
          case refine_6 => (intro w' hSw; (try dsimp only at hSw); go_simp; (try with_reducible rfl))
          simp only [Act.put, List.setIfInBounds_toArray, List.set_cons_zero, List.set_cons_succ]
          refine take_one (i := 2) (d := 103) (oi := ?_) (v := ?_) ?_ (by kernel_rfl) (by kernel_rfl) (by kernel_rfl) (fun _ _ _ h => h) ?_ ?_ ?_ (by assumption) ?_
          case refine_3 => (simp only [List.getElem?_toArray, List.getElem?_cons_succ, List.getElem?_cons_zero]; rfl)
          case refine_4 => rfl
          case refine_5 => rfl
          case refine_6 => (intro w' hSw; (try dsimp only at hSw); go_simp; (try with_reducible rfl))
          simp only [Act.put, List.setIfInBounds_toArray, List.set_cons_zero, List.set_cons_succ]
          refine take_one (i := 3) (d := 104) (oi := ?_) (v := ?_) ?_ (by kernel_rfl) (by kernel_rfl) (by kernel_rfl) (fun _ _ _ h => h) ?_ ?_ ?_ (by assumption) ?_
          case refine_3 => (simp only [List.getElem?_toArray, List.getElem?_cons_succ, List.getElem?_cons_zero]; rfl)
          case refine_4 => rfl
          case refine_5 => rfl
          case refine_6 => (intro w' hSw; (try dsimp only at hSw); go_simp; (try with_reducible rfl))
          simp only [Act.put, List.setIfInBounds_toArray, List.set_cons_zero, List.set_cons_succ]
          refine take_one (i := 4) (d := 105) (oi := ?_) (v := ?_) ?_ (by kernel_rfl) (by kernel_rfl) (by kernel_rfl) (fun _ _ _ h => h) ?_ ?_ ?_ (by assumption) ?_
          case refine_3 => (simp only [List.getElem?_toArray, List.getElem?_cons_succ, List.getElem?_cons_zero]; rfl)
          case refine_4 => rfl
          case refine_5 => rfl
          case refine_6 => (intro w' hSw; (try dsimp only at hSw); go_simp; (try with_reducible rfl))
          simp only [Act.put, List.setIfInBounds_toArray, List.set_cons_zero, List.set_cons_succ]
          refine take_one (i := 5) (d := 106) (oi := ?_) (v := ?_) ?_ (by kernel_rfl) (by kernel_rfl) (by kernel_rfl) (fun _ _ _ h => h) ?_ ?_ ?_ (by assumption) ?_
          case refine_3 => (simp only [List.getElem?_toArray, List.getElem?_cons_succ, List.getElem?_cons_zero]; rfl)
          case refine_4 => rfl
          case refine_5 => rfl
          case refine_6 => (intro w' hSw; (try dsimp only at hSw); go_simp; (try with_reducible rfl))
          simp only [Act.put, List.setIfInBounds_toArray, List.set_cons_zero, List.set_cons_succ]
          refine take_one (i := 6) (d := 107) (oi := ?_) (v := ?_) ?_ (by kernel_rfl) (by kernel_rfl) (by kernel_rfl) (fun _ _ _ h => h) ?_ ?_ ?_ (by assumption) ?_
          case refine_3 => (simp only [List.getElem?_toArray, List.getElem?_cons_succ, List.getElem?_cons_zero]; rfl)
          case refine_4 => rfl
          case refine_5 => rfl
          case refine_6 => (intro w' hSw; (try dsimp only at hSw); go_simp; (try with_reducible rfl))
          simp only [Act.put, List.setIfInBounds_toArray, List.set_cons_zero, List.set_cons_succ]
          refine take_one (i := 7) (d := 108) (oi := ?_) (v := ?_) ?_ (by kernel_rfl) (by kernel_rfl) (by kernel_rfl) (fun _ _ _ h => h) ?_ ?_ ?_ (by assumption) ?_
          case refine_3 => (simp only [List.getElem?_toArray, List.getElem?_cons_succ, List.getElem?_cons_zero]; rfl)
          case refine_4 => rfl
          case refine_5 => rfl
          case refine_6 => (intro w' hSw; (try dsimp only at hSw); go_simp; (try with_reducible rfl))
          simp only [Act.put, List.setIfInBounds_toArray, List.set_cons_zero, List.set_cons_succ]
          refine take_one (i := 8) (d := 109) (oi := ?_) (v := ?_) ?_ (by kernel_rfl) (by kernel_rfl) (by kernel_rfl) (fun _ _ _ h => h) ?_ ?_ ?_ (by assumption) ?_
          case refine_3 => (simp only [List.getElem?_toArray, List.getElem?_cons_succ, List.getElem?_cons_zero]; rfl)
          case refine_4 => rfl
          case refine_5 => rfl
          case refine_6 => (intro w' hSw; (try dsimp only at hSw); go_simp; (try with_reducible rfl))
          simp only [Act.put, List.setIfInBounds_toArray, List.set_cons_zero, List.set_cons_succ]
          refine take_one (i := 9) (d := 110) (oi := ?_) (v := ?_) ?_ (by kernel_rfl) (by kernel_rfl) (by kernel_rfl) (fun _ _ _ h => h) ?_ ?_ ?_ (by assumption) ?_
          case refine_3 => (simp only [List.getElem?_toArray, List.getElem?_cons_succ, List.getElem?_cons_zero]; rfl)
          case refine_4 => rfl
          case refine_5 => rfl
          case refine_6 => (intro w' hSw; (try dsimp only at hSw); go_simp; (try with_reducible rfl))
          simp only [Act.put, List.setIfInBounds_toArray, List.set_cons_zero, List.set_cons_succ]
          refine take_one (i := 10) (d := 111) (oi := ?_) (v := ?_) ?_ (by kernel_rfl) (by kernel_rfl) (by kernel_rfl) (fun _ _ _ h => h) ?_ ?_ ?_ (by assumption) ?_
          case refine_3 => (simp only [List.getElem?_toArray, List.getElem?_cons_succ, List.getElem?_cons_zero]; rfl)
          case refine_4 => rfl
          case refine_5 => rfl
          case refine_6 => (intro w' hSw; (try dsimp only at hSw); go_simp; (try with_reducible rfl))
          simp only [Act.put, List.setIfInBounds_toArray, List.set_cons_zero, List.set_cons_succ]
          refine take_one (i := 11) (d := 112) (oi := ?_) (v := ?_) ?_ (by kernel_rfl) (by kernel_rfl) (by kernel_rfl) (fun _ _ _ h => h) ?_ ?_ ?_ (by assumption) ?_
          case refine_3 => (simp only [List.getElem?_toArray, List.getElem?_cons_succ, List.getElem?_cons_zero]; rfl)
          case refine_4 => rfl
          case refine_5 => rfl
          case refine_6 => (intro w' hSw; (try dsimp only at hSw); go_simp; (try with_reducible rfl))
          simp only [Act.put, List.setIfInBounds_toArray, List.set_cons_zero, List.set_cons_succ]
          refine take_one (i := 12) (d := 113) (oi := ?_) (v := ?_) ?_ (by kernel_rfl) (by kernel_rfl) (by kernel_rfl) (fun _ _ _ h => h) ?_ ?_ ?_ (by assumption) ?_
          case refine_3 => (simp only [List.getElem?_toArray, List.getElem?_cons_succ, List.getElem?_cons_zero]; rfl)
          case refine_4 => rfl
          case refine_5 => rfl
          case refine_6 => (intro w' hSw; (try dsimp only at hSw); go_simp; (try with_reducible rfl))
          simp only [Act.put, List.setIfInBounds_toArray, List.set_cons_zero, List.set_cons_succ]
          refine take_one (i := 13) (d := 10) (oi := ?_) (v := ?_) ?_ (by kernel_rfl) (by kernel_rfl) (by kernel_rfl) (fun _ _ _ h => h) ?_ ?_ ?_ (by assumption) ?_
          case refine_3 => (simp only [List.getElem?_toArray, List.getElem?_cons_succ, List.getElem?_cons_zero]; rfl)
          case refine_4 => rfl
          case refine_5 => rfl
          case refine_6 => (intro w' hSw; (try dsimp only at hSw); go_simp; (try with_reducible rfl))
          simp only [Act.put, List.setIfInBounds_toArray, List.set_cons_zero, List.set_cons_succ]
          refine wpAnyH_done (by kernel_rfl) ?_ _
          clear KC
          go_wp2_with (fail)
          replace HOZ : Hid (Only (wr.heap.size ≤ ·) wr wr.drew.drew) := Lib.hid HOZ.out.drew
          refine wp_region_held_drew (S := (fun W => W.cell? ⟨w.heap.size, 0, none⟩ = some (.bool true) ∧ W.cell? ⟨w.heap.size, 1, none⟩ = some (.slice A n c) ∧ W.cell? ⟨w.heap.size, 2, none⟩ = some (.slice B 0 d))) (by kernel_rfl) (KB.out _ HOZ.out) (fun hHeld => ?_)
          obtain ⟨wz, hwz⟩ : ∃ wz, wz = wr.drew.drew := ⟨_, rfl⟩
          rw [← hwz] at HOZ hHeld
          rw [← hwz]
          clear hwz
          refine take_one (i := 0) (d := 114) (oi := ?_) (v := ?_) ?_ (by kernel_rfl) (by kernel_rfl) (by kernel_rfl) (fun _ _ _ h => h) ?_ ?_ ?_ (by assumption) ?_
          case refine_3 => (simp only [List.getElem?_toArray, List.getElem?_cons_zero]; rfl)
          case refine_4 => rfl
          case refine_5 => rfl
          case refine_6 => (intro w' hSw; (try dsimp only at hSw); go_simp; (try with_reducible rfl))
          simp only [Act.put, List.setIfInBounds_toArray, List.set_cons_zero, List.set_cons_succ]
          refine take_one (i := 1) (d := 115) (oi := ?_) (v := ?_) ?_ (by kernel_rfl) (by kernel_rfl) (by kernel_rfl) (fun _ _ _ h => h) ?_ ?_ ?_ (by assumption) ?_
          case refine_3 => (simp only [List.getElem?_toArray, List.getElem?_cons_succ, List.getElem?_cons_zero]; rfl)
          case refine_4 => rfl
          case refine_5 => rfl
          case refine_6 => (intro w' hSw; (try dsimp only at hSw); go_simp; (try with_reducible rfl))
          simp only [Act.put, List.setIfInBounds_toArray, List.set_cons_zero, List.set_cons_succ]
          refine take_one (i := 2) (d := 116) (oi := ?_) (v := ?_) ?_ (by kernel_rfl) (by kernel_rfl) (by kernel_rfl) (fun _ _ _ h => h) ?_ ?_ ?_ (by assumption) ?_
          case refine_3 => (simp only [List.getElem?_toArray, List.getElem?_cons_succ, List.getElem?_cons_zero]; rfl)
          case refine_4 => rfl
          case refine_5 => rfl
          case refine_6 => (intro w' hSw; (try dsimp only at hSw); go_simp; (try with_reducible rfl))
          simp only [Act.put, List.setIfInBounds_toArray, List.set_cons_zero, List.set_cons_succ]
          refine wpAnyH_ready (rs := [3]) (by kernel_rfl) (by simp) ?_
          refine AllReadyH.cons (o := ?_) ?_ (fun K hK => ?_) AllReadyH.nil
          case refine_2 => (simp only [List.getElem?_toArray, List.getElem?_cons_succ, List.getElem?_cons_zero]; rfl)
          go_simp
          (go_at_call 22; (with_reducible refine (HDM.out _ (on_new HO9.out HOZ.out)).mono ?_); rintro ee w7 ⟨rfl, ho⟩; (replace HOZ := Lib.hid (on_new HOZ.out ho)); clear ho)
          go_wp2_with (fail)
          refine hK.out _ _ (KB.out _ HOZ.out) (fun hHeld => ?_)
          clear hK K
          try simp only [Act.put, List.setIfInBounds_toArray, List.set_cons_zero, List.set_cons_succ]
          refine wpAnyH_ready (rs := [4]) (by kernel_rfl) (by simp) ?_
          refine AllReadyH.cons (o := ?_) ?_ (fun K hK => ?_) AllReadyH.nil
          case refine_2 => (simp only [List.getElem?_toArray, List.getElem?_cons_succ, List.getElem?_cons_zero]; rfl)
          go_simp
          (go_at_call 21; (with_reducible refine (HDN.out _ (on_new HO9.out HOZ.out)).mono ?_); rintro ee w8 ⟨rfl, ho⟩; (replace HOZ := Lib.hid (on_new HOZ.out ho)); clear ho)
          go_wp2_with (fail)
          refine hK.out _ _ (KB.out _ HOZ.out) (fun hHeld => ?_)
          clear hK K
          try simp only [Act.put, List.setIfInBounds_toArray, List.set_cons_zero, List.set_cons_succ]
          refine take_one (i := 5) (d := 11) (oi := ?_) (v := ?_) ?_ (by kernel_rfl) (by kernel_rfl) (by kernel_rfl) (fun _ _ _ h => h) ?_ ?_ ?_ (by assumption) ?_
          case refine_3 => (simp only [List.getElem?_toArray, List.getElem?_cons_succ, List.getElem?_cons_zero]; rfl)
          case refine_4 => rfl
          case refine_5 => rfl
          case refine_6 => (intro w' hSw; (try dsimp only at hSw); go_simp; (try with_reducible rfl))
          simp only [Act.put, List.setIfInBounds_toArray, List.set_cons_zero, List.set_cons_succ]
          refine wpAnyH_done (by kernel_rfl) ?_ _
          clear hHeld
          obtain ⟨b0, b1, b2⟩ := KB.out _ HOZ.out
          replace HO9 := Lib.hid (on_new HO9.out HOZ.out)
          replace HB9 := Lib.hid (HB9.out.later HOZ.out)
          clear KB HOZ
          obtain rfl : t = mx := HYS.out.2
          clear HTT HT HYS hw1
          by_cases hx1 : 2 * u < t2
          · have hkm : ¬ (K : Int) < (t : Int) - 1 := by have := HBD.out; have := this.2.2.1 hx1; omega
            by_cases hx2 : 1 < K
            · have hx2i : (1 : Int) < (K : Int) := by omega
              have hx3 : ¬ t2 ≤ 2 * v := by have := HBD.out.2.2.2 hx2; omega
              have hw5 : IntKind.i64.wrap ((K : Int) - 1) = ((K - 1 : Nat) : Int) := by have := HBD.out.2.1; rw [IntWalk.i64_in _ (by omega)]; omega
              clear hl2 hx2
              go_wp2_with (first
                | (go_at_call 7; (with_reducible refine (HAL.out _ HO9.out).mono ?_); rintro ee W9 ⟨rfl, ho⟩; (replace HO9 := Lib.hid (on_new HO9.out ho)); (replace HB9 := Lib.hid (HB9.out.later ho)); clear b0 b1 b2; (obtain ⟨b0, b1, b2⟩ := HB9.out.tri); clear ho)
                | (go_at_call 22; (with_reducible refine (HDM.out _ HO9.out).mono ?_); rintro ee W9 ⟨rfl, ho⟩; (replace HO9 := Lib.hid (on_new HO9.out ho)); (replace HB9 := Lib.hid (HB9.out.later ho)); clear b0 b1 b2; (obtain ⟨b0, b1, b2⟩ := HB9.out.tri); clear ho)
                | (go_at_call 21; (with_reducible refine (HDK.out _ HO9.out).mono ?_); rintro ee W9 ⟨rfl, ho⟩; (replace HO9 := Lib.hid (on_new HO9.out ho)); (replace HB9 := Lib.hid (HB9.out.later ho)); clear b0 b1 b2; (obtain ⟨b0, b1, b2⟩ := HB9.out.tri); clear ho)
                | (go_at_call 21; (with_reducible refine (HDJ.out _ HO9.out).mono ?_); rintro ee W9 ⟨rfl, ho⟩; (replace HO9 := Lib.hid (on_new HO9.out ho)); (replace HB9 := Lib.hid (HB9.out.later ho)); clear b0 b1 b2; (obtain ⟨b0, b1, b2⟩ := HB9.out.tri); clear ho))
              go_ret
              exact ⟨by simp, HO9.out⟩
            · have hx2i : ¬ (1 : Int) < (K : Int) := by omega
              clear hl2 hx2
              go_wp2_with (first
                | (go_at_call 7; (with_reducible refine (HAL.out _ HO9.out).mono ?_); rintro ee W9 ⟨rfl, ho⟩; (replace HO9 := Lib.hid (on_new HO9.out ho)); (replace HB9 := Lib.hid (HB9.out.later ho)); clear b0 b1 b2; (obtain ⟨b0, b1, b2⟩ := HB9.out.tri); clear ho)
                | (go_at_call 22; (with_reducible refine (HDM.out _ HO9.out).mono ?_); rintro ee W9 ⟨rfl, ho⟩; (replace HO9 := Lib.hid (on_new HO9.out ho)); (replace HB9 := Lib.hid (HB9.out.later ho)); clear b0 b1 b2; (obtain ⟨b0, b1, b2⟩ := HB9.out.tri); clear ho)
                | (go_at_call 21; (with_reducible refine (HDK.out _ HO9.out).mono ?_); rintro ee W9 ⟨rfl, ho⟩; (replace HO9 := Lib.hid (on_new HO9.out ho)); (replace HB9 := Lib.hid (HB9.out.later ho)); clear b0 b1 b2; (obtain ⟨b0, b1, b2⟩ := HB9.out.tri); clear ho)
                | (go_at_call 21; (with_reducible refine (HDJ.out _ HO9.out).mono ?_); rintro ee W9 ⟨rfl, ho⟩; (replace HO9 := Lib.hid (on_new HO9.out ho)); (replace HB9 := Lib.hid (HB9.out.later ho)); clear b0 b1 b2; (obtain ⟨b0, b1, b2⟩ := HB9.out.tri); clear ho))
              go_ret
              exact ⟨by simp, HO9.out⟩
          · by_cases hx2 : 1 < K
            · have hx2i : (1 : Int) < (K : Int) := by omega
              have hx3 : ¬ t2 ≤ 2 * v := by have := HBD.out.2.2.2 hx2; omega
              have hw5 : IntKind.i64.wrap ((K : Int) - 1) = ((K - 1 : Nat) : Int) := by have := HBD.out.2.1; rw [IntWalk.i64_in _ (by omega)]; omega
              clear hl2 hx2
              go_wp2_with (first
                | (go_at_call 7; (with_reducible refine (HAL.out _ HO9.out).mono ?_); rintro ee W9 ⟨rfl, ho⟩; (replace HO9 := Lib.hid (on_new HO9.out ho)); (replace HB9 := Lib.hid (HB9.out.later ho)); clear b0 b1 b2; (obtain ⟨b0, b1, b2⟩ := HB9.out.tri); clear ho)
                | (go_at_call 22; (with_reducible refine (HDM.out _ HO9.out).mono ?_); rintro ee W9 ⟨rfl, ho⟩; (replace HO9 := Lib.hid (on_new HO9.out ho)); (replace HB9 := Lib.hid (HB9.out.later ho)); clear b0 b1 b2; (obtain ⟨b0, b1, b2⟩ := HB9.out.tri); clear ho)
                | (go_at_call 21; (with_reducible refine (HDK.out _ HO9.out).mono ?_); rintro ee W9 ⟨rfl, ho⟩; (replace HO9 := Lib.hid (on_new HO9.out ho)); (replace HB9 := Lib.hid (HB9.out.later ho)); clear b0 b1 b2; (obtain ⟨b0, b1, b2⟩ := HB9.out.tri); clear ho)
                | (go_at_call 21; (with_reducible refine (HDJ.out _ HO9.out).mono ?_); rintro ee W9 ⟨rfl, ho⟩; (replace HO9 := Lib.hid (on_new HO9.out ho)); (replace HB9 := Lib.hid (HB9.out.later ho)); clear b0 b1 b2; (obtain ⟨b0, b1, b2⟩ := HB9.out.tri); clear ho))
              go_ret
              exact ⟨by simp, HO9.out⟩
            · have hx2i : ¬ (1 : Int) < (K : Int) := by omega
              clear hl2 hx2
              go_wp2_with (first
                | (go_at_call 7; (with_reducible refine (HAL.out _ HO9.out).mono ?_); rintro ee W9 ⟨rfl, ho⟩; (replace HO9 := Lib.hid (on_new HO9.out ho)); (replace HB9 := Lib.hid (HB9.out.later ho)); clear b0 b1 b2; (obtain ⟨b0, b1, b2⟩ := HB9.out.tri); clear ho)
                | (go_at_call 22; (with_reducible refine (HDM.out _ HO9.out).mono ?_); rintro ee W9 ⟨rfl, ho⟩; (replace HO9 := Lib.hid (on_new HO9.out ho)); (replace HB9 := Lib.hid (HB9.out.later ho)); clear b0 b1 b2; (obtain ⟨b0, b1, b2⟩ := HB9.out.tri); clear ho)
                | (go_at_call 21; (with_reducible refine (HDK.out _ HO9.out).mono ?_); rintro ee W9 ⟨rfl, ho⟩; (replace HO9 := Lib.hid (on_new HO9.out ho)); (replace HB9 := Lib.hid (HB9.out.later ho)); clear b0 b1 b2; (obtain ⟨b0, b1, b2⟩ := HB9.out.tri); clear ho)
                | (go_at_call 21; (with_reducible refine (HDJ.out _ HO9.out).mono ?_); rintro ee W9 ⟨rfl, ho⟩; (replace HO9 := Lib.hid (on_new HO9.out ho)); (replace HB9 := Lib.hid (HB9.out.later ho)); clear b0 b1 b2; (obtain ⟨b0, b1, b2⟩ := HB9.out.tri); clear ho))
              go_ret
              exact ⟨by simp, HO9.out⟩
        · have hl2i : ((l.length : Int) == 2) = false := by simp; omega
          have HB9 := Lib.hid (HB.out.later HU.out)
          have HO9 : Hid (Only (w.heap.size ≤ ·) w wr) := Lib.hid (on_new HO.out HU.out)
          have HDM : Hid (∀ W, Only (w.heap.size ≤ ·) w W → Calls Tryd.prog 22 #[.agg #[.bool true, .slice A n c, .slice B 0 d]] W (Told W (.int .i64 (many x : Nat)))) := Lib.hid fun W hW => DMany_c _ _ _ _ _ _ _ _ _ (HN.out.later hW)
          obtain ⟨b0, b1, b2⟩ := HB9.out.tri
          go_wp2_with (first
            | (go_at_call 7; (with_reducible refine (HAL.out _ HO9.out).mono ?_); rintro ee W9 ⟨rfl, ho⟩; (replace HO9 := Lib.hid (on_new HO9.out ho)); (replace HB9 := Lib.hid (HB9.out.later ho)); clear b0 b1 b2; (obtain ⟨b0, b1, b2⟩ := HB9.out.tri); clear ho)
            | (go_at_call 22; (with_reducible refine (HDM.out _ HO9.out).mono ?_); rintro ee W10 ⟨rfl, ho⟩; (replace HO9 := Lib.hid (on_new HO9.out ho)); clear ho))
          have htm := HTT.out
          subst htm
          go_ret
          exact ⟨by simp, HO9.out⟩
end Go.Proofs.YtjbbljnfgpggkaaDoor
