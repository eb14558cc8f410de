/-
  The document's reader of one entry, in a leaf.
-/
import Derived.Test.YtoghojgajpfkkaaGreatDoorRon
set_option linter.unusedVariables false
namespace Go.Proofs.YtoghojgajpfkkaaGreatDoor
open Go.RowKit

section
variable (w : World) (g : Int) (b : Bytes) (a q n cap : Nat) (bl o : Nat) (hq : tr g 4 8 8 = (q : Int)) (hq4 : 4 ≤ q) (hq8 : q ≤ 8) (hs : Src w (.slice (some ⟨bl, o, none⟩) n cap) b) (hn : n = b.length) (hnc : n ≤ cap) (hcap : cap ≤ 9223372036854775807) (hn2 : n ≤ 65536)
include hq hq4 hq8 hs hn hnc hcap hn2
set_option maxRecDepth 100000 in
set_option maxHeartbeats 25600000 in
theorem rone_leaf (han : a < n) (hce : cap ≠ a + 4) : Calls Tryz.prog 55 #[.int .i64 g, .bool true, .slice (some ⟨bl, o, none⟩) n cap, .int .i64 (a : Nat)] w (GaveO w (.slice (some ⟨bl, o, none⟩) n cap) b (oneF q true b a)) := by
  obtain ⟨L, hL⟩ : ∃ z, z = (b.getD a 0).toNat := ⟨_, rfl⟩
  have hL8 : L < 256 := by rw [hL]; exact UInt8.toNat_lt _
  have hcL : w.cell? ⟨bl, o + a, none⟩ = some (.int .u8 (L : Nat)) := by
    have hs2 := hs
    obtain ⟨A', c', e, ht, _⟩ := hs2
    simp only [Value.slice.injEq] at e
    obtain ⟨rfl, e2, rfl⟩ := e
    obtain ⟨ad, ea, hc⟩ := ht.2 (by omega)
    cases ea
    have h1 := hc a (.int .u8 (L : Nat)) (by unfold cb; rw [List.getElem?_map, List.getElem?_eq_getElem (by omega), hL, List.getD_eq_getElem?_getD, List.getElem?_eq_getElem (by omega)]; rfl)
    rwa [Addr.add_lit] at h1
  have KB : Hid (∀ W, Only (w.heap.size ≤ ·) w W → W.cell? ⟨bl, o + a, none⟩ = some (.int .u8 (L : Nat))) := Lib.hid fun W hW => (hW.cell (p := ⟨bl, o + a, none⟩) (Nat.not_le.2 (World.block_lt_of_cell? w _ hcL))).trans hcL
  have HS := Lib.hid hs
  obtain ⟨W0, hW0⟩ : ∃ W0, W0 = w.alloc (.cells #[.slice none 0 0, .slice none 0 0, .int .i64 0, .int .i64 0] 63) := ⟨_, rfl⟩
  obtain ⟨W1, hW1⟩ : ∃ W1, W1 = W0.alloc (.cells #[.slice none 0 0, .slice none 0 0, .int .i64 0, .int .i64 0] 63) := ⟨_, rfl⟩
  have HL : Hid (Only (w.heap.size ≤ ·) w W1) := Lib.hid (by rw [hW1, hW0]; exact ((Only.refl _ w).alloc (fun _ h => h) _).alloc (fun _ h => h) _)
  have HB : Hid (Blk W1 (w.heap.size + 1) 63 [.slice none 0 0, .slice none 0 0, .int .i64 0, .int .i64 0]) := Lib.hid (by have h := Blk.new W0 63 [.slice none 0 0, .slice none 0 0, .int .i64 0, .int .i64 0]; rw [← hW1, hW0] at h; simpa using h)
  have HR : Hid (Blk W1 w.heap.size 63 [.slice none 0 0, .slice none 0 0, .int .i64 0, .int .i64 0]) := Lib.hid (by rw [hW1, hW0]; exact (Blk.new w 63 _).alloc _)
  have HIW : Hid (∀ W, Calls Tryz.prog 53 #[.int .i64 g] W fun e w' => e = .returned (.int .i64 (q : Nat)) ∧ W = w') := Lib.hid fun W => by have := rIdWidth_c W g; rwa [hq] at this
  have wr1 : ∀ z : Int, 0 ≤ z → z ≤ 1000000 → IntKind.i64.wrap z = z := fun z h1 h2 => IntWalk.i64_in _ (by omega)
  have j0 : (a : Int) < (n : Int) := by omega
  have j00 : ¬ (n : Int) ≤ (a : Int) := by omega
  have j000 : (0 : Int) ≤ (a : Int) := by omega
  have e0 : IntKind.i64.wrap (L : Int) = (L : Int) := wr1 _ (by omega) (by omega)
  have e4 : IntKind.i64.wrap ((a : Int) + 4) = ((a + 4 : Nat) : Int) := by rw [wr1 _ (by omega) (by omega)]; omega
  have e5 : IntKind.i64.wrap (((a + 4 : Nat) : Int) + (L : Int)) = ((a + 4 + L : Nat) : Int) := by rw [wr1 _ (by omega) (by omega)]; omega
  by_cases hlt : n < a + 4 + L
  · have HOF : Hid (oneF q true b a = none) := Lib.hid (by unfold oneF; rw [← hL, if_neg (by omega), if_neg (by decide), if_pos (by omega)])
    have j2 : (n : Int) < (a : Int) + 4 + (L : Int) := by omega
    clear hs hn hL hcL
    go_enter Tryz.func55, Tryz.ntmps55
    go_upto_region 2 with (fail)
    rw [← hW0, ← hW1]
    clear hW0 hW1
    have i0 := KB.out _ HL.out
    obtain ⟨b0, b1, b2, b3⟩ := HB.out.four
    obtain ⟨c0, c1, c2, c3⟩ := HR.out.four
    have f0 := HB.out.frozen 0
    have f1 := HB.out.frozen 1
    have f2 := HB.out.frozen 2
    have f3 := HB.out.frozen 3
    have y0 := HR.out.frozen 0
    have y1 := HR.out.frozen 1
    have y2 := HR.out.frozen 2
    have y3 := HR.out.frozen 3
    go_wp2_with (go_at_call 53; (with_reducible refine (HIW.out _).mono ?_); rintro ee w' ⟨rfl, rfl⟩)
    exact bodyPost_ret (results_cell_tmp rfl rfl (rload_item ((((HR.out.set_ 0 _).set_ 1 _).set_ 2 _).set_ 3 _))) rfl ⟨((((HL.out.setCell (p := ⟨w.heap.size, 0, none⟩) (Nat.le_refl _) _).setCell (p := ⟨w.heap.size, 1, none⟩) (Nat.le_refl _) _).setCell (p := ⟨w.heap.size, 2, none⟩) (Nat.le_refl _) _).setCell (p := ⟨w.heap.size, 3, none⟩) (Nat.le_refl _) _), _, _, _, _, _, _, _, _, _, rfl, fun _ => rfl, fun y hy => (by rw [HOF.out] at hy; cases hy)⟩
  have j2 : ¬ (n : Int) < (a : Int) + 4 + (L : Int) := by omega
  have k1 : (0 : Int) ≤ (a : Int) + 4 := by omega
  have k2 : (a : Int) + 4 ≤ (a : Int) + 4 + (L : Int) := by omega
  have k3 : (a : Int) + 4 + (L : Int) ≤ (cap : Int) := by omega
  have k4 : (0 : Int) ≤ (a : Int) + 2 := by omega
  have k5 : (a : Int) + 4 ≤ (cap : Int) := by omega
  have k6 : ¬ cap = a + 2 := by omega
  have k7 : (a : Int) + 2 ≤ (a : Int) + 4 := by omega
  have k8 : (a : Int) + 1 < (n : Int) := by omega
  have k9 : (0 : Int) ≤ (a : Int) + 1 := by omega
  have k10 : a + 1 < n := by omega
  have e1 : IntKind.i64.wrap ((a : Int) + 1) = ((a + 1 : Nat) : Int) := by rw [wr1 _ (by omega) (by omega)]; omega
  have e2 : IntKind.i64.wrap ((a : Int) + 2) = ((a + 2 : Nat) : Int) := by rw [wr1 _ (by omega) (by omega)]; omega
  obtain ⟨F, hF⟩ : ∃ z, z = (b.getD (a + 1) 0).toNat := ⟨_, rfl⟩
  have hF8 : F < 256 := by rw [hF]; exact UInt8.toNat_lt _
  have hcF : w.cell? ⟨bl, o + (a + 1), none⟩ = some (.int .u8 (F : Nat)) := by
    have hs2 := hs
    obtain ⟨A', c', e, ht, _⟩ := hs2
    simp only [Value.slice.injEq] at e
    obtain ⟨rfl, e2, rfl⟩ := e
    obtain ⟨ad, ea, hc⟩ := ht.2 (by omega)
    cases ea
    have h1 := hc (a + 1) (.int .u8 (F : Nat)) (by unfold cb; rw [List.getElem?_map, List.getElem?_eq_getElem (by omega), hF, List.getD_eq_getElem?_getD, List.getElem?_eq_getElem (by omega)]; rfl)
    rwa [Addr.add_lit] at h1
  have KF : Hid (∀ W, Only (w.heap.size ≤ ·) w W → W.cell? ⟨bl, o + (a + 1), none⟩ = some (.int .u8 (F : Nat))) := Lib.hid fun W hW => (hW.cell (p := ⟨bl, o + (a + 1), none⟩) (Nat.not_le.2 (World.block_lt_of_cell? w _ hcF))).trans hcF
  obtain ⟨Z, hZ⟩ : ∃ z, z = num ((b.drop (a + 2)).take 2) := ⟨_, rfl⟩
  have hZ8 : Z < 65536 := by
    have h := num_lt ((b.drop (a + 2)).take 2)
    rw [← hZ, List.length_take, List.length_drop, show min 2 (b.length - (a + 2)) = 2 from by omega] at h
    omega
  have HNZ0 : Hid (∀ W, Only (w.heap.size ≤ ·) w W → Calls Tryz.prog 52 #[.slice (some ⟨bl, o + (a + 2), none⟩) (2) (cap - (a + 2))] W (Told W (.int .i64 ((Z : Nat))))) := Lib.hid fun W hW => by
    have h := src_part (hs.later hW) (a := a + 2) (z := a + 2 + (2)) (by omega) (by omega)
    rw [show a + 2 + (2) - (a + 2) = 2 from by omega] at h
    have h2 := rnumber_c W _ _ h (by rw [List.length_take]; omega)
    rwa [show rnum ((b.drop (a + 2)).take 2) = (Z : Nat) from by unfold rnum; rw [if_neg (by rw [List.length_take]; omega), hZ]] at h2
  have HNZ : Hid (∀ W, Only (w.heap.size ≤ ·) w W → ∀ cc, cc = cap - (a + 2) → Calls Tryz.prog 52 #[.slice (some ⟨bl, o + (a + 2), none⟩) 2 cc] W (Told W (.int .i64 (Z : Nat)))) := Lib.hid fun W hW cc hcc => by rw [hcc]; exact HNZ0.out W hW
  have k11 : ¬ cap = a + 4 := hce
  have HKS : Hid (∀ W, Src W (.slice (some ⟨bl, o, none⟩) n cap) b → Src W (.slice (some ⟨bl, o + (a + 4), none⟩) L (cap - (a + 4))) ((b.drop (a + 4)).take L)) := Lib.hid fun W hW => by
    have h := src_part hW (a := a + 4) (z := a + 4 + L) (by omega) (by omega)
    rwa [show a + 4 + L - (a + 4) = L from by omega] at h
  have HKL : Hid (((b.drop (a + 4)).take L).length = L) := Lib.hid (by rw [List.length_take, List.length_drop]; omega)
  by_cases hF0 : F = 0
  · have e6 : IntKind.i64.wrap (((a + 4 + L : Nat) : Int) + (Z : Int)) = ((a + 4 + L + Z : Nat) : Int) := by rw [wr1 _ (by omega) (by omega)]; omega
    by_cases hnz : n < a + 4 + L + Z
    · have HOF : Hid (oneF q true b a = none) := Lib.hid (by unfold oneF; rw [← hL, ← hF, ← hZ, if_neg (by omega), if_neg (by decide), if_neg (by omega), if_pos hF0, if_pos (by omega)])
      have j3 : (n : Int) < (a : Int) + 4 + (L : Int) + (Z : Int) := by omega
      clear hs hn hL hcL hF hcF hZ
      subst hF0
      go_enter Tryz.func55, Tryz.ntmps55
      go_upto_region 2 with (fail)
      rw [← hW0, ← hW1]
      clear hW0 hW1
      have i0 := KB.out _ HL.out
      obtain ⟨b0, b1, b2, b3⟩ := HB.out.four
      obtain ⟨c0, c1, c2, c3⟩ := HR.out.four
      have f0 := HB.out.frozen 0
      have f1 := HB.out.frozen 1
      have f2 := HB.out.frozen 2
      have f3 := HB.out.frozen 3
      have y0 := HR.out.frozen 0
      have y1 := HR.out.frozen 1
      have y2 := HR.out.frozen 2
      have y3 := HR.out.frozen 3
      have z1 := KF.out _ HL.out
      go_upto_region 16 with (go_at_call 53; (with_reducible refine (HIW.out _).mono ?_); rintro ee w' ⟨rfl, rfl⟩)
      obtain ⟨wy, hwy⟩ : ∃ wy, wy = World.setCell W1 ⟨w.heap.size + 1, 0, none⟩ (.slice (some ⟨bl, o + (a + 4), none⟩) L (cap - (a + 4))) := ⟨_, rfl⟩
      rw [← hwy]
      replace HB : Hid (Blk wy (w.heap.size + 1) 63 [.slice (some ⟨bl, o + (a + 4), none⟩) L (cap - (a + 4)), .slice none 0 0, .int .i64 0, .int .i64 0]) := Lib.hid (by rw [hwy]; exact HB.out.set_ 0 _)
      replace HR : Hid (Blk wy w.heap.size 63 [.slice none 0 0, .slice none 0 0, .int .i64 0, .int .i64 0]) := Lib.hid (by rw [hwy]; exact HR.out.far (p := ⟨w.heap.size + 1, 0, none⟩) (Nat.ne_of_lt (Nat.lt_succ_self _)) _)
      replace HL : Hid (Only (w.heap.size ≤ ·) w wy) := Lib.hid (by rw [hwy]; exact HL.out.setCell (p := ⟨w.heap.size + 1, 0, none⟩) (Nat.le_succ _) _)
      clear hwy
      clear i0 b0 b1 b2 b3 c0 c1 c2 c3 f0 f1 f2 f3 y0 y1 y2 y3
      have i0 := KB.out _ HL.out
      obtain ⟨b0, b1, b2, b3⟩ := HB.out.four
      obtain ⟨c0, c1, c2, c3⟩ := HR.out.four
      have f0 := HB.out.frozen 0
      have f1 := HB.out.frozen 1
      have f2 := HB.out.frozen 2
      have f3 := HB.out.frozen 3
      have y0 := HR.out.frozen 0
      have y1 := HR.out.frozen 1
      have y2 := HR.out.frozen 2
      have y3 := HR.out.frozen 3
      replace z1 := KF.out _ HL.out
      go_wp2_with (go_at_call 52; (with_reducible refine (HNZ.out _ HL.out _ (by omega)).mono ?_); rintro ee w5 ⟨rfl, ho⟩; (replace HB := Lib.hid (HB.out.later ho)); (replace HR := Lib.hid (HR.out.later ho)); (replace HL := Lib.hid (on_new HL.out ho)); clear ho; clear i0 b0 b1 b2 b3 c0 c1 c2 c3 f0 f1 f2 f3 y0 y1 y2 y3 z1; have i0 := KB.out _ HL.out; (obtain ⟨b0, b1, b2, b3⟩ := HB.out.four); (obtain ⟨c0, c1, c2, c3⟩ := HR.out.four); have f0 := HB.out.frozen 0; have f1 := HB.out.frozen 1; have f2 := HB.out.frozen 2; have f3 := HB.out.frozen 3; have y0 := HR.out.frozen 0; have y1 := HR.out.frozen 1; have y2 := HR.out.frozen 2; have y3 := HR.out.frozen 3; have z1 := KF.out _ HL.out)
      exact bodyPost_ret (results_cell_tmp rfl rfl (rload_item ((((HR.out.set_ 0 _).set_ 1 _).set_ 2 _).set_ 3 _))) rfl ⟨((((HL.out.setCell (p := ⟨w.heap.size, 0, none⟩) (Nat.le_refl _) _).setCell (p := ⟨w.heap.size, 1, none⟩) (Nat.le_refl _) _).setCell (p := ⟨w.heap.size, 2, none⟩) (Nat.le_refl _) _).setCell (p := ⟨w.heap.size, 3, none⟩) (Nat.le_refl _) _), _, _, _, _, _, _, _, _, _, rfl, fun _ => rfl, fun y hy => (by rw [HOF.out] at hy; cases hy)⟩
    · have HOF : Hid (oneF q true b a = some (((b.drop (a + 4)).take L, (b.drop (a + 4 + L)).take Z, 0, 0), a + 4 + L + Z)) := Lib.hid (by unfold oneF; rw [← hL, ← hF, ← hZ, if_neg (by omega), if_neg (by decide), if_neg (by omega), if_pos hF0, if_neg (by omega)])
      have HVL : Hid (((b.drop (a + 4 + L)).take Z).length = Z) := Lib.hid (by rw [List.length_take, List.length_drop]; omega)
      have j3 : ¬ (n : Int) < (a : Int) + 4 + (L : Int) + (Z : Int) := by omega
      have m1 : (0 : Int) ≤ (a : Int) + 4 + (L : Int) := by omega
      have m2 : (a : Int) + 4 + (L : Int) ≤ (a : Int) + 4 + (L : Int) + (Z : Int) := by omega
      have m3 : (a : Int) + 4 + (L : Int) + (Z : Int) ≤ (cap : Int) := by omega
      have HVP : Hid (∀ P : Option Addr, (if cap = a + 4 + L then some (⟨bl, o, none⟩ : Addr) else some ⟨bl, o + (a + 4 + L), none⟩) = P → ∀ W, Src W (.slice (some ⟨bl, o, none⟩) n cap) b → Src W (.slice P Z (cap - (a + 4 + L))) ((b.drop (a + 4 + L)).take Z)) := Lib.hid fun P hP W hW => by
        have h := src_cut hW (a := a + 4 + L) (z := a + 4 + L + Z) (by omega) (by omega) hP
        rwa [show a + 4 + L + Z - (a + 4 + L) = Z from by omega] at h
      by_cases hve : cap = a + 4 + L
      · have HVS := Lib.hid (HVP.out (some ⟨bl, o, none⟩) (if_pos hve))
        obtain rfl : Z = 0 := by omega
        clear hs hn hL hcL hF hcF hZ
        subst hF0
        subst hve
        rw [Nat.sub_self] at HVS
        rw [show a + 4 + L - (a + 4) = L from by omega] at HKS
        go_enter Tryz.func55, Tryz.ntmps55
        go_upto_region 2 with (fail)
        rw [← hW0, ← hW1]
        clear hW0 hW1
        have i0 := KB.out _ HL.out
        obtain ⟨b0, b1, b2, b3⟩ := HB.out.four
        obtain ⟨c0, c1, c2, c3⟩ := HR.out.four
        have f0 := HB.out.frozen 0
        have f1 := HB.out.frozen 1
        have f2 := HB.out.frozen 2
        have f3 := HB.out.frozen 3
        have y0 := HR.out.frozen 0
        have y1 := HR.out.frozen 1
        have y2 := HR.out.frozen 2
        have y3 := HR.out.frozen 3
        have z1 := KF.out _ HL.out
        go_upto_region 16 with (go_at_call 53; (with_reducible refine (HIW.out _).mono ?_); rintro ee w' ⟨rfl, rfl⟩)
        obtain ⟨wy, hwy⟩ : ∃ wy, wy = World.setCell W1 ⟨w.heap.size + 1, 0, none⟩ (.slice (some ⟨bl, o + (a + 4), none⟩) L L) := ⟨_, rfl⟩
        rw [← hwy]
        replace HB : Hid (Blk wy (w.heap.size + 1) 63 [.slice (some ⟨bl, o + (a + 4), none⟩) L L, .slice none 0 0, .int .i64 0, .int .i64 0]) := Lib.hid (by rw [hwy]; exact HB.out.set_ 0 _)
        replace HR : Hid (Blk wy w.heap.size 63 [.slice none 0 0, .slice none 0 0, .int .i64 0, .int .i64 0]) := Lib.hid (by rw [hwy]; exact HR.out.far (p := ⟨w.heap.size + 1, 0, none⟩) (Nat.ne_of_lt (Nat.lt_succ_self _)) _)
        replace HL : Hid (Only (w.heap.size ≤ ·) w wy) := Lib.hid (by rw [hwy]; exact HL.out.setCell (p := ⟨w.heap.size + 1, 0, none⟩) (Nat.le_succ _) _)
        clear hwy
        clear i0 b0 b1 b2 b3 c0 c1 c2 c3 f0 f1 f2 f3 y0 y1 y2 y3
        have i0 := KB.out _ HL.out
        obtain ⟨b0, b1, b2, b3⟩ := HB.out.four
        obtain ⟨c0, c1, c2, c3⟩ := HR.out.four
        have f0 := HB.out.frozen 0
        have f1 := HB.out.frozen 1
        have f2 := HB.out.frozen 2
        have f3 := HB.out.frozen 3
        have y0 := HR.out.frozen 0
        have y1 := HR.out.frozen 1
        have y2 := HR.out.frozen 2
        have y3 := HR.out.frozen 3
        replace z1 := KF.out _ HL.out
        go_upto_region 21 with (go_at_call 52; (with_reducible refine (HNZ.out _ HL.out _ (by omega)).mono ?_); rintro ee w5 ⟨rfl, ho⟩; (replace HB := Lib.hid (HB.out.later ho)); (replace HR := Lib.hid (HR.out.later ho)); (replace HL := Lib.hid (on_new HL.out ho)); clear ho; clear i0 b0 b1 b2 b3 c0 c1 c2 c3 f0 f1 f2 f3 y0 y1 y2 y3 z1; have i0 := KB.out _ HL.out; (obtain ⟨b0, b1, b2, b3⟩ := HB.out.four); (obtain ⟨c0, c1, c2, c3⟩ := HR.out.four); have f0 := HB.out.frozen 0; have f1 := HB.out.frozen 1; have f2 := HB.out.frozen 2; have f3 := HB.out.frozen 3; have y0 := HR.out.frozen 0; have y1 := HR.out.frozen 1; have y2 := HR.out.frozen 2; have y3 := HR.out.frozen 3; have z1 := KF.out _ HL.out)
        obtain ⟨wy, hwy⟩ : ∃ wy, wy = World.setCell w5 ⟨w.heap.size + 1, 1, none⟩ (.slice (some ⟨bl, o, none⟩) 0 0) := ⟨_, rfl⟩
        rw [← hwy]
        replace HB : Hid (Blk wy (w.heap.size + 1) 63 [.slice (some ⟨bl, o + (a + 4), none⟩) L L, .slice (some ⟨bl, o, none⟩) 0 0, .int .i64 0, .int .i64 0]) := Lib.hid (by rw [hwy]; exact HB.out.set_ 1 _)
        replace HR : Hid (Blk wy w.heap.size 63 [.slice none 0 0, .slice none 0 0, .int .i64 0, .int .i64 0]) := Lib.hid (by rw [hwy]; exact HR.out.far (p := ⟨w.heap.size + 1, 1, none⟩) (Nat.ne_of_lt (Nat.lt_succ_self _)) _)
        replace HL : Hid (Only (w.heap.size ≤ ·) w wy) := Lib.hid (by rw [hwy]; exact HL.out.setCell (p := ⟨w.heap.size + 1, 1, none⟩) (Nat.le_succ _) _)
        clear hwy
        clear i0 b0 b1 b2 b3 c0 c1 c2 c3 f0 f1 f2 f3 y0 y1 y2 y3 z1
        have i0 := KB.out _ HL.out
        obtain ⟨b0, b1, b2, b3⟩ := HB.out.four
        obtain ⟨c0, c1, c2, c3⟩ := HR.out.four
        have f0 := HB.out.frozen 0
        have f1 := HB.out.frozen 1
        have f2 := HB.out.frozen 2
        have f3 := HB.out.frozen 3
        have y0 := HR.out.frozen 0
        have y1 := HR.out.frozen 1
        have y2 := HR.out.frozen 2
        have y3 := HR.out.frozen 3
        go_wp2
        exact bodyPost_ret (results_cell_tmp rfl rfl (rload_item ((((HR.out.set_ 0 _).set_ 1 _).set_ 2 _).set_ 3 _))) rfl ⟨((((HL.out.setCell (p := ⟨w.heap.size, 0, none⟩) (Nat.le_refl _) _).setCell (p := ⟨w.heap.size, 1, none⟩) (Nat.le_refl _) _).setCell (p := ⟨w.heap.size, 2, none⟩) (Nat.le_refl _) _).setCell (p := ⟨w.heap.size, 3, none⟩) (Nat.le_refl _) _), _, _, _, _, _, _, _, _, _, rfl, fun h => (by rw [HOF.out] at h; cases h), fun y hy => (by rw [HOF.out] at hy; cases hy; exact ⟨by first | (push_cast; rfl) | omega | (push_cast; omega), HKL.out.symm, HVL.out.symm, HKS.out, HVS.out, rfl, rfl⟩)⟩
      · have HVS := Lib.hid (HVP.out (some ⟨bl, o + (a + 4 + L), none⟩) (if_neg hve))
        clear hs hn hL hcL hF hcF hZ
        subst hF0
        go_enter Tryz.func55, Tryz.ntmps55
        go_upto_region 2 with (fail)
        rw [← hW0, ← hW1]
        clear hW0 hW1
        have i0 := KB.out _ HL.out
        obtain ⟨b0, b1, b2, b3⟩ := HB.out.four
        obtain ⟨c0, c1, c2, c3⟩ := HR.out.four
        have f0 := HB.out.frozen 0
        have f1 := HB.out.frozen 1
        have f2 := HB.out.frozen 2
        have f3 := HB.out.frozen 3
        have y0 := HR.out.frozen 0
        have y1 := HR.out.frozen 1
        have y2 := HR.out.frozen 2
        have y3 := HR.out.frozen 3
        have z1 := KF.out _ HL.out
        go_upto_region 16 with (go_at_call 53; (with_reducible refine (HIW.out _).mono ?_); rintro ee w' ⟨rfl, rfl⟩)
        obtain ⟨wy, hwy⟩ : ∃ wy, wy = World.setCell W1 ⟨w.heap.size + 1, 0, none⟩ (.slice (some ⟨bl, o + (a + 4), none⟩) L (cap - (a + 4))) := ⟨_, rfl⟩
        rw [← hwy]
        replace HB : Hid (Blk wy (w.heap.size + 1) 63 [.slice (some ⟨bl, o + (a + 4), none⟩) L (cap - (a + 4)), .slice none 0 0, .int .i64 0, .int .i64 0]) := Lib.hid (by rw [hwy]; exact HB.out.set_ 0 _)
        replace HR : Hid (Blk wy w.heap.size 63 [.slice none 0 0, .slice none 0 0, .int .i64 0, .int .i64 0]) := Lib.hid (by rw [hwy]; exact HR.out.far (p := ⟨w.heap.size + 1, 0, none⟩) (Nat.ne_of_lt (Nat.lt_succ_self _)) _)
        replace HL : Hid (Only (w.heap.size ≤ ·) w wy) := Lib.hid (by rw [hwy]; exact HL.out.setCell (p := ⟨w.heap.size + 1, 0, none⟩) (Nat.le_succ _) _)
        clear hwy
        clear i0 b0 b1 b2 b3 c0 c1 c2 c3 f0 f1 f2 f3 y0 y1 y2 y3
        have i0 := KB.out _ HL.out
        obtain ⟨b0, b1, b2, b3⟩ := HB.out.four
        obtain ⟨c0, c1, c2, c3⟩ := HR.out.four
        have f0 := HB.out.frozen 0
        have f1 := HB.out.frozen 1
        have f2 := HB.out.frozen 2
        have f3 := HB.out.frozen 3
        have y0 := HR.out.frozen 0
        have y1 := HR.out.frozen 1
        have y2 := HR.out.frozen 2
        have y3 := HR.out.frozen 3
        replace z1 := KF.out _ HL.out
        go_upto_region 21 with (go_at_call 52; (with_reducible refine (HNZ.out _ HL.out _ (by omega)).mono ?_); rintro ee w5 ⟨rfl, ho⟩; (replace HB := Lib.hid (HB.out.later ho)); (replace HR := Lib.hid (HR.out.later ho)); (replace HL := Lib.hid (on_new HL.out ho)); clear ho; clear i0 b0 b1 b2 b3 c0 c1 c2 c3 f0 f1 f2 f3 y0 y1 y2 y3 z1; have i0 := KB.out _ HL.out; (obtain ⟨b0, b1, b2, b3⟩ := HB.out.four); (obtain ⟨c0, c1, c2, c3⟩ := HR.out.four); have f0 := HB.out.frozen 0; have f1 := HB.out.frozen 1; have f2 := HB.out.frozen 2; have f3 := HB.out.frozen 3; have y0 := HR.out.frozen 0; have y1 := HR.out.frozen 1; have y2 := HR.out.frozen 2; have y3 := HR.out.frozen 3; have z1 := KF.out _ HL.out)
        obtain ⟨wy, hwy⟩ : ∃ wy, wy = World.setCell w5 ⟨w.heap.size + 1, 1, none⟩ (.slice (some ⟨bl, o + (a + 4 + L), none⟩) Z (cap - (a + 4 + L))) := ⟨_, rfl⟩
        rw [← hwy]
        replace HB : Hid (Blk wy (w.heap.size + 1) 63 [.slice (some ⟨bl, o + (a + 4), none⟩) L (cap - (a + 4)), .slice (some ⟨bl, o + (a + 4 + L), none⟩) Z (cap - (a + 4 + L)), .int .i64 0, .int .i64 0]) := Lib.hid (by rw [hwy]; exact HB.out.set_ 1 _)
        replace HR : Hid (Blk wy w.heap.size 63 [.slice none 0 0, .slice none 0 0, .int .i64 0, .int .i64 0]) := Lib.hid (by rw [hwy]; exact HR.out.far (p := ⟨w.heap.size + 1, 1, none⟩) (Nat.ne_of_lt (Nat.lt_succ_self _)) _)
        replace HL : Hid (Only (w.heap.size ≤ ·) w wy) := Lib.hid (by rw [hwy]; exact HL.out.setCell (p := ⟨w.heap.size + 1, 1, none⟩) (Nat.le_succ _) _)
        clear hwy
        clear i0 b0 b1 b2 b3 c0 c1 c2 c3 f0 f1 f2 f3 y0 y1 y2 y3 z1
        have i0 := KB.out _ HL.out
        obtain ⟨b0, b1, b2, b3⟩ := HB.out.four
        obtain ⟨c0, c1, c2, c3⟩ := HR.out.four
        have f0 := HB.out.frozen 0
        have f1 := HB.out.frozen 1
        have f2 := HB.out.frozen 2
        have f3 := HB.out.frozen 3
        have y0 := HR.out.frozen 0
        have y1 := HR.out.frozen 1
        have y2 := HR.out.frozen 2
        have y3 := HR.out.frozen 3
        go_wp2
        exact bodyPost_ret (results_cell_tmp rfl rfl (rload_item ((((HR.out.set_ 0 _).set_ 1 _).set_ 2 _).set_ 3 _))) rfl ⟨((((HL.out.setCell (p := ⟨w.heap.size, 0, none⟩) (Nat.le_refl _) _).setCell (p := ⟨w.heap.size, 1, none⟩) (Nat.le_refl _) _).setCell (p := ⟨w.heap.size, 2, none⟩) (Nat.le_refl _) _).setCell (p := ⟨w.heap.size, 3, none⟩) (Nat.le_refl _) _), _, _, _, _, _, _, _, _, _, rfl, fun h => (by rw [HOF.out] at h; cases h), fun y hy => (by rw [HOF.out] at hy; cases hy; exact ⟨by first | (push_cast; rfl) | omega | (push_cast; omega), HKL.out.symm, HVL.out.symm, HKS.out, HVS.out, rfl, rfl⟩)⟩
  have hFi : ((F : Int) == 0) = false := by rw [beq_eq_false_iff_ne]; omega
  have hFn : ¬ (F : Int) = 0 := by omega
  have e7 : IntKind.i64.wrap (((a + 4 + L : Nat) : Int) + (q : Int)) = ((a + 4 + L + q : Nat) : Int) := by rw [wr1 _ (by omega) (by omega)]; omega
  by_cases hF1 : 1 < F
  · have hF1i : (1 : Int) < (F : Int) := by omega
    have HOF : Hid (oneF q true b a = none) := Lib.hid (by unfold oneF; rw [← hL, ← hF, if_neg (by omega), if_neg (by decide), if_neg (by omega), if_neg hF0, if_pos (.inl hF1)])
    clear hs hn hL hcL hF hcF hZ
    go_enter Tryz.func55, Tryz.ntmps55
    go_upto_region 2 with (fail)
    rw [← hW0, ← hW1]
    clear hW0 hW1
    have i0 := KB.out _ HL.out
    obtain ⟨b0, b1, b2, b3⟩ := HB.out.four
    obtain ⟨c0, c1, c2, c3⟩ := HR.out.four
    have f0 := HB.out.frozen 0
    have f1 := HB.out.frozen 1
    have f2 := HB.out.frozen 2
    have f3 := HB.out.frozen 3
    have y0 := HR.out.frozen 0
    have y1 := HR.out.frozen 1
    have y2 := HR.out.frozen 2
    have y3 := HR.out.frozen 3
    have z1 := KF.out _ HL.out
    go_upto_region 16 with (go_at_call 53; (with_reducible refine (HIW.out _).mono ?_); rintro ee w' ⟨rfl, rfl⟩)
    obtain ⟨wy, hwy⟩ : ∃ wy, wy = World.setCell W1 ⟨w.heap.size + 1, 0, none⟩ (.slice (some ⟨bl, o + (a + 4), none⟩) L (cap - (a + 4))) := ⟨_, rfl⟩
    rw [← hwy]
    replace HB : Hid (Blk wy (w.heap.size + 1) 63 [.slice (some ⟨bl, o + (a + 4), none⟩) L (cap - (a + 4)), .slice none 0 0, .int .i64 0, .int .i64 0]) := Lib.hid (by rw [hwy]; exact HB.out.set_ 0 _)
    replace HR : Hid (Blk wy w.heap.size 63 [.slice none 0 0, .slice none 0 0, .int .i64 0, .int .i64 0]) := Lib.hid (by rw [hwy]; exact HR.out.far (p := ⟨w.heap.size + 1, 0, none⟩) (Nat.ne_of_lt (Nat.lt_succ_self _)) _)
    replace HL : Hid (Only (w.heap.size ≤ ·) w wy) := Lib.hid (by rw [hwy]; exact HL.out.setCell (p := ⟨w.heap.size + 1, 0, none⟩) (Nat.le_succ _) _)
    clear hwy
    clear i0 b0 b1 b2 b3 c0 c1 c2 c3 f0 f1 f2 f3 y0 y1 y2 y3
    have i0 := KB.out _ HL.out
    obtain ⟨b0, b1, b2, b3⟩ := HB.out.four
    obtain ⟨c0, c1, c2, c3⟩ := HR.out.four
    have f0 := HB.out.frozen 0
    have f1 := HB.out.frozen 1
    have f2 := HB.out.frozen 2
    have f3 := HB.out.frozen 3
    have y0 := HR.out.frozen 0
    have y1 := HR.out.frozen 1
    have y2 := HR.out.frozen 2
    have y3 := HR.out.frozen 3
    replace z1 := KF.out _ HL.out
    go_wp2_with (go_at_call 52; (with_reducible refine (HNZ.out _ HL.out _ (by omega)).mono ?_); rintro ee w5 ⟨rfl, ho⟩; (replace HB := Lib.hid (HB.out.later ho)); (replace HR := Lib.hid (HR.out.later ho)); (replace HL := Lib.hid (on_new HL.out ho)); clear ho; clear i0 b0 b1 b2 b3 c0 c1 c2 c3 f0 f1 f2 f3 y0 y1 y2 y3 z1; have i0 := KB.out _ HL.out; (obtain ⟨b0, b1, b2, b3⟩ := HB.out.four); (obtain ⟨c0, c1, c2, c3⟩ := HR.out.four); have f0 := HB.out.frozen 0; have f1 := HB.out.frozen 1; have f2 := HB.out.frozen 2; have f3 := HB.out.frozen 3; have y0 := HR.out.frozen 0; have y1 := HR.out.frozen 1; have y2 := HR.out.frozen 2; have y3 := HR.out.frozen 3; have z1 := KF.out _ HL.out)
    exact bodyPost_ret (results_cell_tmp rfl rfl (rload_item ((((HR.out.set_ 0 _).set_ 1 _).set_ 2 _).set_ 3 _))) rfl ⟨((((HL.out.setCell (p := ⟨w.heap.size, 0, none⟩) (Nat.le_refl _) _).setCell (p := ⟨w.heap.size, 1, none⟩) (Nat.le_refl _) _).setCell (p := ⟨w.heap.size, 2, none⟩) (Nat.le_refl _) _).setCell (p := ⟨w.heap.size, 3, none⟩) (Nat.le_refl _) _), _, _, _, _, _, _, _, _, _, rfl, fun _ => rfl, fun y hy => (by rw [HOF.out] at hy; cases hy)⟩
  have hF1i : ¬ (1 : Int) < (F : Int) := by omega
  by_cases hnq : n < a + 4 + L + q
  · have HOF : Hid (oneF q true b a = none) := Lib.hid (by unfold oneF; rw [← hL, ← hF, if_neg (by omega), if_neg (by decide), if_neg (by omega), if_neg hF0, if_pos (.inr (by omega))])
    have j3 : (n : Int) < (a : Int) + 4 + (L : Int) + (q : Int) := by omega
    clear hs hn hL hcL hF hcF hZ
    go_enter Tryz.func55, Tryz.ntmps55
    go_upto_region 2 with (fail)
    rw [← hW0, ← hW1]
    clear hW0 hW1
    have i0 := KB.out _ HL.out
    obtain ⟨b0, b1, b2, b3⟩ := HB.out.four
    obtain ⟨c0, c1, c2, c3⟩ := HR.out.four
    have f0 := HB.out.frozen 0
    have f1 := HB.out.frozen 1
    have f2 := HB.out.frozen 2
    have f3 := HB.out.frozen 3
    have y0 := HR.out.frozen 0
    have y1 := HR.out.frozen 1
    have y2 := HR.out.frozen 2
    have y3 := HR.out.frozen 3
    have z1 := KF.out _ HL.out
    go_upto_region 16 with (go_at_call 53; (with_reducible refine (HIW.out _).mono ?_); rintro ee w' ⟨rfl, rfl⟩)
    obtain ⟨wy, hwy⟩ : ∃ wy, wy = World.setCell W1 ⟨w.heap.size + 1, 0, none⟩ (.slice (some ⟨bl, o + (a + 4), none⟩) L (cap - (a + 4))) := ⟨_, rfl⟩
    rw [← hwy]
    replace HB : Hid (Blk wy (w.heap.size + 1) 63 [.slice (some ⟨bl, o + (a + 4), none⟩) L (cap - (a + 4)), .slice none 0 0, .int .i64 0, .int .i64 0]) := Lib.hid (by rw [hwy]; exact HB.out.set_ 0 _)
    replace HR : Hid (Blk wy w.heap.size 63 [.slice none 0 0, .slice none 0 0, .int .i64 0, .int .i64 0]) := Lib.hid (by rw [hwy]; exact HR.out.far (p := ⟨w.heap.size + 1, 0, none⟩) (Nat.ne_of_lt (Nat.lt_succ_self _)) _)
    replace HL : Hid (Only (w.heap.size ≤ ·) w wy) := Lib.hid (by rw [hwy]; exact HL.out.setCell (p := ⟨w.heap.size + 1, 0, none⟩) (Nat.le_succ _) _)
    clear hwy
    clear i0 b0 b1 b2 b3 c0 c1 c2 c3 f0 f1 f2 f3 y0 y1 y2 y3
    have i0 := KB.out _ HL.out
    obtain ⟨b0, b1, b2, b3⟩ := HB.out.four
    obtain ⟨c0, c1, c2, c3⟩ := HR.out.four
    have f0 := HB.out.frozen 0
    have f1 := HB.out.frozen 1
    have f2 := HB.out.frozen 2
    have f3 := HB.out.frozen 3
    have y0 := HR.out.frozen 0
    have y1 := HR.out.frozen 1
    have y2 := HR.out.frozen 2
    have y3 := HR.out.frozen 3
    replace z1 := KF.out _ HL.out
    go_wp2_with (go_at_call 52; (with_reducible refine (HNZ.out _ HL.out _ (by omega)).mono ?_); rintro ee w5 ⟨rfl, ho⟩; (replace HB := Lib.hid (HB.out.later ho)); (replace HR := Lib.hid (HR.out.later ho)); (replace HL := Lib.hid (on_new HL.out ho)); clear ho; clear i0 b0 b1 b2 b3 c0 c1 c2 c3 f0 f1 f2 f3 y0 y1 y2 y3 z1; have i0 := KB.out _ HL.out; (obtain ⟨b0, b1, b2, b3⟩ := HB.out.four); (obtain ⟨c0, c1, c2, c3⟩ := HR.out.four); have f0 := HB.out.frozen 0; have f1 := HB.out.frozen 1; have f2 := HB.out.frozen 2; have f3 := HB.out.frozen 3; have y0 := HR.out.frozen 0; have y1 := HR.out.frozen 1; have y2 := HR.out.frozen 2; have y3 := HR.out.frozen 3; have z1 := KF.out _ HL.out)
    exact bodyPost_ret (results_cell_tmp rfl rfl (rload_item ((((HR.out.set_ 0 _).set_ 1 _).set_ 2 _).set_ 3 _))) rfl ⟨((((HL.out.setCell (p := ⟨w.heap.size, 0, none⟩) (Nat.le_refl _) _).setCell (p := ⟨w.heap.size, 1, none⟩) (Nat.le_refl _) _).setCell (p := ⟨w.heap.size, 2, none⟩) (Nat.le_refl _) _).setCell (p := ⟨w.heap.size, 3, none⟩) (Nat.le_refl _) _), _, _, _, _, _, _, _, _, _, rfl, fun _ => rfl, fun y hy => (by rw [HOF.out] at hy; cases hy)⟩
  have j3 : ¬ (n : Int) < (a : Int) + 4 + (L : Int) + (q : Int) := by omega
  have m1 : (0 : Int) ≤ (a : Int) + 4 + (L : Int) := by omega
  have m2 : (a : Int) + 4 + (L : Int) ≤ (a : Int) + 4 + (L : Int) + (q : Int) := by omega
  have m3 : (a : Int) + 4 + (L : Int) + (q : Int) ≤ (cap : Int) := by omega
  have m4 : ¬ cap = a + 4 + L := by omega
  have HNR : Hid (∀ W, Only (w.heap.size ≤ ·) w W → Calls Tryz.prog 52 #[.slice (some ⟨bl, o + (a + 4 + L), none⟩) (q) (cap - (a + 4 + L))] W (Told W (.int .i64 (rnum ((b.drop (a + 4 + L)).take q))))) := Lib.hid fun W hW => by
    have h := src_part (hs.later hW) (a := a + 4 + L) (z := a + 4 + L + (q)) (by omega) (by omega)
    rw [show a + 4 + L + (q) - (a + 4 + L) = q from by omega] at h
    exact rnumber_c W _ _ h (by rw [List.length_take]; omega)
  obtain ⟨rv, hrv⟩ : ∃ z, z = rnum ((b.drop (a + 4 + L)).take q) := ⟨_, rfl⟩
  rw [← hrv] at HNR
  by_cases hr0 : rv = 0
  · have HOF : Hid (oneF q true b a = none) := Lib.hid (by unfold oneF; rw [← hL, ← hF, ← hrv, if_neg (by omega), if_neg (by decide), if_neg (by omega), if_neg hF0, if_neg (by omega), if_pos hr0])
    clear hs hn hL hcL hF hcF hZ hrv
    subst hr0
    go_enter Tryz.func55, Tryz.ntmps55
    go_upto_region 2 with (fail)
    rw [← hW0, ← hW1]
    clear hW0 hW1
    have i0 := KB.out _ HL.out
    obtain ⟨b0, b1, b2, b3⟩ := HB.out.four
    obtain ⟨c0, c1, c2, c3⟩ := HR.out.four
    have f0 := HB.out.frozen 0
    have f1 := HB.out.frozen 1
    have f2 := HB.out.frozen 2
    have f3 := HB.out.frozen 3
    have y0 := HR.out.frozen 0
    have y1 := HR.out.frozen 1
    have y2 := HR.out.frozen 2
    have y3 := HR.out.frozen 3
    have z1 := KF.out _ HL.out
    go_upto_region 16 with (go_at_call 53; (with_reducible refine (HIW.out _).mono ?_); rintro ee w' ⟨rfl, rfl⟩)
    obtain ⟨wy, hwy⟩ : ∃ wy, wy = World.setCell W1 ⟨w.heap.size + 1, 0, none⟩ (.slice (some ⟨bl, o + (a + 4), none⟩) L (cap - (a + 4))) := ⟨_, rfl⟩
    rw [← hwy]
    replace HB : Hid (Blk wy (w.heap.size + 1) 63 [.slice (some ⟨bl, o + (a + 4), none⟩) L (cap - (a + 4)), .slice none 0 0, .int .i64 0, .int .i64 0]) := Lib.hid (by rw [hwy]; exact HB.out.set_ 0 _)
    replace HR : Hid (Blk wy w.heap.size 63 [.slice none 0 0, .slice none 0 0, .int .i64 0, .int .i64 0]) := Lib.hid (by rw [hwy]; exact HR.out.far (p := ⟨w.heap.size + 1, 0, none⟩) (Nat.ne_of_lt (Nat.lt_succ_self _)) _)
    replace HL : Hid (Only (w.heap.size ≤ ·) w wy) := Lib.hid (by rw [hwy]; exact HL.out.setCell (p := ⟨w.heap.size + 1, 0, none⟩) (Nat.le_succ _) _)
    clear hwy
    clear i0 b0 b1 b2 b3 c0 c1 c2 c3 f0 f1 f2 f3 y0 y1 y2 y3
    have i0 := KB.out _ HL.out
    obtain ⟨b0, b1, b2, b3⟩ := HB.out.four
    obtain ⟨c0, c1, c2, c3⟩ := HR.out.four
    have f0 := HB.out.frozen 0
    have f1 := HB.out.frozen 1
    have f2 := HB.out.frozen 2
    have f3 := HB.out.frozen 3
    have y0 := HR.out.frozen 0
    have y1 := HR.out.frozen 1
    have y2 := HR.out.frozen 2
    have y3 := HR.out.frozen 3
    replace z1 := KF.out _ HL.out
    go_upto_region 25 with (go_at_call 52; (with_reducible refine (HNZ.out _ HL.out _ (by omega)).mono ?_); rintro ee w5 ⟨rfl, ho⟩; (replace HB := Lib.hid (HB.out.later ho)); (replace HR := Lib.hid (HR.out.later ho)); (replace HL := Lib.hid (on_new HL.out ho)); clear ho; clear i0 b0 b1 b2 b3 c0 c1 c2 c3 f0 f1 f2 f3 y0 y1 y2 y3 z1; have i0 := KB.out _ HL.out; (obtain ⟨b0, b1, b2, b3⟩ := HB.out.four); (obtain ⟨c0, c1, c2, c3⟩ := HR.out.four); have f0 := HB.out.frozen 0; have f1 := HB.out.frozen 1; have f2 := HB.out.frozen 2; have f3 := HB.out.frozen 3; have y0 := HR.out.frozen 0; have y1 := HR.out.frozen 1; have y2 := HR.out.frozen 2; have y3 := HR.out.frozen 3; have z1 := KF.out _ HL.out)
    obtain ⟨wy, hwy⟩ : ∃ wy, wy = World.setCell w5 ⟨w.heap.size + 1, 2, none⟩ (.int .i64 (Z : Nat)) := ⟨_, rfl⟩
    rw [← hwy]
    replace HB : Hid (Blk wy (w.heap.size + 1) 63 [.slice (some ⟨bl, o + (a + 4), none⟩) L (cap - (a + 4)), .slice none 0 0, .int .i64 (Z : Nat), .int .i64 0]) := Lib.hid (by rw [hwy]; exact HB.out.set_ 2 _)
    replace HR : Hid (Blk wy w.heap.size 63 [.slice none 0 0, .slice none 0 0, .int .i64 0, .int .i64 0]) := Lib.hid (by rw [hwy]; exact HR.out.far (p := ⟨w.heap.size + 1, 2, none⟩) (Nat.ne_of_lt (Nat.lt_succ_self _)) _)
    replace HL : Hid (Only (w.heap.size ≤ ·) w wy) := Lib.hid (by rw [hwy]; exact HL.out.setCell (p := ⟨w.heap.size + 1, 2, none⟩) (Nat.le_succ _) _)
    clear hwy
    clear i0 b0 b1 b2 b3 c0 c1 c2 c3 f0 f1 f2 f3 y0 y1 y2 y3 z1
    have i0 := KB.out _ HL.out
    obtain ⟨b0, b1, b2, b3⟩ := HB.out.four
    obtain ⟨c0, c1, c2, c3⟩ := HR.out.four
    have f0 := HB.out.frozen 0
    have f1 := HB.out.frozen 1
    have f2 := HB.out.frozen 2
    have f3 := HB.out.frozen 3
    have y0 := HR.out.frozen 0
    have y1 := HR.out.frozen 1
    have y2 := HR.out.frozen 2
    have y3 := HR.out.frozen 3
    go_wp2_with (go_at_call 52; (with_reducible refine (HNR.out _ HL.out).mono ?_); rintro ee w5 ⟨rfl, ho⟩; (replace HB := Lib.hid (HB.out.later ho)); (replace HR := Lib.hid (HR.out.later ho)); (replace HL := Lib.hid (on_new HL.out ho)); clear ho; clear i0 b0 b1 b2 b3 c0 c1 c2 c3 f0 f1 f2 f3 y0 y1 y2 y3; have i0 := KB.out _ HL.out; (obtain ⟨b0, b1, b2, b3⟩ := HB.out.four); (obtain ⟨c0, c1, c2, c3⟩ := HR.out.four); have f0 := HB.out.frozen 0; have f1 := HB.out.frozen 1; have f2 := HB.out.frozen 2; have f3 := HB.out.frozen 3; have y0 := HR.out.frozen 0; have y1 := HR.out.frozen 1; have y2 := HR.out.frozen 2; have y3 := HR.out.frozen 3)
    exact bodyPost_ret (results_cell_tmp rfl rfl (rload_item (((((HR.out.far (p := ⟨w.heap.size + 1, 3, none⟩) (Nat.ne_of_lt (Nat.lt_succ_self _)) _).set_ 0 _).set_ 1 _).set_ 2 _).set_ 3 _))) rfl ⟨(((((HL.out.setCell (p := ⟨w.heap.size + 1, 3, none⟩) (Nat.le_succ _) _).setCell (p := ⟨w.heap.size, 0, none⟩) (Nat.le_refl _) _).setCell (p := ⟨w.heap.size, 1, none⟩) (Nat.le_refl _) _).setCell (p := ⟨w.heap.size, 2, none⟩) (Nat.le_refl _) _).setCell (p := ⟨w.heap.size, 3, none⟩) (Nat.le_refl _) _), _, _, _, _, _, _, _, _, _, rfl, fun _ => rfl, fun y hy => (by rw [HOF.out] at hy; cases hy)⟩
  · have hr0i : (rv == 0) = false := by rw [beq_eq_false_iff_ne]; exact hr0
    have HOF : Hid (oneF q true b a = some (((b.drop (a + 4)).take L, [], ((Z : Nat) : Int), rv), a + 4 + L + q)) := Lib.hid (by unfold oneF; rw [← hL, ← hF, ← hZ, ← hrv, if_neg (by omega), if_neg (by decide), if_neg (by omega), if_neg hF0, if_neg (by omega), if_neg hr0])
    clear hs hn hL hcL hF hcF hZ hrv
    go_enter Tryz.func55, Tryz.ntmps55
    go_upto_region 2 with (fail)
    rw [← hW0, ← hW1]
    clear hW0 hW1
    have i0 := KB.out _ HL.out
    obtain ⟨b0, b1, b2, b3⟩ := HB.out.four
    obtain ⟨c0, c1, c2, c3⟩ := HR.out.four
    have f0 := HB.out.frozen 0
    have f1 := HB.out.frozen 1
    have f2 := HB.out.frozen 2
    have f3 := HB.out.frozen 3
    have y0 := HR.out.frozen 0
    have y1 := HR.out.frozen 1
    have y2 := HR.out.frozen 2
    have y3 := HR.out.frozen 3
    have z1 := KF.out _ HL.out
    go_upto_region 16 with (go_at_call 53; (with_reducible refine (HIW.out _).mono ?_); rintro ee w' ⟨rfl, rfl⟩)
    obtain ⟨wy, hwy⟩ : ∃ wy, wy = World.setCell W1 ⟨w.heap.size + 1, 0, none⟩ (.slice (some ⟨bl, o + (a + 4), none⟩) L (cap - (a + 4))) := ⟨_, rfl⟩
    rw [← hwy]
    replace HB : Hid (Blk wy (w.heap.size + 1) 63 [.slice (some ⟨bl, o + (a + 4), none⟩) L (cap - (a + 4)), .slice none 0 0, .int .i64 0, .int .i64 0]) := Lib.hid (by rw [hwy]; exact HB.out.set_ 0 _)
    replace HR : Hid (Blk wy w.heap.size 63 [.slice none 0 0, .slice none 0 0, .int .i64 0, .int .i64 0]) := Lib.hid (by rw [hwy]; exact HR.out.far (p := ⟨w.heap.size + 1, 0, none⟩) (Nat.ne_of_lt (Nat.lt_succ_self _)) _)
    replace HL : Hid (Only (w.heap.size ≤ ·) w wy) := Lib.hid (by rw [hwy]; exact HL.out.setCell (p := ⟨w.heap.size + 1, 0, none⟩) (Nat.le_succ _) _)
    clear hwy
    clear i0 b0 b1 b2 b3 c0 c1 c2 c3 f0 f1 f2 f3 y0 y1 y2 y3
    have i0 := KB.out _ HL.out
    obtain ⟨b0, b1, b2, b3⟩ := HB.out.four
    obtain ⟨c0, c1, c2, c3⟩ := HR.out.four
    have f0 := HB.out.frozen 0
    have f1 := HB.out.frozen 1
    have f2 := HB.out.frozen 2
    have f3 := HB.out.frozen 3
    have y0 := HR.out.frozen 0
    have y1 := HR.out.frozen 1
    have y2 := HR.out.frozen 2
    have y3 := HR.out.frozen 3
    replace z1 := KF.out _ HL.out
    go_upto_region 25 with (go_at_call 52; (with_reducible refine (HNZ.out _ HL.out _ (by omega)).mono ?_); rintro ee w5 ⟨rfl, ho⟩; (replace HB := Lib.hid (HB.out.later ho)); (replace HR := Lib.hid (HR.out.later ho)); (replace HL := Lib.hid (on_new HL.out ho)); clear ho; clear i0 b0 b1 b2 b3 c0 c1 c2 c3 f0 f1 f2 f3 y0 y1 y2 y3 z1; have i0 := KB.out _ HL.out; (obtain ⟨b0, b1, b2, b3⟩ := HB.out.four); (obtain ⟨c0, c1, c2, c3⟩ := HR.out.four); have f0 := HB.out.frozen 0; have f1 := HB.out.frozen 1; have f2 := HB.out.frozen 2; have f3 := HB.out.frozen 3; have y0 := HR.out.frozen 0; have y1 := HR.out.frozen 1; have y2 := HR.out.frozen 2; have y3 := HR.out.frozen 3; have z1 := KF.out _ HL.out)
    obtain ⟨wy, hwy⟩ : ∃ wy, wy = World.setCell w5 ⟨w.heap.size + 1, 2, none⟩ (.int .i64 (Z : Nat)) := ⟨_, rfl⟩
    rw [← hwy]
    replace HB : Hid (Blk wy (w.heap.size + 1) 63 [.slice (some ⟨bl, o + (a + 4), none⟩) L (cap - (a + 4)), .slice none 0 0, .int .i64 (Z : Nat), .int .i64 0]) := Lib.hid (by rw [hwy]; exact HB.out.set_ 2 _)
    replace HR : Hid (Blk wy w.heap.size 63 [.slice none 0 0, .slice none 0 0, .int .i64 0, .int .i64 0]) := Lib.hid (by rw [hwy]; exact HR.out.far (p := ⟨w.heap.size + 1, 2, none⟩) (Nat.ne_of_lt (Nat.lt_succ_self _)) _)
    replace HL : Hid (Only (w.heap.size ≤ ·) w wy) := Lib.hid (by rw [hwy]; exact HL.out.setCell (p := ⟨w.heap.size + 1, 2, none⟩) (Nat.le_succ _) _)
    clear hwy
    clear i0 b0 b1 b2 b3 c0 c1 c2 c3 f0 f1 f2 f3 y0 y1 y2 y3 z1
    have i0 := KB.out _ HL.out
    obtain ⟨b0, b1, b2, b3⟩ := HB.out.four
    obtain ⟨c0, c1, c2, c3⟩ := HR.out.four
    have f0 := HB.out.frozen 0
    have f1 := HB.out.frozen 1
    have f2 := HB.out.frozen 2
    have f3 := HB.out.frozen 3
    have y0 := HR.out.frozen 0
    have y1 := HR.out.frozen 1
    have y2 := HR.out.frozen 2
    have y3 := HR.out.frozen 3
    go_wp2_with (go_at_call 52; (with_reducible refine (HNR.out _ HL.out).mono ?_); rintro ee w5 ⟨rfl, ho⟩; (replace HB := Lib.hid (HB.out.later ho)); (replace HR := Lib.hid (HR.out.later ho)); (replace HL := Lib.hid (on_new HL.out ho)); clear ho; clear i0 b0 b1 b2 b3 c0 c1 c2 c3 f0 f1 f2 f3 y0 y1 y2 y3; have i0 := KB.out _ HL.out; (obtain ⟨b0, b1, b2, b3⟩ := HB.out.four); (obtain ⟨c0, c1, c2, c3⟩ := HR.out.four); have f0 := HB.out.frozen 0; have f1 := HB.out.frozen 1; have f2 := HB.out.frozen 2; have f3 := HB.out.frozen 3; have y0 := HR.out.frozen 0; have y1 := HR.out.frozen 1; have y2 := HR.out.frozen 2; have y3 := HR.out.frozen 3)
    exact bodyPost_ret (results_cell_tmp rfl rfl (rload_item (((((HR.out.far (p := ⟨w.heap.size + 1, 3, none⟩) (Nat.ne_of_lt (Nat.lt_succ_self _)) _).set_ 0 _).set_ 1 _).set_ 2 _).set_ 3 _))) rfl ⟨(((((HL.out.setCell (p := ⟨w.heap.size + 1, 3, none⟩) (Nat.le_succ _) _).setCell (p := ⟨w.heap.size, 0, none⟩) (Nat.le_refl _) _).setCell (p := ⟨w.heap.size, 1, none⟩) (Nat.le_refl _) _).setCell (p := ⟨w.heap.size, 2, none⟩) (Nat.le_refl _) _).setCell (p := ⟨w.heap.size, 3, none⟩) (Nat.le_refl _) _), _, _, _, _, _, _, _, _, _, rfl, fun h => (by rw [HOF.out] at h; cases h), fun y hy => (by rw [HOF.out] at hy; cases hy; exact ⟨by first | (push_cast; rfl) | omega | (push_cast; omega), HKL.out.symm, rfl, HKS.out, fun W _ => Src.nil_ W, rfl, rfl⟩)⟩
end
end Go.Proofs.YtoghojgajpfkkaaGreatDoor
