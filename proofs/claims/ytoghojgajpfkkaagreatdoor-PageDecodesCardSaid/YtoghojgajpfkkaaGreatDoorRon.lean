/-
  The document's reader of one entry of a page's body.
-/
import Derived.Test.YtoghojgajpfkkaaGreatDoorRhd
import Derived.Test.YtoghojgajpfkkaaGreatDoorSer
set_option linter.unusedVariables false
namespace Go.Proofs.YtoghojgajpfkkaaGreatDoor
open Go.RowKit

/-- One entry: what is read, and where it ends. -/
def oneF (q : Nat) (lf : Bool) (b : Bytes) (a : Nat) : Option (It × Nat) :=
  if b.length ≤ a then none
  else if lf = false then
    if b.length < a + 1 + (b.getD a 0).toNat + q then none else some (((b.drop (a + 1)).take (b.getD a 0).toNat, [], 0, rnum ((b.drop (a + 1 + (b.getD a 0).toNat)).take q)), a + 1 + (b.getD a 0).toNat + q)
  else if b.length < a + 4 + (b.getD a 0).toNat then none
  else if (b.getD (a + 1) 0).toNat = 0 then
    if b.length < a + 4 + (b.getD a 0).toNat + num ((b.drop (a + 2)).take 2) then none
    else some (((b.drop (a + 4)).take (b.getD a 0).toNat, (b.drop (a + 4 + (b.getD a 0).toNat)).take (num ((b.drop (a + 2)).take 2)), 0, 0), a + 4 + (b.getD a 0).toNat + num ((b.drop (a + 2)).take 2))
  else if 1 < (b.getD (a + 1) 0).toNat ∨ b.length < a + 4 + (b.getD a 0).toNat + q then none
  else if rnum ((b.drop (a + 4 + (b.getD a 0).toNat)).take q) = 0 then none
  else some (((b.drop (a + 4)).take (b.getD a 0).toNat, [], (num ((b.drop (a + 2)).take 2) : Nat), rnum ((b.drop (a + 4 + (b.getD a 0).toNat)).take q)), a + 4 + (b.getD a 0).toNat + q)
/-- An entry came back, and its end; or -1. Its rows are parts of the bytes: they stand where those stand. -/
def GaveO (w : World) (v : Value) (b : Bytes) (o : Option (It × Nat)) (e : Ending) (w' : World) : Prop := Only (w.heap.size ≤ ·) w w' ∧ ∃ (P : Option Addr) (pn pc : Nat) (Q : Option Addr) (qn qc : Nat) (s r z : Int), e = .returned (.tuple #[.agg #[.slice P pn pc, .slice Q qn qc, .int .i64 s, .int .i64 r], .int .i64 z]) ∧
  (o = none → z = -1) ∧ ∀ y, o = some y → z = (y.2 : Nat) ∧ pn = y.1.1.length ∧ qn = y.1.2.1.length ∧ (∀ W, Src W v b → Src W (.slice P pn pc) y.1.1) ∧ (∀ W, Src W v b → Src W (.slice Q qn qc) y.1.2.1) ∧ s = y.1.2.2.1 ∧ r = y.1.2.2.2
/-- A part of bytes, as slicing makes it. -/
theorem src_cut {w : World} {bl o n cap : Nat} {b : Bytes} (h : Src w (.slice (some ⟨bl, o, none⟩) n cap) b) {a z : Nat} (ha : a ≤ z) (hz : z ≤ n) {P : Option Addr} (hP : (if cap = a then some (⟨bl, o, none⟩ : Addr) else some ⟨bl, o + a, none⟩) = P) : Src w (.slice P (z - a) (cap - a)) ((b.drop a).take (z - a)) := by
  subst hP
  by_cases hc : cap = a
  · have hs := h
    obtain ⟨A, c, e, ht, _, hc2, hm⟩ := hs
    simp only [Value.slice.injEq] at e
    obtain ⟨rfl, en, rfl⟩ := e
    have e0 : z - a = 0 := by omega
    rw [if_pos hc, e0, List.take_zero]
    exact ⟨some ⟨bl, o, none⟩, cap - a, rfl, ht.take 0 (Nat.zero_le _), (fun e => by cases e), Nat.zero_le _, by omega⟩
  · rw [if_neg hc]
    exact src_part h ha hz
theorem rload_item {w : World} {g : Nat} {P Q : Option Addr} {n c m d : Nat} {s r : Int} (h : Blk w g 63 [.slice P n c, .slice Q m d, .int .i64 s, .int .i64 r]) : (loadVar 63 ⟨g, 0, none⟩).run Tryz.prog w = .ok (.agg #[.slice P n c, .slice Q m d, .int .i64 s, .int .i64 r]) w := by
  have hl := run_loadCells_list (P := Tryz.prog) w ⟨g, 0, none⟩ [.slice P n c, .slice Q m d, .int .i64 s, .int .i64 r] (fun j u hu => by rw [Addr.add_lit, h.cell, Nat.zero_add]; exact hu)
  simp only [List.length_cons, List.length_nil] at hl
  simp [loadVar, hl]
section
variable (w : World) (g : Int) (b : Bytes) (a q n cap : Nat) (bl o : Nat) (hq : tr g 4 8 8 = (q : Int)) (hq4 : 4 ≤ q) (hq8 : q ≤ 8) (hs : Src w (.slice (some ⟨bl, o, none⟩) n cap) b) (hn : n = b.length) (hnc : n ≤ cap) (hcap : cap ≤ 9223372036854775807) (hn2 : n ≤ 65536)
include hq hq4 hq8 hs hn hnc hcap hn2
set_option maxRecDepth 100000 in
set_option maxHeartbeats 12800000 in
theorem rone_kid (han : a < n) : Calls Tryz.prog 55 #[.int .i64 g, .bool false, .slice (some ⟨bl, o, none⟩) n cap, .int .i64 (a : Nat)] w (GaveO w (.slice (some ⟨bl, o, none⟩) n cap) b (oneF q false b a)) := by
  obtain ⟨L, hL⟩ : ∃ z, z = (b.getD a 0).toNat := ⟨_, rfl⟩
  have hL8 : L < 256 := by rw [hL]; exact UInt8.toNat_lt _
  have hcL : w.cell? ⟨bl, o + a, none⟩ = some (.int .u8 (L : Nat)) := by
    have hs2 := hs
    obtain ⟨A', c', e, ht, _⟩ := hs2
    simp only [Value.slice.injEq] at e
    obtain ⟨rfl, e2, rfl⟩ := e
    obtain ⟨ad, ea, hc⟩ := ht.2 (by omega)
    cases ea
    have h1 := hc a (.int .u8 (L : Nat)) (by unfold cb; rw [List.getElem?_map, List.getElem?_eq_getElem (by omega), hL, List.getD_eq_getElem?_getD, List.getElem?_eq_getElem (by omega)]; rfl)
    rwa [Addr.add_lit] at h1
  have KB : Hid (∀ W, Only (w.heap.size ≤ ·) w W → W.cell? ⟨bl, o + a, none⟩ = some (.int .u8 (L : Nat))) := Lib.hid fun W hW => (hW.cell (p := ⟨bl, o + a, none⟩) (Nat.not_le.2 (World.block_lt_of_cell? w _ hcL))).trans hcL
  have HS := Lib.hid hs
  obtain ⟨W0, hW0⟩ : ∃ W0, W0 = w.alloc (.cells #[.slice none 0 0, .slice none 0 0, .int .i64 0, .int .i64 0] 63) := ⟨_, rfl⟩
  obtain ⟨W1, hW1⟩ : ∃ W1, W1 = W0.alloc (.cells #[.slice none 0 0, .slice none 0 0, .int .i64 0, .int .i64 0] 63) := ⟨_, rfl⟩
  have HL : Hid (Only (w.heap.size ≤ ·) w W1) := Lib.hid (by rw [hW1, hW0]; exact ((Only.refl _ w).alloc (fun _ h => h) _).alloc (fun _ h => h) _)
  have HB : Hid (Blk W1 (w.heap.size + 1) 63 [.slice none 0 0, .slice none 0 0, .int .i64 0, .int .i64 0]) := Lib.hid (by have h := Blk.new W0 63 [.slice none 0 0, .slice none 0 0, .int .i64 0, .int .i64 0]; rw [← hW1, hW0] at h; simpa using h)
  have HR : Hid (Blk W1 w.heap.size 63 [.slice none 0 0, .slice none 0 0, .int .i64 0, .int .i64 0]) := Lib.hid (by rw [hW1, hW0]; exact (Blk.new w 63 _).alloc _)
  have HIW : Hid (∀ W, Calls Tryz.prog 53 #[.int .i64 g] W fun e w' => e = .returned (.int .i64 (q : Nat)) ∧ W = w') := Lib.hid fun W => by have := rIdWidth_c W g; rwa [hq] at this
  have wr1 : ∀ z : Int, 0 ≤ z → z ≤ 1000000 → IntKind.i64.wrap z = z := fun z h1 h2 => IntWalk.i64_in _ (by omega)
  have j0 : (a : Int) < (n : Int) := by omega
  have j00 : ¬ (n : Int) ≤ (a : Int) := by omega
  have j000 : (0 : Int) ≤ (a : Int) := by omega
  have e0 : IntKind.i64.wrap (L : Int) = (L : Int) := wr1 _ (by omega) (by omega)
  have e1 : IntKind.i64.wrap ((a : Int) + 1) = ((a + 1 : Nat) : Int) := by rw [wr1 _ (by omega) (by omega)]; omega
  have e2 : IntKind.i64.wrap (((a + 1 : Nat) : Int) + (L : Int)) = ((a + 1 + L : Nat) : Int) := by rw [wr1 _ (by omega) (by omega)]; omega
  have e3 : IntKind.i64.wrap (((a + 1 + L : Nat) : Int) + (q : Int)) = ((a + 1 + L + q : Nat) : Int) := by rw [wr1 _ (by omega) (by omega)]; omega
  by_cases hlt : n < a + 1 + L + q
  · have HOF : Hid (oneF q false b a = none) := Lib.hid (by unfold oneF; rw [← hL, if_neg (by omega), if_pos rfl, if_pos (by omega)])
    have j2 : (n : Int) < (a : Int) + 1 + (L : Int) + (q : Int) := by omega
    clear hs hn hL hcL
    go_enter Tryz.func55, Tryz.ntmps55
    go_upto_region 2 with (fail)
    rw [← hW0, ← hW1]
    clear hW0 hW1
    have i0 := KB.out _ HL.out
    obtain ⟨b0, b1, b2, b3⟩ := HB.out.four
    obtain ⟨c0, c1, c2, c3⟩ := HR.out.four
    have f0 := HB.out.frozen 0
    have f1 := HB.out.frozen 1
    have f2 := HB.out.frozen 2
    have f3 := HB.out.frozen 3
    have y0 := HR.out.frozen 0
    have y1 := HR.out.frozen 1
    have y2 := HR.out.frozen 2
    have y3 := HR.out.frozen 3
    go_wp2_with (go_at_call 53; (with_reducible refine (HIW.out _).mono ?_); rintro ee w' ⟨rfl, rfl⟩)
    exact bodyPost_ret (results_cell_tmp rfl rfl (rload_item ((((HR.out.set_ 0 _).set_ 1 _).set_ 2 _).set_ 3 _))) rfl ⟨((((HL.out.setCell (p := ⟨w.heap.size, 0, none⟩) (Nat.le_refl _) _).setCell (p := ⟨w.heap.size, 1, none⟩) (Nat.le_refl _) _).setCell (p := ⟨w.heap.size, 2, none⟩) (Nat.le_refl _) _).setCell (p := ⟨w.heap.size, 3, none⟩) (Nat.le_refl _) _), _, _, _, _, _, _, _, _, _, rfl, fun _ => rfl, fun y hy => (by rw [HOF.out] at hy; cases hy)⟩
  · have HOF : Hid (oneF q false b a = some (((b.drop (a + 1)).take L, [], 0, rnum ((b.drop (a + 1 + L)).take q)), a + 1 + L + q)) := Lib.hid (by unfold oneF; rw [← hL, if_neg (by omega), if_pos rfl, if_neg (by omega)])
    have HNM : Hid (∀ W, Only (w.heap.size ≤ ·) w W → Calls Tryz.prog 52 #[.slice (some ⟨bl, o + (a + 1 + L), none⟩) (q) (cap - (a + 1 + L))] W (Told W (.int .i64 (rnum ((b.drop (a + 1 + L)).take q))))) := Lib.hid fun W hW => by
      have h := src_part (hs.later hW) (a := a + 1 + L) (z := a + 1 + L + (q)) (by omega) (by omega)
      rw [show a + 1 + L + (q) - (a + 1 + L) = q from by omega] at h
      exact rnumber_c W _ _ h (by rw [List.length_take]; omega)
    have HKS : Hid (∀ W, Src W (.slice (some ⟨bl, o, none⟩) n cap) b → Src W (.slice (some ⟨bl, o + (a + 1), none⟩) L (cap - (a + 1))) ((b.drop (a + 1)).take L)) := Lib.hid fun W hW => by
      have h := src_part hW (a := a + 1) (z := a + 1 + L) (by omega) (by omega)
      rwa [show a + 1 + L - (a + 1) = L from by omega] at h
    have HKL : Hid (((b.drop (a + 1)).take L).length = L) := Lib.hid (by rw [List.length_take, List.length_drop]; omega)
    obtain ⟨rv, hrv⟩ : ∃ z, z = rnum ((b.drop (a + 1 + L)).take q) := ⟨_, rfl⟩
    rw [← hrv] at HOF HNM
    have k1 : (0 : Int) ≤ (a : Int) + 1 := by omega
    have k2 : (a : Int) + 1 ≤ (a : Int) + 1 + (L : Int) := by omega
    have k3 : (a : Int) + 1 + (L : Int) ≤ (cap : Int) := by omega
    have k4 : (a : Int) + 1 + (L : Int) ≤ (a : Int) + 1 + (L : Int) + (q : Int) := by omega
    have k5 : (a : Int) + 1 + (L : Int) + (q : Int) ≤ (cap : Int) := by omega
    have k0 : (0 : Int) ≤ (a : Int) + 1 + (L : Int) := by omega
    have j2 : ¬ (n : Int) < (a : Int) + 1 + (L : Int) + (q : Int) := by omega
    have k6 : ¬ cap = a + 1 := by omega
    have k7 : ¬ cap = a + 1 + L := by omega
    clear hs hn hL hcL hrv
    go_enter Tryz.func55, Tryz.ntmps55
    go_upto_region 2 with (fail)
    rw [← hW0, ← hW1]
    clear hW0 hW1
    have i0 := KB.out _ HL.out
    obtain ⟨b0, b1, b2, b3⟩ := HB.out.four
    obtain ⟨c0, c1, c2, c3⟩ := HR.out.four
    have f0 := HB.out.frozen 0
    have f1 := HB.out.frozen 1
    have f2 := HB.out.frozen 2
    have f3 := HB.out.frozen 3
    have y0 := HR.out.frozen 0
    have y1 := HR.out.frozen 1
    have y2 := HR.out.frozen 2
    have y3 := HR.out.frozen 3
    go_upto_region 11 with (go_at_call 53; (with_reducible refine (HIW.out _).mono ?_); rintro ee w' ⟨rfl, rfl⟩)
    obtain ⟨wy, hwy⟩ : ∃ wy, wy = World.setCell W1 ⟨w.heap.size + 1, 0, none⟩ (.slice (some ⟨bl, o + (a + 1), none⟩) L (cap - (a + 1))) := ⟨_, rfl⟩
    rw [← hwy]
    replace HB : Hid (Blk wy (w.heap.size + 1) 63 [.slice (some ⟨bl, o + (a + 1), none⟩) L (cap - (a + 1)), .slice none 0 0, .int .i64 0, .int .i64 0]) := Lib.hid (by rw [hwy]; exact HB.out.set_ 0 _)
    replace HR : Hid (Blk wy w.heap.size 63 [.slice none 0 0, .slice none 0 0, .int .i64 0, .int .i64 0]) := Lib.hid (by rw [hwy]; exact HR.out.far (p := ⟨w.heap.size + 1, 0, none⟩) (Nat.ne_of_lt (Nat.lt_succ_self _)) _)
    replace HL : Hid (Only (w.heap.size ≤ ·) w wy) := Lib.hid (by rw [hwy]; exact HL.out.setCell (p := ⟨w.heap.size + 1, 0, none⟩) (Nat.le_succ _) _)
    clear hwy
    clear i0 b0 b1 b2 b3 c0 c1 c2 c3 f0 f1 f2 f3 y0 y1 y2 y3
    have i0 := KB.out _ HL.out
    obtain ⟨b0, b1, b2, b3⟩ := HB.out.four
    obtain ⟨c0, c1, c2, c3⟩ := HR.out.four
    have f0 := HB.out.frozen 0
    have f1 := HB.out.frozen 1
    have f2 := HB.out.frozen 2
    have f3 := HB.out.frozen 3
    have y0 := HR.out.frozen 0
    have y1 := HR.out.frozen 1
    have y2 := HR.out.frozen 2
    have y3 := HR.out.frozen 3
    go_wp2_with (go_at_call 52; (with_reducible refine (HNM.out _ HL.out).mono ?_); rintro ee w5 ⟨rfl, ho⟩; (replace HB := Lib.hid (HB.out.later ho)); (replace HR := Lib.hid (HR.out.later ho)); (replace HL := Lib.hid (on_new HL.out ho)); clear ho; clear i0 b0 b1 b2 b3 c0 c1 c2 c3 f0 f1 f2 f3 y0 y1 y2 y3; have i0 := KB.out _ HL.out; (obtain ⟨b0, b1, b2, b3⟩ := HB.out.four); (obtain ⟨c0, c1, c2, c3⟩ := HR.out.four); have f0 := HB.out.frozen 0; have f1 := HB.out.frozen 1; have f2 := HB.out.frozen 2; have f3 := HB.out.frozen 3; have y0 := HR.out.frozen 0; have y1 := HR.out.frozen 1; have y2 := HR.out.frozen 2; have y3 := HR.out.frozen 3)
    exact bodyPost_ret (results_cell_tmp rfl rfl (rload_item (((((HR.out.far (p := ⟨w.heap.size + 1, 3, none⟩) (Nat.ne_of_lt (Nat.lt_succ_self _)) _).set_ 0 _).set_ 1 _).set_ 2 _).set_ 3 _))) rfl ⟨(((((HL.out.setCell (p := ⟨w.heap.size + 1, 3, none⟩) (Nat.le_succ _) _).setCell (p := ⟨w.heap.size, 0, none⟩) (Nat.le_refl _) _).setCell (p := ⟨w.heap.size, 1, none⟩) (Nat.le_refl _) _).setCell (p := ⟨w.heap.size, 2, none⟩) (Nat.le_refl _) _).setCell (p := ⟨w.heap.size, 3, none⟩) (Nat.le_refl _) _), _, _, _, _, _, _, _, _, _, rfl, fun h => (by rw [HOF.out] at h; cases h), fun y hy => (by rw [HOF.out] at hy; cases hy; exact ⟨by first | (push_cast; rfl) | omega | (push_cast; omega), HKL.out.symm, rfl, HKS.out, fun W _ => Src.nil_ W, rfl, rfl⟩)⟩
end
end Go.Proofs.YtoghojgajpfkkaaGreatDoor
