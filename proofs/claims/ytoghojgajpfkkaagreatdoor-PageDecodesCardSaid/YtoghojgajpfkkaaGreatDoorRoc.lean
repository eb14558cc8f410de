/-
  The document's reader of one entry.
-/
import Derived.Test.YtoghojgajpfkkaaGreatDoorRol
import Derived.Test.YtoghojgajpfkkaaGreatDoorRoe
set_option linter.unusedVariables false
namespace Go.Proofs.YtoghojgajpfkkaaGreatDoor
open Go.RowKit

set_option maxRecDepth 100000 in
set_option maxHeartbeats 3200000 in
theorem rone_end (w : World) (g : Int) (lf : Bool) (b : Bytes) (a q n cap : Nat) (A : Option Addr) (hq : tr g 4 8 8 = (q : Int)) (hn : n = b.length) (hna : n ≤ a) : Calls Tryz.prog 55 #[.int .i64 g, .bool lf, .slice A n cap, .int .i64 (a : Nat)] w (GaveO w (.slice A n cap) b (oneF q lf b a)) := by
  obtain ⟨W0, hW0⟩ : ∃ W0, W0 = w.alloc (.cells #[.slice none 0 0, .slice none 0 0, .int .i64 0, .int .i64 0] 63) := ⟨_, rfl⟩
  obtain ⟨W1, hW1⟩ : ∃ W1, W1 = W0.alloc (.cells #[.slice none 0 0, .slice none 0 0, .int .i64 0, .int .i64 0] 63) := ⟨_, rfl⟩
  have HL : Hid (Only (w.heap.size ≤ ·) w W1) := Lib.hid (by rw [hW1, hW0]; exact ((Only.refl _ w).alloc (fun _ h => h) _).alloc (fun _ h => h) _)
  have HB : Hid (Blk W1 (w.heap.size + 1) 63 [.slice none 0 0, .slice none 0 0, .int .i64 0, .int .i64 0]) := Lib.hid (by have h := Blk.new W0 63 [.slice none 0 0, .slice none 0 0, .int .i64 0, .int .i64 0]; rw [← hW1, hW0] at h; simpa using h)
  have HR : Hid (Blk W1 w.heap.size 63 [.slice none 0 0, .slice none 0 0, .int .i64 0, .int .i64 0]) := Lib.hid (by rw [hW1, hW0]; exact (Blk.new w 63 _).alloc _)
  have HIW : Hid (∀ W, Calls Tryz.prog 53 #[.int .i64 g] W fun e w' => e = .returned (.int .i64 (q : Nat)) ∧ W = w') := Lib.hid fun W => by have := rIdWidth_c W g; rwa [hq] at this
  have HOF : Hid (oneF q lf b a = none) := Lib.hid (by unfold oneF; rw [if_pos (by omega)])
  have j0 : (n : Int) ≤ (a : Int) := by omega
  clear hn
  go_enter Tryz.func55, Tryz.ntmps55
  go_upto_region 2 with (fail)
  rw [← hW0, ← hW1]
  clear hW0 hW1
  obtain ⟨b0, b1, b2, b3⟩ := HB.out.four
  obtain ⟨c0, c1, c2, c3⟩ := HR.out.four
  have f0 := HB.out.frozen 0
  have f1 := HB.out.frozen 1
  have f2 := HB.out.frozen 2
  have f3 := HB.out.frozen 3
  have y0 := HR.out.frozen 0
  have y1 := HR.out.frozen 1
  have y2 := HR.out.frozen 2
  have y3 := HR.out.frozen 3
  go_wp2_with (go_at_call 53; (with_reducible refine (HIW.out _).mono ?_); rintro ee w' ⟨rfl, rfl⟩)
  exact bodyPost_ret (results_cell_tmp rfl rfl (rload_item ((((HR.out.set_ 0 _).set_ 1 _).set_ 2 _).set_ 3 _))) rfl ⟨((((HL.out.setCell (p := ⟨w.heap.size, 0, none⟩) (Nat.le_refl _) _).setCell (p := ⟨w.heap.size, 1, none⟩) (Nat.le_refl _) _).setCell (p := ⟨w.heap.size, 2, none⟩) (Nat.le_refl _) _).setCell (p := ⟨w.heap.size, 3, none⟩) (Nat.le_refl _) _), _, _, _, _, _, _, _, _, _, rfl, fun _ => rfl, fun y hy => (by rw [HOF.out] at hy; cases hy)⟩
theorem rone_c (w : World) (g : Int) (lf : Bool) (v : Value) (b : Bytes) (a q : Nat) (hq : tr g 4 8 8 = (q : Int)) (hq4 : 4 ≤ q) (hq8 : q ≤ 8) (hs : Src w v b) (hb : b.length ≤ 65536) : Calls Tryz.prog 55 #[.int .i64 g, .bool lf, v, .int .i64 (a : Nat)] w (GaveO w v b (oneF q lf b a)) := by
  have hs2 := hs
  obtain ⟨A, cap, rfl, ht, hA, hc, hm⟩ := hs2
  by_cases hna : b.length ≤ a
  · exact rone_end w g lf b a q _ cap A hq rfl hna
  obtain ⟨ad, rfl, hcell⟩ := ht.2 (by omega)
  have h0 := hcell 0 (.int .u8 ((b[0]'(by omega)).toNat : Nat)) (by unfold cb; rw [List.getElem?_map, List.getElem?_eq_getElem (by omega)]; rfl)
  have ee : ad.add 0 = ad := by cases ad; simp [Addr.add]
  rw [ee] at h0
  obtain ⟨bl, o, rfl⟩ : ∃ bl o, ad = ⟨bl, o, none⟩ := ⟨_, _, spotF h0⟩
  cases lf
  · exact rone_kid w g b a q _ cap bl o hq hq4 hq8 hs rfl hc hm hb (by omega)
  · by_cases he : cap = a + 4
    · exact rone_edge w g b a q _ cap bl o hq hq4 hq8 hs rfl hc hm hb (by omega) he
    · exact rone_leaf w g b a q _ cap bl o hq hq4 hq8 hs rfl hc hm hb (by omega) he
end Go.Proofs.YtoghojgajpfkkaaGreatDoor
