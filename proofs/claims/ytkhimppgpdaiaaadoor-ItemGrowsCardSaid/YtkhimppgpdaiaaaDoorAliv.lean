/-
  alive.
-/
import Derived.Test.YtkhimppgpdaiaaaDoorSame
import Derived.Test.YtkhimppgpdaiaaaDoorRefs
import Derived.Laws.MakeOwn
import Derived.Lib.SlBytesConst
import Derived.Lib.SmallJoins
set_option linter.unusedVariables false
namespace Go.Proofs.YtkhimppgpdaiaaaDoor
open Go.RowKit

def abc : Bytes := [97, 98, 99]
def noughts : Bytes := List.replicate 40 0
theorem blk_src {w : World} {g : Nat} {xs : Bytes} {n : Nat} (h : Blk w g 5 (cb xs)) (hn : xs.length = n) (hl : n ≤ 1000) : Src w (.slice (some ⟨g, 0, none⟩) n n) xs := by
  subst hn
  refine ⟨_, _, rfl, ?_, (fun e => by cases e), Nat.le_refl _, by omega⟩
  have := Txt.blk (xs := xs) (rest := []) (t := 5) (by rw [List.append_nil]; exact h) 0 xs.length (by omega) (A := some ⟨g, 0, none⟩) (fun _ => rfl)
  rwa [List.drop_zero, List.take_length] at this
theorem of_lit (W : World) (v u : Value) (h : Src W v abc) (h' : Src W u noughts) :
    Calls Tryd.prog 35 #[v, u] W fun e w' => ∃ A1 c1 A2 c2, e = .returned (.agg #[.slice A1 3 c1, .slice A2 40 c2, .int .i64 0, .int .i64 0]) ∧ Src w' (.slice A1 3 c1) abc ∧ Src w' (.slice A2 40 c2) noughts ∧ Only (W.heap.size ≤ ·) W w' :=
  (Of_c W v u abc noughts h h' (by decide) (by decide)).mono fun e w' ⟨k, l, h1, h2, h3, h4⟩ => by
    have s2 := h2.src
    have s3 := h3.src
    obtain ⟨A1, c1, rfl, _⟩ := h2
    obtain ⟨A2, c2, rfl, _⟩ := h3
    exact ⟨A1, c1, A2, c2, h1, s2, s3, h4⟩
section
variable (W : World) (A B : Option Addr) (c d : Nat)
theorem room_lit (hg : Gens W) : Calls Tryd.prog 28 #[.int .i64 1, .agg #[.slice A 3 c, .slice B 40 d, .int .i64 0, .int .i64 0]] W (Told W (.int .i64 11)) := Room_c W A B 3 c 40 d 0 0 1 hg (by decide) (by decide)
theorem far_lit : Calls Tryd.prog 24 #[.agg #[.slice A 3 c, .slice B 40 d, .int .i64 0, .int .i64 0]] W (Told W (.bool true)) := Far_c W A B 3 c 40 d 0 0 true (by decide)
theorem long_lit : Calls Tryd.prog 26 #[.agg #[.slice A 3 c, .slice B 40 d, .int .i64 0, .int .i64 0]] W (Told W (.int .i64 40)) := Long_c W A B 3 c 40 d 0 0 40 (by decide)
theorem right_lit (hg : Gens W) : Calls Tryd.prog 22 #[.int .i64 1, .agg #[.slice A 3 c, .slice B 40 d, .int .i64 0, .int .i64 0]] W (Told W (.bool true)) := Right_c W A B 3 c 40 d 0 0 1 true hg (by decide)
theorem why_lit (hg : Gens W) : Calls Tryd.prog 31 #[.int .i64 1, .slice none 0 0, .slice none 0 0] W (Told W (.int .i64 50)) := Why_c W none none 0 0 0 0 1 50 hg (by decide)
theorem cap_lit (hg : Gens W) : Calls Tryd.prog 19 #[.int .i64 2] W (Told W (.int .i64 240)) := Cap_c W 2 hg
theorem kid_lit (hg : Gens W) : Calls Tryd.prog 30 #[.int .i64 3, .slice A 1 c] W (Told W (.int .i64 10)) := KidRoom_c W A 1 c 3 hg (by decide)
theorem gen_lit : Calls Tryd.prog 10 #[.int .i64 3] W fun e w' => e = .returned (.bool true) ∧ W = w' := Gen_c W 3
theorem key_lit (hg : Gens W) : Calls Tryd.prog 11 #[.int .i64 1] W (Told W (.int .i64 16)) := MaxKey_c W 1 hg
theorem val_lit (hg : Gens W) : Calls Tryd.prog 13 #[.int .i64 3] W (Told W (.int .i64 1600)) := MaxValue_c W 3 hg
theorem id_lit (hg : Gens W) : Calls Tryd.prog 15 #[.int .i64 1] W (Told W (.int .i64 4)) := IdWidth_c W 1 hg
theorem head_lit (hg : Gens W) : Calls Tryd.prog 17 #[.int .i64 2] W (Told W (.int .i64 16)) := Head_c W 2 hg
theorem same_lit (h : Src W (.slice A 3 c) abc) (h' : Src W (.slice B 40 d) noughts) : Calls Tryd.prog 37 #[.agg #[.slice A 3 c, .slice B 40 d, .int .i64 0, .int .i64 0], .agg #[.slice A 3 c, .slice B 40 d, .int .i64 0, .int .i64 0]] W (Told W (.bool true)) :=
  Same_c W A B A B 3 c 40 d 3 c 40 d 0 0 0 0 abc noughts abc noughts true h h' h h' (by decide)
theorem cmp_lit (v u : Value) (h : Src W v [97]) (h' : Src W u [97, 98]) : Calls Tryd.prog 33 #[v, u] W fun e w' => e = .returned (.int .i64 (-1)) ∧ W = w' := Compare_c W v u [97] [97, 98] h h'
end

theorem made8 (k : Nat) : madeCells (z8).cells k = (List.replicate k z8).toArray := by
  unfold madeCells
  apply Array.ext
  · simp
  · intro i h1 h2
    simp [Value.cells, z8, Nat.mod_one]
theorem run_make8 (n : Nat) (hn : n ≤ 65536) (W : World) : (Instr.makeSlice 25 (.int .i64 (n : Int)) (.int .i64 (n : Int))).run Tryd.prog W = .ok (.slice (some ⟨W.heap.size, 0, none⟩) n n) (W.alloc (.cells (List.replicate n z8).toArray 5)) := by
  obtain ⟨i0, hi0, hz0, hz1, hz2⟩ := info_parts info8
  have hr := run_make (P := Tryd.prog) W 25 5 i0 _ Tryd.underlying25 hi0 hz0 .i64 .i64 (n : Int) (n : Int) (by omega) (by omega) (by rw [hz2]; omega) (by omega)
  simp only [Int.toNat_natCast] at hr
  rw [made8, hz1, Nat.mul_one] at hr
  exact hr

theorem lit_src (w : World) (cs : Array Value) (fz : Nat × Nat) (n : Nat) (xs : Bytes) (h : cs.toList = cb xs) (hn : xs.length = n) (hl : n ≤ 1000) : Src (w.alloc (.cells cs 5 fz)) (.slice (some ⟨w.heap.size, 0, none⟩) n n) xs := by
  subst hn
  refine ⟨_, _, rfl, ⟨rfl, fun _ => ⟨_, rfl, fun j u hu => ?_⟩⟩, (fun e => by cases e), Nat.le_refl _, by omega⟩
  rw [Addr.add_mid, Nat.zero_add, cell_of_row _ w.heap.size j cs 5 fz (heap_alloc_new w _), ← hu, ← h]
  simp
abbrev wa (w : World) : World := w.alloc (.cells #[.int .u8 97] 5 (1, 2))
abbrev wb (w : World) : World := (wa w).alloc (.cells #[.int .u8 97, .int .u8 98] 5 (2, 3))
abbrev wc (w : World) : World := (wb w).alloc (.cells #[.int .u8 97] 5 (1, 2))
theorem wa_only (w : World) : Only (w.heap.size ≤ ·) w (wa w) := (Only.refl _ w).alloc (fun _ h => h) _
theorem wb_only (w : World) : Only (w.heap.size ≤ ·) w (wb w) := on_new (wa_only w) ((Only.refl _ (wa w)).alloc (fun _ h => h) _)
theorem wc_only (w : World) : Only (w.heap.size ≤ ·) w (wc w) := on_new (wb_only w) ((Only.refl _ (wb w)).alloc (fun _ h => h) _)
theorem wb_a (w : World) : Src (wb w) (.slice (some ⟨w.heap.size, 0, none⟩) 1 1) [97] := (lit_src w #[.int .u8 97] (1, 2) 1 [97] rfl rfl (by decide)).later ((Only.refl _ (wa w)).alloc (fun _ h => h) _)
theorem wb_b (w : World) : Src (wb w) (.slice (some ⟨w.heap.size + 1, 0, none⟩) 2 2) [97, 98] := by
  have := lit_src (wa w) #[.int .u8 97, .int .u8 98] (2, 3) 2 [97, 98] rfl rfl (by decide)
  rwa [show (wa w).heap.size = w.heap.size + 1 by simp [wa]] at this

set_option maxRecDepth 100000 in
set_option maxHeartbeats 12800000 in
theorem alive_c (w : World) (hg : Gens w) : Calls Tryd.prog 9 #[] w (Told w (.bool true)) := by
  have kc := fun (w : World) (C : Array Value) (n c : Nat) => Lib.run_convert_bytes_const (P := Tryd.prog) w 25 5 C n c Tryd.underlying25 Tryd.underlying5
  have kc2 := fun (w : World) (o : Obj) (C : Array Value) (n c : Nat) => Joins.run_convert_bytes_const_at (P := Tryd.prog) (w.alloc o) 25 5 C n c (w.heap.size + 1) (by simp) Tryd.underlying25 Tryd.underlying5
  have kc3 := fun (w : World) (o o' : Obj) (C : Array Value) (n c : Nat) => Joins.run_convert_bytes_const_at (P := Tryd.prog) ((w.alloc o).alloc o') 25 5 C n c (w.heap.size + 1 + 1) (by simp) Tryd.underlying25 Tryd.underlying5
  obtain ⟨ZZ, hZZ⟩ : ∃ ZZ : Array Value, ZZ = (List.replicate 40 z8).toArray := ⟨_, rfl⟩
  have hmk : ∀ W : World, (Instr.makeSlice 25 (.int .i64 40) (.int .i64 40)).run Tryd.prog W = .ok (.slice (some ⟨W.heap.size, 0, none⟩) 40 40) (W.alloc (.cells ZZ 5)) := fun W => by rw [hZZ]; exact run_make8 40 (by omega) W
  obtain ⟨w1, hw1⟩ : ∃ w1, w1 = w.alloc (.cells #[.int .u8 97, .int .u8 98, .int .u8 99] 5 (3, 4)) := ⟨_, rfl⟩
  obtain ⟨w2, hw2⟩ : ∃ w2, w2 = w1.alloc (.cells ZZ 5) := ⟨_, rfl⟩
  have HS1 : Hid (Src w1 (.slice (some ⟨w.heap.size, 0, none⟩) 3 3) abc) := by rw [hw1]; exact lit_src w #[.int .u8 97, .int .u8 98, .int .u8 99] (3, 4) 3 abc rfl rfl (by decide)
  have HO1 : Hid (Only (w.heap.size ≤ ·) w w1) := by rw [hw1]; exact (Only.refl _ w).alloc (fun _ h => h) _
  have HO2 : Hid (Only (w1.heap.size ≤ ·) w1 w2) := by rw [hw2]; exact (Only.refl _ w1).alloc (fun _ h => h) _
  have HZ : Hid (Src w2 (.slice (some ⟨w.heap.size + 1, 0, none⟩) 40 40) noughts) := by
    have e : cb noughts = List.replicate 40 z8 := cb_replicate 40
    have := blk_src (xs := noughts) (n := 40) (by rw [e]; exact Blk.new w1 5 (List.replicate 40 z8)) rfl (by decide)
    rw [← hZZ, ← hw2] at this
    rwa [show w1.heap.size = w.heap.size + 1 by rw [hw1]; simp] at this
  have HS := Lib.hid (HS1.out.later HO2.out)
  have HO := Lib.hid (on_new HO1.out HO2.out)
  have HG := Lib.hid (hg.later HO.out)
  have HW2 := Lib.hid hw2
  have HW1 := Lib.hid hw1
  clear hg hw1 hw2 hZZ HS1 HO1 HO2
  go_enter Tryd.func9, Tryd.ntmps9
  go_wp2_with (first
    | (go_at_call 35; rw [← HW1.out, ← HW2.out]; (with_reducible refine (of_lit w2 _ _ HS.out HZ.out).mono ?_); rintro e w3 ⟨A1, c1, A2, c2, rfl, hs, hz, ho⟩; replace HO := Lib.hid (on_new HO.out ho); replace HG := Lib.hid (HG.out.later ho); replace HS := Lib.hid hs; replace HZ := Lib.hid hz; clear hs hz ho HW1 HW2; have HI := Lib.hid (Blk.new w3 29 [.slice A1 3 c1, .slice A2 40 c2, .int .i64 0, .int .i64 0]); have ho4 : Only (w3.heap.size ≤ ·) w3 (w3.alloc (.cells #[.slice A1 3 c1, .slice A2 40 c2, .int .i64 0, .int .i64 0] 29)) := (Only.refl _ w3).alloc (fun _ h => h) _; replace HO := Lib.hid (on_new HO.out ho4); replace HG := Lib.hid (HG.out.later ho4); replace HS := Lib.hid (HS.out.later ho4); replace HZ := Lib.hid (HZ.out.later ho4); clear ho4)
    | (go_at_call 28; (with_reducible refine (room_lit _ _ _ _ _ HG.out).mono ?_); rintro e w5 ⟨rfl, ho⟩; (replace HS := Lib.hid (HS.out.later ho)); (replace HZ := Lib.hid (HZ.out.later ho)); (replace HG := Lib.hid (HG.out.later ho)); (replace HI := Lib.hid (HI.out.later ho)); (obtain ⟨hi0, hi1, hi2, hi3⟩ := HI.out.four); (replace HO := Lib.hid (on_new HO.out ho)); clear ho)
    | (go_at_call 24; (with_reducible refine (far_lit _ _ _ _ _).mono ?_); rintro e w6 ⟨rfl, ho⟩; (replace HS := Lib.hid (HS.out.later ho)); (replace HZ := Lib.hid (HZ.out.later ho)); (replace HG := Lib.hid (HG.out.later ho)); (replace HI := Lib.hid (HI.out.later ho)); (obtain ⟨hi0, hi1, hi2, hi3⟩ := HI.out.four); (replace HO := Lib.hid (on_new HO.out ho)); clear ho)
    | (go_at_call 26; (with_reducible refine (long_lit _ _ _ _ _).mono ?_); rintro e w7 ⟨rfl, ho⟩; (replace HS := Lib.hid (HS.out.later ho)); (replace HZ := Lib.hid (HZ.out.later ho)); (replace HG := Lib.hid (HG.out.later ho)); (replace HI := Lib.hid (HI.out.later ho)); (obtain ⟨hi0, hi1, hi2, hi3⟩ := HI.out.four); (replace HO := Lib.hid (on_new HO.out ho)); clear ho)
    | (go_at_call 22; (with_reducible refine (right_lit _ _ _ _ _ HG.out).mono ?_); rintro e w8 ⟨rfl, ho⟩; (replace HS := Lib.hid (HS.out.later ho)); (replace HZ := Lib.hid (HZ.out.later ho)); (replace HG := Lib.hid (HG.out.later ho)); (replace HI := Lib.hid (HI.out.later ho)); (obtain ⟨hi0, hi1, hi2, hi3⟩ := HI.out.four); (replace HO := Lib.hid (on_new HO.out ho)); clear ho)
    | (go_at_call 31; (with_reducible refine (why_lit _ HG.out).mono ?_); rintro e w8b ⟨rfl, ho⟩; (replace HS := Lib.hid (HS.out.later ho)); (replace HZ := Lib.hid (HZ.out.later ho)); (replace HG := Lib.hid (HG.out.later ho)); (replace HI := Lib.hid (HI.out.later ho)); (obtain ⟨hi0, hi1, hi2, hi3⟩ := HI.out.four); (replace HO := Lib.hid (on_new HO.out ho)); clear ho)
    | (go_at_call 19; (with_reducible refine (cap_lit _ HG.out).mono ?_); rintro e w9 ⟨rfl, ho⟩; (replace HS := Lib.hid (HS.out.later ho)); (replace HZ := Lib.hid (HZ.out.later ho)); (replace HG := Lib.hid (HG.out.later ho)); (replace HI := Lib.hid (HI.out.later ho)); (obtain ⟨hi0, hi1, hi2, hi3⟩ := HI.out.four); (replace HO := Lib.hid (on_new HO.out ho)); have HCA := Lib.hid (wb_a w9); have HCB := Lib.hid (wb_b w9); have ho9 := wc_only w9; replace HG := Lib.hid (HG.out.later ho9); replace HI := Lib.hid (HI.out.later ho9); replace HS := Lib.hid (HS.out.later ho9); replace HZ := Lib.hid (HZ.out.later ho9); replace HO := Lib.hid (on_new HO.out ho9); clear ho9; clear ho)
    | (go_at_call 33; (with_reducible refine (cmp_lit _ _ _ HCA.out HCB.out).mono ?_); rintro e w' ⟨rfl, rfl⟩)
    | (go_at_call 30; (with_reducible refine (kid_lit _ _ _ HG.out).mono ?_); rintro e w10 ⟨rfl, ho⟩; (replace HS := Lib.hid (HS.out.later ho)); (replace HZ := Lib.hid (HZ.out.later ho)); (replace HG := Lib.hid (HG.out.later ho)); (replace HI := Lib.hid (HI.out.later ho)); (obtain ⟨hi0, hi1, hi2, hi3⟩ := HI.out.four); (replace HO := Lib.hid (on_new HO.out ho)); clear ho)
    | (go_at_call 37; (with_reducible refine (same_lit _ _ _ _ _ HS.out HZ.out).mono ?_); rintro e w11 ⟨rfl, ho⟩; (replace HS := Lib.hid (HS.out.later ho)); (replace HZ := Lib.hid (HZ.out.later ho)); (replace HG := Lib.hid (HG.out.later ho)); (replace HI := Lib.hid (HI.out.later ho)); (obtain ⟨hi0, hi1, hi2, hi3⟩ := HI.out.four); (replace HO := Lib.hid (on_new HO.out ho)); clear ho)
    | (go_at_call 10; (with_reducible refine (gen_lit _).mono ?_); rintro e w' ⟨rfl, rfl⟩)
    | (go_at_call 11; (with_reducible refine (key_lit _ HG.out).mono ?_); rintro e w12 ⟨rfl, ho⟩; (replace HS := Lib.hid (HS.out.later ho)); (replace HZ := Lib.hid (HZ.out.later ho)); (replace HG := Lib.hid (HG.out.later ho)); (replace HI := Lib.hid (HI.out.later ho)); (obtain ⟨hi0, hi1, hi2, hi3⟩ := HI.out.four); (replace HO := Lib.hid (on_new HO.out ho)); clear ho)
    | (go_at_call 13; (with_reducible refine (val_lit _ HG.out).mono ?_); rintro e w13 ⟨rfl, ho⟩; (replace HS := Lib.hid (HS.out.later ho)); (replace HZ := Lib.hid (HZ.out.later ho)); (replace HG := Lib.hid (HG.out.later ho)); (replace HI := Lib.hid (HI.out.later ho)); (obtain ⟨hi0, hi1, hi2, hi3⟩ := HI.out.four); (replace HO := Lib.hid (on_new HO.out ho)); clear ho)
    | (go_at_call 15; (with_reducible refine (id_lit _ HG.out).mono ?_); rintro e w14 ⟨rfl, ho⟩; (replace HS := Lib.hid (HS.out.later ho)); (replace HZ := Lib.hid (HZ.out.later ho)); (replace HG := Lib.hid (HG.out.later ho)); (replace HI := Lib.hid (HI.out.later ho)); (obtain ⟨hi0, hi1, hi2, hi3⟩ := HI.out.four); (replace HO := Lib.hid (on_new HO.out ho)); clear ho)
    | (go_at_call 17; (with_reducible refine (head_lit _ HG.out).mono ?_); rintro e w15 ⟨rfl, ho⟩; (replace HS := Lib.hid (HS.out.later ho)); (replace HZ := Lib.hid (HZ.out.later ho)); (replace HG := Lib.hid (HG.out.later ho)); (replace HI := Lib.hid (HI.out.later ho)); (obtain ⟨hi0, hi1, hi2, hi3⟩ := HI.out.four); (replace HO := Lib.hid (on_new HO.out ho)); clear ho))
  go_ret
  exact ⟨rfl, HO.out⟩
end Go.Proofs.YtkhimppgpdaiaaaDoor
