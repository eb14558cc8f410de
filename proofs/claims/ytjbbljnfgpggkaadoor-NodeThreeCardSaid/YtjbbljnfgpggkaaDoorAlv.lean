/-
  alive.
-/
import Derived.Test.YtjbbljnfgpggkaaDoorAlp
import Derived.Test.YtjbbljnfgpggkaaDoorStp
import Derived.Test.YtjbbljnfgpggkaaDoorWit
import Derived.Test.YtjbbljnfgpggkaaDoorOf
import Derived.Test.YtjbbljnfgpggkaaDoorPts
import Derived.Test.YtjbbljnfgpggkaaDoorFnd
import Derived.Test.YtjbbljnfgpggkaaDoorSwk
import Derived.Test.YtjbbljnfgpggkaaDoorKid
import Derived.Test.YtjbbljnfgpggkaaDoorNrm
import Derived.Test.YtjbbljnfgpggkaaDoorJon
import Derived.Test.YtjbbljnfgpggkaaDoorSem
import Derived.RegionTactic
import Derived.BigRegion
import Derived.Deep.CutRange
import Derived.Laws.MakeOwn
import Derived.Lib.SlBytesConst
import Derived.Lib.SmallJoins
set_option linter.unusedVariables false
namespace Go.Proofs.YtjbbljnfgpggkaaDoor
open Go.RowKit

theorem made8 (k : Nat) : madeCells (z8).cells k = (List.replicate k z8).toArray := by
  unfold madeCells
  apply Array.ext
  · simp
  · intro i h1 h2
    simp [Value.cells, z8, Nat.mod_one]
theorem run_make8 (n : Nat) (hn : n ≤ 65536) (W : World) : (Instr.makeSlice 27 (.int .i64 (n : Int)) (.int .i64 (n : Int))).run Tryd.prog W = .ok (.slice (some ⟨W.heap.size, 0, none⟩) n n) (W.alloc (.cells (List.replicate n z8).toArray 5)) := by
  obtain ⟨i0, hi0, hz0, hz1, hz2⟩ := info_parts info8
  have hr := run_make (P := Tryd.prog) W 27 5 i0 _ Tryd.underlying27 hi0 hz0 .i64 .i64 (n : Int) (n : Int) (by omega) (by omega) (by rw [hz2]; omega) (by omega)
  simp only [Int.toNat_natCast] at hr
  rw [made8, hz1, Nat.mul_one] at hr
  exact hr
theorem lit_src (w : World) (cs : Array Value) (fz : Nat × Nat) (n : Nat) (xs : Bytes) (h : cs.toList = cb xs) (hn : xs.length = n) (hl : n ≤ 1000) : Src (w.alloc (.cells cs 5 fz)) (.slice (some ⟨w.heap.size, 0, none⟩) n n) xs := by
  subst hn
  refine ⟨_, _, rfl, ⟨rfl, fun _ => ⟨_, rfl, fun j u hu => ?_⟩⟩, (fun e => by cases e), Nat.le_refl _, by omega⟩
  rw [Addr.add_mid, Nat.zero_add, cell_of_row _ w.heap.size j cs 5 fz (heap_alloc_new w _), ← hu, ← h]
  simp
theorem lit_at (w : World) (cs : Array Value) (fz : Nat × Nat) (n g : Nat) (xs : Bytes) (hg : g = w.heap.size) (h : cs.toList = cb xs) (hn : xs.length = n) (hl : n ≤ 1000) : Src (w.alloc (.cells cs 5 fz)) (.slice (some ⟨g, 0, none⟩) n n) xs := by
  subst hg
  exact lit_src w cs fz n xs h hn hl
theorem key_cb (k : Nat) (hk : k < 7) : (#[Value.int .u8 97, .int .u8 98, .int .u8 99, .int .u8 100, .int .u8 (48 + (k : Int))]).toList = cb (akey k) := by
  have : k = 0 ∨ k = 1 ∨ k = 2 ∨ k = 3 ∨ k = 4 ∨ k = 5 ∨ k = 6 := by omega
  rcases this with rfl | rfl | rfl | rfl | rfl | rfl | rfl <;> rfl

/-- What the leaf is like ahead of a round. -/
def Alw (w wr : World) (k : Nat) (A B : Option Addr) (n c m d : Nat) : Prop := Blk wr w.heap.size 34 [.bool true, .slice A n c, .slice B m d] ∧ SNod (· = w.heap.size) wr ⟨true, aits k, []⟩ true (.slice A n c) (.slice B m d) ∧ Only (w.heap.size ≤ ·) w wr
theorem Alw.only {w wr W : World} {k : Nat} {A B : Option Addr} {n c m d : Nat} (h : Alw w wr k A B n c m d) (ho : Only (wr.heap.size ≤ ·) wr W) : Alw w W k A B n c m d := ⟨h.1.later ho, h.2.1.later ho, on_new h.2.2 ho⟩

theorem abr_nod (wm W : World) (hW : W = ((wm.alloc (.cells #[.int .u8 109] 5 (1, 2))).alloc (.cells #[.slice none 0 0, .int .i64 2, .slice (some ⟨wm.heap.size, 0, none⟩) 1 1, .int .i64 3] 58)).alloc (.cells #[.bool false, .slice none 0 0, .slice (some ⟨wm.heap.size + 1, 0, none⟩) 2 2] 34)) :
    Blk W (wm.heap.size + 1 + 1) 34 [.bool false, .slice none 0 0, .slice (some ⟨wm.heap.size + 1, 0, none⟩) 2 2] ∧ Nod W abr false (.slice none 0 0) (.slice (some ⟨wm.heap.size + 1, 0, none⟩) 2 2) ∧ Only (wm.heap.size ≤ ·) wm W := by
  obtain ⟨w1, hw1⟩ : ∃ w1, w1 = wm.alloc (.cells #[.int .u8 109] 5 (1, 2)) := ⟨_, rfl⟩
  rw [← hw1] at hW
  have hz1 : w1.heap.size = wm.heap.size + 1 := by rw [hw1]; simp
  obtain ⟨w2, hw2⟩ : ∃ w2, w2 = w1.alloc (.cells #[.slice none 0 0, .int .i64 2, .slice (some ⟨wm.heap.size, 0, none⟩) 1 1, .int .i64 3] 58) := ⟨_, rfl⟩
  rw [← hw2] at hW
  have hz2 : w2.heap.size = wm.heap.size + 1 + 1 := by rw [hw2]; simp [hz1]
  have o1 : Only (wm.heap.size ≤ ·) wm w1 := by rw [hw1]; exact (Only.refl _ wm).alloc (fun _ h => h) _
  have o2 : Only (w1.heap.size ≤ ·) w1 w2 := by rw [hw2]; exact (Only.refl _ w1).alloc (fun _ h => h) _
  have o3 : Only (w2.heap.size ≤ ·) w2 W := by rw [hW]; exact (Only.refl _ w2).alloc (fun _ h => h) _
  have s1 : Src w1 (.slice (some ⟨wm.heap.size, 0, none⟩) 1 1) [109] := by rw [hw1]; exact lit_src wm #[.int .u8 109] (1, 2) 1 [109] rfl rfl (by omega)
  have b2 : Blk w2 (wm.heap.size + 1) 58 [.slice none 0 0, .int .i64 2, .slice (some ⟨wm.heap.size, 0, none⟩) 1 1, .int .i64 3] := by
    have := Blk.new w1 58 [.slice none 0 0, .int .i64 2, .slice (some ⟨wm.heap.size, 0, none⟩) 1 1, .int .i64 3]
    rw [hz1] at this
    rw [hw2]
    exact this
  have b3 : Blk W (wm.heap.size + 1 + 1) 34 [.bool false, .slice none 0 0, .slice (some ⟨wm.heap.size + 1, 0, none⟩) 2 2] := by
    have := Blk.new w2 34 [.bool false, .slice none 0 0, .slice (some ⟨wm.heap.size + 1, 0, none⟩) 2 2]
    rw [hz2] at this
    rw [hW]
    exact this
  refine ⟨b3, ⟨rfl, Rw.nil_ _, ?_⟩, on_new (on_new o1 o2) o3⟩
  refine Rw.later ?_ o3
  refine ⟨_, _, [.slice none 0 0, .int .i64 2, .slice (some ⟨wm.heap.size, 0, none⟩) 1 1, .int .i64 3], rfl, ?_, Raw.blk (rest := []) (by rw [List.append_nil]; exact b2), (fun e => by cases e), Nat.le_refl _, by show 2 ≤ _; omega⟩
  exact Den.append (l := [(([] : Bytes), (2 : Int))]) (C := [.slice none 0 0, .int .i64 2]) (Den.single ⟨none, 0, rfl, (New.nil_ w2 0).src⟩) (Den.single (x := (([109] : Bytes), (3 : Int))) ⟨_, 1, rfl, s1.later o2⟩)
def swd : Nd := ⟨false, [], [([], 2), ([110], 4)]⟩

/-- What the leaf is like behind the rounds. -/
def Alx (w W : World) (A B : Option Addr) (n c m d : Nat) : Prop := Blk W w.heap.size 34 [.bool true, .slice A n c, .slice B m d] ∧ Nod W alf true (.slice A n c) (.slice B m d) ∧ Gens W ∧ Only (w.heap.size ≤ ·) w W
theorem Alx.only {w wr W : World} {A B : Option Addr} {n c m d : Nat} (h : Alx w wr A B n c m d) (ho : Only (wr.heap.size ≤ ·) wr W) : Alx w W A B n c m d := ⟨h.1.later ho, h.2.1.later ho, h.2.2.1.later ho, on_new h.2.2.2 ho⟩
theorem Alx.nod {w W : World} {A B : Option Addr} {n c m d : Nat} (h : Alx w W A B n c m d) : Nod W alf true (.slice A n c) (.slice B m d) := h.2.1
theorem Alx.gens {w W : World} {A B : Option Addr} {n c m d : Nat} (h : Alx w W A B n c m d) : Gens W := h.2.2.1
theorem Alx.new {w W : World} {A B : Option Addr} {n c m d : Nat} (h : Alx w W A B n c m d) : Only (w.heap.size ≤ ·) w W := h.2.2.2
theorem Alx.n7 {w W : World} {A B : Option Addr} {n c m d : Nat} (h : Alx w W A B n c m d) : n = 7 := h.2.1.2.1.len
theorem Alx.m0 {w W : World} {A B : Option Addr} {n c m d : Nat} (h : Alx w W A B n c m d) : m = 0 := h.2.1.2.2.len

set_option maxRecDepth 100000 in
set_option maxHeartbeats 12800000 in
theorem alive_c (w : World) (hg : Gens w) : Calls Tryd.prog 7 #[] w (Told w (.bool true)) := by
  have kc := fun (w : World) (C : Array Value) (n c : Nat) => Lib.run_convert_bytes_const (P := Tryd.prog) w 27 5 C n c Tryd.underlying27 Tryd.underlying5
  obtain ⟨ZZ, hZZ⟩ : ∃ ZZ : Array Value, ZZ = (List.replicate 31 z8).toArray := ⟨_, rfl⟩
  have hmk : ∀ W : World, (Instr.makeSlice 27 (.int .i64 31) (.int .i64 31)).run Tryd.prog W = .ok (.slice (some ⟨W.heap.size, 0, none⟩) 31 31) (W.alloc (.cells ZZ 5)) := fun W => by rw [hZZ]; exact run_make8 31 (by omega) W
  have HZ : Hid (ZZ.toList = cb aval) := Lib.hid (by rw [hZZ]; exact (cb_replicate 31).symm)
  have HG := Lib.hid hg
  clear hZZ hg
  go_enter Tryd.func7, Tryd.ntmps7
  go_wp2
  go_loopw [11] (fun i wr => ∃ (k : Nat) (A B : Option Addr) (n c m d : Nat), k ≤ 7 ∧ i = .int .i64 k ∧ Hid (Alw w wr k A B n c m d)) (fun i _ => 7 - (intOf i).toNat)
  case atStart => exact ⟨0, none, none, 0, 0, 0, 0, Nat.zero_le _, rfl, Lib.hid ⟨Blk.new w 34 [.bool true, .slice none 0 0, .slice none 0 0], ⟨rfl, SRw.nil_ _ _, SRw.nil_ _ _⟩, (Only.refl _ w).alloc (fun _ h => h) _⟩⟩
  case round =>
    obtain ⟨k, A, B, n, c, m, d, hk, rfl, HA⟩ := hrel
    by_cases hlt : k < 7
    · have hkc : (k : Int) < 7 := by omega
      have hw1 : IntKind.i64.wrap (48 + (k : Int)) = 48 + (k : Int) := IntWalk.i64_in _ (by omega)
      have hw2 : IntKind.u8.wrap (48 + (k : Int)) = 48 + (k : Int) := by unfold IntKind.wrap; simp [IntKind.signed, IntKind.bits]; omega
      have HKL : Hid (n ≤ 10000) := Lib.hid (by have := HA.out.2.1.2.1.len; rw [aits_length] at this; omega)
      go_wp2_with (fail)
      refine wp_region_held_drew (S := (fun _ => True)) (by kernel_rfl) trivial (fun _ => ?_)
      have HAd : Hid (Alw w wr.drew k A B n c m d) := Lib.hid (HA.out.only (Only.refl _ wr).drew)
      obtain ⟨wd, hwd⟩ : ∃ wd, wd = wr.drew := ⟨_, rfl⟩
      rw [← hwd] at HAd
      rw [← hwd]
      clear hwd HA
      refine take_one (i := 1) (d := 15) (oi := ?_) (v := ?_) ?_ (by kernel_rfl) (by kernel_rfl) (by kernel_rfl) (fun _ _ _ h => h) ?_ ?_ ?_ (by assumption) ?_
      case refine_3 => (simp only [List.getElem?_toArray, List.getElem?_cons_succ, List.getElem?_cons_zero]; rfl)
      case refine_4 => rfl
      case refine_5 => rfl
      case refine_6 => (intro w' hSw; (try dsimp only at hSw); go_simp; (try with_reducible rfl))
      simp only [Act.put, List.setIfInBounds_toArray, List.set_cons_zero, List.set_cons_succ]
      refine take_one (i := 2) (d := 16) (oi := ?_) (v := ?_) ?_ (by kernel_rfl) (by kernel_rfl) (by kernel_rfl) (fun _ _ _ h => h) ?_ ?_ ?_ (by assumption) ?_
      case refine_3 => (simp only [List.getElem?_toArray, List.getElem?_cons_succ, List.getElem?_cons_zero]; rfl)
      case refine_4 => rfl
      case refine_5 => rfl
      case refine_6 => (intro w' hSw; (try dsimp only at hSw); go_simp; (try with_reducible rfl))
      simp only [Act.put, List.setIfInBounds_toArray, List.set_cons_zero, List.set_cons_succ]
      refine take_one (i := 3) (d := 17) (oi := ?_) (v := ?_) ?_ (by kernel_rfl) (by kernel_rfl) (by kernel_rfl) (fun _ _ _ h => h) ?_ ?_ ?_ (by assumption) ?_
      case refine_3 => (simp only [List.getElem?_toArray, List.getElem?_cons_succ, List.getElem?_cons_zero]; rfl)
      case refine_4 => rfl
      case refine_5 => rfl
      case refine_6 => (intro w' hSw; (try dsimp only at hSw); go_simp; (try with_reducible rfl))
      simp only [Act.put, List.setIfInBounds_toArray, List.set_cons_zero, List.set_cons_succ]
      refine wpAnyH_ready (rs := [0, 4, 5]) (by kernel_rfl) (by simp) ?_
      refine AllReadyH.cons (o := ?_) ?_ (fun K hK => ?_) (AllReadyH.cons (o := ?_) ?_ (fun K hK => ?_) (AllReadyH.cons (o := ?_) ?_ (fun K hK => ?_) AllReadyH.nil))
      case refine_2 => (simp only [List.getElem?_toArray, List.getElem?_cons_zero]; rfl)
      case refine_5 => (simp only [List.getElem?_toArray, List.getElem?_cons_succ, List.getElem?_cons_zero]; rfl)
      case refine_8 => (simp only [List.getElem?_toArray, List.getElem?_cons_succ, List.getElem?_cons_zero]; rfl)
      case refine_3 =>
        obtain ⟨b0, b1, b2⟩ := (HAd.out).1.tri
        go_simp
        refine hK.out _ _ trivial (fun hHeld => ?_)
        clear hK K
        try simp only [Act.put, List.setIfInBounds_toArray, List.set_cons_zero, List.set_cons_succ]
        clear b0 b1 b2
        refine wpAnyH_ready (rs := [4, 5]) (by kernel_rfl) (by simp) ?_
        refine AllReadyH.cons (o := ?_) ?_ (fun K hK => ?_) (AllReadyH.cons (o := ?_) ?_ (fun K hK => ?_) AllReadyH.nil)
        case refine_2 => (simp only [List.getElem?_toArray, List.getElem?_cons_succ, List.getElem?_cons_zero]; rfl)
        case refine_5 => (simp only [List.getElem?_toArray, List.getElem?_cons_succ, List.getElem?_cons_zero]; rfl)
        case refine_3 =>
          go_simp
          refine hK.out _ _ trivial (fun hHeld => ?_)
          clear hK K
          try simp only [Act.put, List.setIfInBounds_toArray, List.set_cons_zero, List.set_cons_succ]
          refine wpAnyH_ready (rs := [5]) (by kernel_rfl) (by simp) ?_
          refine AllReadyH.cons (o := ?_) ?_ (fun K hK => ?_) AllReadyH.nil
          case refine_2 => (simp only [List.getElem?_toArray, List.getElem?_cons_succ, List.getElem?_cons_zero]; rfl)
          go_simp
          refine hK.out _ _ trivial (fun hHeld => ?_)
          clear hK K
          try simp only [Act.put, List.setIfInBounds_toArray, List.set_cons_zero, List.set_cons_succ]
          refine wpAnyH_ready (rs := [6]) (by kernel_rfl) (by simp) ?_
          refine AllReadyH.cons (o := ?_) ?_ (fun K hK => ?_) AllReadyH.nil
          case refine_2 => (simp only [List.getElem?_toArray, List.getElem?_cons_succ, List.getElem?_cons_zero]; rfl)
          have HC := Lib.hid (Of_c ((wd.alloc (.cells #[.int .u8 97, .int .u8 98, .int .u8 99, .int .u8 100, .int .u8 (48 + (k : Int))] 5)).alloc (.cells ZZ 5)) _ _ (akey k) aval (((lit_at wd #[.int .u8 97, .int .u8 98, .int .u8 99, .int .u8 100, .int .u8 (48 + (k : Int))] _ 5 wd.heap.size (akey k) (by simp) (key_cb k hlt) rfl (by omega))).later ((Only.refl _ (wd.alloc (.cells #[.int .u8 97, .int .u8 98, .int .u8 99, .int .u8 100, .int .u8 (48 + (k : Int))] 5))).alloc (fun _ h => h) _)) (lit_at (wd.alloc (.cells #[.int .u8 97, .int .u8 98, .int .u8 99, .int .u8 100, .int .u8 (48 + (k : Int))] 5)) ZZ _ 31 (wd.heap.size + 1) aval (by simp) HZ.out rfl (by omega)) (by show 5 ≤ _; omega) (by show (List.replicate 31 (0 : UInt8)).length ≤ _; simp))
          have HA1 : Hid (Alw w ((wd.alloc (.cells #[.int .u8 97, .int .u8 98, .int .u8 99, .int .u8 100, .int .u8 (48 + (k : Int))] 5)).alloc (.cells ZZ 5)) k A B n c m d) := Lib.hid (((((HAd.out).only ((Only.refl _ wd).alloc (fun _ h => h) _) : Alw w (wd.alloc (.cells #[.int .u8 97, .int .u8 98, .int .u8 99, .int .u8 100, .int .u8 (48 + (k : Int))] 5)) k A B n c m d)).only ((Only.refl _ (wd.alloc (.cells #[.int .u8 97, .int .u8 98, .int .u8 99, .int .u8 100, .int .u8 (48 + (k : Int))] 5))).alloc (fun _ h => h) _) : Alw w ((wd.alloc (.cells #[.int .u8 97, .int .u8 98, .int .u8 99, .int .u8 100, .int .u8 (48 + (k : Int))] 5)).alloc (.cells ZZ 5)) k A B n c m d))
          go_simp
          (go_at_call 23; (with_reducible refine (HC.out).mono ?_); rintro ee w2 ⟨K1, K2, rfl, hk1, hk2, ho⟩; (obtain ⟨P1, p1, rfl, hk1⟩ := hk1); (obtain ⟨P2, p2, rfl, hk2⟩ := hk2); have HN1 : Hid (New w2 _ (.slice P1 (akey k).length p1) (akey k)) := Lib.hid ⟨P1, p1, rfl, hk1⟩; have HN2 : Hid (New w2 _ (.slice P2 aval.length p2) aval) := Lib.hid ⟨P2, p2, rfl, hk2⟩; have HA2 := Lib.hid (HA1.out.only ho); clear hk1 hk2 ho HC)
          go_wp2_with (fail)
          refine hK.out _ _ trivial (fun hHeld => ?_)
          clear hK K
          try simp only [Act.put, List.setIfInBounds_toArray, List.set_cons_zero, List.set_cons_succ]
          refine wpAnyH_ready (rs := [7]) (by kernel_rfl) (by simp) ?_
          refine AllReadyH.cons (o := ?_) ?_ (fun K hK => ?_) AllReadyH.nil
          case refine_2 => (simp only [List.getElem?_toArray, List.getElem?_cons_succ, List.getElem?_cons_zero]; rfl)
          have HC := Lib.hid (With_n w2 (· = w.heap.size) true A B P1 P2 n c m d _ p1 _ p2 0 0 ⟨true, aits k, []⟩ (akey k) aval (fun k hk => hk ▸ HA2.out.1.lt) HA2.out.2.1 HN1.out.src HN2.out.src HKL.out (by show 5 ≤ _; omega) (by show (List.replicate 31 (0 : UInt8)).length ≤ _; simp))
          go_simp
          (go_at_call 19; (with_reducible refine (HC.out).mono ?_); rintro ee w3 ⟨i0, b0, hf, A3, n3, c3, B3, m3, d3, rfl, hs, ho⟩; (obtain ⟨hi0, hb0⟩ := found_next hlt hf); (rw [hi0, hb0] at hs); have HA3 : Hid (Blk w3 w.heap.size 34 [.bool true, .slice A n c, .slice B m d]) := Lib.hid (HA2.out.1.later ho); have HO3 := Lib.hid (on_new HA2.out.2.2 ho); have HS3 := Lib.hid hs; clear hs hf ho HC; (obtain ⟨b0, b1, b2⟩ := HA3.out.tri); (obtain ⟨f0, f1, f2⟩ := HA3.out.melt3))
          go_wp2_with (fail)
          refine hK.out _ _ trivial (fun hHeld => ?_)
          clear hK K
          try simp only [Act.put, List.setIfInBounds_toArray, List.set_cons_zero, List.set_cons_succ]
          refine wpAnyH_ready (rs := [8]) (by kernel_rfl) (by simp) ?_
          refine AllReadyH.cons (o := ?_) ?_ (fun K hK => ?_) AllReadyH.nil
          case refine_2 => (simp only [List.getElem?_toArray, List.getElem?_cons_succ, List.getElem?_cons_zero]; rfl)
          go_simp
          refine hK.out _ _ trivial (fun hHeld => ?_)
          clear hK K
          try simp only [Act.put, List.setIfInBounds_toArray, List.set_cons_zero, List.set_cons_succ]
          refine wpAnyH_done (by kernel_rfl) ?_ _
          obtain ⟨W4, hW4⟩ : ∃ W4, W4 = (((w3.setCell ⟨w.heap.size, 0, none⟩ (.bool true)).setCell ⟨w.heap.size, 1, none⟩ (.slice A3 n3 c3)).setCell ⟨w.heap.size, 2, none⟩ (.slice B3 m3 d3)) := ⟨_, rfl⟩
          have hB4 : Blk W4 w.heap.size 34 [.bool true, .slice A3 n3 c3, .slice B3 m3 d3] := by rw [hW4]; exact ((HA3.out.set_ 0 _).set_ 1 _).set_ 2 _
          have hO4 : Only (· = w.heap.size) w3 W4 := by rw [hW4]; exact (((Only.refl (· = w.heap.size) _).setCell (p := ⟨w.heap.size, 0, none⟩) rfl _).setCell (p := ⟨w.heap.size, 1, none⟩) rfl _).setCell (p := ⟨w.heap.size, 2, none⟩) rfl _
          have hS4 := HS3.out.step (hO4.mono fun _ h => .inl h) fun k hk => .inl hk
          rw [← hW4]
          have HX : Hid (Alw w W4 (k + 1) A3 B3 n3 c3 m3 d3) := Lib.hid ⟨hB4, by have e := with_next k; unfold ait at e; rw [e] at hS4; exact hS4, HO3.out.trans (hO4.mono fun j hj => by omega)⟩
          clear hW4 hB4 hO4 hS4 b0 b1 b2 f0 f1 f2 hw1 hw2
          go_wp2
          go_roundw
          case rel => exact ⟨k + 1, A3, B3, n3, c3, m3, d3, by omega, by go_num, HX⟩
          case measure => simp [intOf]; omega
        case refine_6 =>
          go_simp
          refine hK.out _ _ trivial (fun hHeld => ?_)
          clear hK K
          try simp only [Act.put, List.setIfInBounds_toArray, List.set_cons_zero, List.set_cons_succ]
          refine wpAnyH_ready (rs := [4]) (by kernel_rfl) (by simp) ?_
          refine AllReadyH.cons (o := ?_) ?_ (fun K hK => ?_) AllReadyH.nil
          case refine_2 => (simp only [List.getElem?_toArray, List.getElem?_cons_succ, List.getElem?_cons_zero]; rfl)
          go_simp
          refine hK.out _ _ trivial (fun hHeld => ?_)
          clear hK K
          try simp only [Act.put, List.setIfInBounds_toArray, List.set_cons_zero, List.set_cons_succ]
          refine wpAnyH_ready (rs := [6]) (by kernel_rfl) (by simp) ?_
          refine AllReadyH.cons (o := ?_) ?_ (fun K hK => ?_) AllReadyH.nil
          case refine_2 => (simp only [List.getElem?_toArray, List.getElem?_cons_succ, List.getElem?_cons_zero]; rfl)
          have HC := Lib.hid (Of_c ((wd.alloc (.cells ZZ 5)).alloc (.cells #[.int .u8 97, .int .u8 98, .int .u8 99, .int .u8 100, .int .u8 (48 + (k : Int))] 5)) _ _ (akey k) aval (lit_at (wd.alloc (.cells ZZ 5)) #[.int .u8 97, .int .u8 98, .int .u8 99, .int .u8 100, .int .u8 (48 + (k : Int))] _ 5 (wd.heap.size + 1) (akey k) (by simp) (key_cb k hlt) rfl (by omega)) (((lit_at wd ZZ _ 31 wd.heap.size aval (by simp) HZ.out rfl (by omega))).later ((Only.refl _ (wd.alloc (.cells ZZ 5))).alloc (fun _ h => h) _)) (by show 5 ≤ _; omega) (by show (List.replicate 31 (0 : UInt8)).length ≤ _; simp))
          have HA1 : Hid (Alw w ((wd.alloc (.cells ZZ 5)).alloc (.cells #[.int .u8 97, .int .u8 98, .int .u8 99, .int .u8 100, .int .u8 (48 + (k : Int))] 5)) k A B n c m d) := Lib.hid (((((HAd.out).only ((Only.refl _ wd).alloc (fun _ h => h) _) : Alw w (wd.alloc (.cells ZZ 5)) k A B n c m d)).only ((Only.refl _ (wd.alloc (.cells ZZ 5))).alloc (fun _ h => h) _) : Alw w ((wd.alloc (.cells ZZ 5)).alloc (.cells #[.int .u8 97, .int .u8 98, .int .u8 99, .int .u8 100, .int .u8 (48 + (k : Int))] 5)) k A B n c m d))
          go_simp
          (go_at_call 23; (with_reducible refine (HC.out).mono ?_); rintro ee w2 ⟨K1, K2, rfl, hk1, hk2, ho⟩; (obtain ⟨P1, p1, rfl, hk1⟩ := hk1); (obtain ⟨P2, p2, rfl, hk2⟩ := hk2); have HN1 : Hid (New w2 _ (.slice P1 (akey k).length p1) (akey k)) := Lib.hid ⟨P1, p1, rfl, hk1⟩; have HN2 : Hid (New w2 _ (.slice P2 aval.length p2) aval) := Lib.hid ⟨P2, p2, rfl, hk2⟩; have HA2 := Lib.hid (HA1.out.only ho); clear hk1 hk2 ho HC)
          go_wp2_with (fail)
          refine hK.out _ _ trivial (fun hHeld => ?_)
          clear hK K
          try simp only [Act.put, List.setIfInBounds_toArray, List.set_cons_zero, List.set_cons_succ]
          refine wpAnyH_ready (rs := [7]) (by kernel_rfl) (by simp) ?_
          refine AllReadyH.cons (o := ?_) ?_ (fun K hK => ?_) AllReadyH.nil
          case refine_2 => (simp only [List.getElem?_toArray, List.getElem?_cons_succ, List.getElem?_cons_zero]; rfl)
          have HC := Lib.hid (With_n w2 (· = w.heap.size) true A B P1 P2 n c m d _ p1 _ p2 0 0 ⟨true, aits k, []⟩ (akey k) aval (fun k hk => hk ▸ HA2.out.1.lt) HA2.out.2.1 HN1.out.src HN2.out.src HKL.out (by show 5 ≤ _; omega) (by show (List.replicate 31 (0 : UInt8)).length ≤ _; simp))
          go_simp
          (go_at_call 19; (with_reducible refine (HC.out).mono ?_); rintro ee w3 ⟨i0, b0, hf, A3, n3, c3, B3, m3, d3, rfl, hs, ho⟩; (obtain ⟨hi0, hb0⟩ := found_next hlt hf); (rw [hi0, hb0] at hs); have HA3 : Hid (Blk w3 w.heap.size 34 [.bool true, .slice A n c, .slice B m d]) := Lib.hid (HA2.out.1.later ho); have HO3 := Lib.hid (on_new HA2.out.2.2 ho); have HS3 := Lib.hid hs; clear hs hf ho HC; (obtain ⟨b0, b1, b2⟩ := HA3.out.tri); (obtain ⟨f0, f1, f2⟩ := HA3.out.melt3))
          go_wp2_with (fail)
          refine hK.out _ _ trivial (fun hHeld => ?_)
          clear hK K
          try simp only [Act.put, List.setIfInBounds_toArray, List.set_cons_zero, List.set_cons_succ]
          refine wpAnyH_ready (rs := [8]) (by kernel_rfl) (by simp) ?_
          refine AllReadyH.cons (o := ?_) ?_ (fun K hK => ?_) AllReadyH.nil
          case refine_2 => (simp only [List.getElem?_toArray, List.getElem?_cons_succ, List.getElem?_cons_zero]; rfl)
          go_simp
          refine hK.out _ _ trivial (fun hHeld => ?_)
          clear hK K
          try simp only [Act.put, List.setIfInBounds_toArray, List.set_cons_zero, List.set_cons_succ]
          refine wpAnyH_done (by kernel_rfl) ?_ _
          obtain ⟨W4, hW4⟩ : ∃ W4, W4 = (((w3.setCell ⟨w.heap.size, 0, none⟩ (.bool true)).setCell ⟨w.heap.size, 1, none⟩ (.slice A3 n3 c3)).setCell ⟨w.heap.size, 2, none⟩ (.slice B3 m3 d3)) := ⟨_, rfl⟩
          have hB4 : Blk W4 w.heap.size 34 [.bool true, .slice A3 n3 c3, .slice B3 m3 d3] := by rw [hW4]; exact ((HA3.out.set_ 0 _).set_ 1 _).set_ 2 _
          have hO4 : Only (· = w.heap.size) w3 W4 := by rw [hW4]; exact (((Only.refl (· = w.heap.size) _).setCell (p := ⟨w.heap.size, 0, none⟩) rfl _).setCell (p := ⟨w.heap.size, 1, none⟩) rfl _).setCell (p := ⟨w.heap.size, 2, none⟩) rfl _
          have hS4 := HS3.out.step (hO4.mono fun _ h => .inl h) fun k hk => .inl hk
          rw [← hW4]
          have HX : Hid (Alw w W4 (k + 1) A3 B3 n3 c3 m3 d3) := Lib.hid ⟨hB4, by have e := with_next k; unfold ait at e; rw [e] at hS4; exact hS4, HO3.out.trans (hO4.mono fun j hj => by omega)⟩
          clear hW4 hB4 hO4 hS4 b0 b1 b2 f0 f1 f2 hw1 hw2
          go_wp2
          go_roundw
          case rel => exact ⟨k + 1, A3, B3, n3, c3, m3, d3, by omega, by go_num, HX⟩
          case measure => simp [intOf]; omega
      case refine_6 =>
        go_simp
        refine hK.out _ _ trivial (fun hHeld => ?_)
        clear hK K
        try simp only [Act.put, List.setIfInBounds_toArray, List.set_cons_zero, List.set_cons_succ]
        refine wpAnyH_ready (rs := [0, 5]) (by kernel_rfl) (by simp) ?_
        refine AllReadyH.cons (o := ?_) ?_ (fun K hK => ?_) (AllReadyH.cons (o := ?_) ?_ (fun K hK => ?_) AllReadyH.nil)
        case refine_2 => (simp only [List.getElem?_toArray, List.getElem?_cons_zero]; rfl)
        case refine_5 => (simp only [List.getElem?_toArray, List.getElem?_cons_succ, List.getElem?_cons_zero]; rfl)
        case refine_3 =>
          obtain ⟨b0, b1, b2⟩ := (((HAd.out).only ((Only.refl _ wd).alloc (fun _ h => h) _) : Alw w (wd.alloc (.cells #[.int .u8 97, .int .u8 98, .int .u8 99, .int .u8 100, .int .u8 (48 + (k : Int))] 5)) k A B n c m d)).1.tri
          go_simp
          refine hK.out _ _ trivial (fun hHeld => ?_)
          clear hK K
          try simp only [Act.put, List.setIfInBounds_toArray, List.set_cons_zero, List.set_cons_succ]
          clear b0 b1 b2
          refine wpAnyH_ready (rs := [5]) (by kernel_rfl) (by simp) ?_
          refine AllReadyH.cons (o := ?_) ?_ (fun K hK => ?_) AllReadyH.nil
          case refine_2 => (simp only [List.getElem?_toArray, List.getElem?_cons_succ, List.getElem?_cons_zero]; rfl)
          go_simp
          refine hK.out _ _ trivial (fun hHeld => ?_)
          clear hK K
          try simp only [Act.put, List.setIfInBounds_toArray, List.set_cons_zero, List.set_cons_succ]
          refine wpAnyH_ready (rs := [6]) (by kernel_rfl) (by simp) ?_
          refine AllReadyH.cons (o := ?_) ?_ (fun K hK => ?_) AllReadyH.nil
          case refine_2 => (simp only [List.getElem?_toArray, List.getElem?_cons_succ, List.getElem?_cons_zero]; rfl)
          have HC := Lib.hid (Of_c ((wd.alloc (.cells #[.int .u8 97, .int .u8 98, .int .u8 99, .int .u8 100, .int .u8 (48 + (k : Int))] 5)).alloc (.cells ZZ 5)) _ _ (akey k) aval (((lit_at wd #[.int .u8 97, .int .u8 98, .int .u8 99, .int .u8 100, .int .u8 (48 + (k : Int))] _ 5 wd.heap.size (akey k) (by simp) (key_cb k hlt) rfl (by omega))).later ((Only.refl _ (wd.alloc (.cells #[.int .u8 97, .int .u8 98, .int .u8 99, .int .u8 100, .int .u8 (48 + (k : Int))] 5))).alloc (fun _ h => h) _)) (lit_at (wd.alloc (.cells #[.int .u8 97, .int .u8 98, .int .u8 99, .int .u8 100, .int .u8 (48 + (k : Int))] 5)) ZZ _ 31 (wd.heap.size + 1) aval (by simp) HZ.out rfl (by omega)) (by show 5 ≤ _; omega) (by show (List.replicate 31 (0 : UInt8)).length ≤ _; simp))
          have HA1 : Hid (Alw w ((wd.alloc (.cells #[.int .u8 97, .int .u8 98, .int .u8 99, .int .u8 100, .int .u8 (48 + (k : Int))] 5)).alloc (.cells ZZ 5)) k A B n c m d) := Lib.hid (((((HAd.out).only ((Only.refl _ wd).alloc (fun _ h => h) _) : Alw w (wd.alloc (.cells #[.int .u8 97, .int .u8 98, .int .u8 99, .int .u8 100, .int .u8 (48 + (k : Int))] 5)) k A B n c m d)).only ((Only.refl _ (wd.alloc (.cells #[.int .u8 97, .int .u8 98, .int .u8 99, .int .u8 100, .int .u8 (48 + (k : Int))] 5))).alloc (fun _ h => h) _) : Alw w ((wd.alloc (.cells #[.int .u8 97, .int .u8 98, .int .u8 99, .int .u8 100, .int .u8 (48 + (k : Int))] 5)).alloc (.cells ZZ 5)) k A B n c m d))
          go_simp
          (go_at_call 23; (with_reducible refine (HC.out).mono ?_); rintro ee w2 ⟨K1, K2, rfl, hk1, hk2, ho⟩; (obtain ⟨P1, p1, rfl, hk1⟩ := hk1); (obtain ⟨P2, p2, rfl, hk2⟩ := hk2); have HN1 : Hid (New w2 _ (.slice P1 (akey k).length p1) (akey k)) := Lib.hid ⟨P1, p1, rfl, hk1⟩; have HN2 : Hid (New w2 _ (.slice P2 aval.length p2) aval) := Lib.hid ⟨P2, p2, rfl, hk2⟩; have HA2 := Lib.hid (HA1.out.only ho); clear hk1 hk2 ho HC)
          go_wp2_with (fail)
          refine hK.out _ _ trivial (fun hHeld => ?_)
          clear hK K
          try simp only [Act.put, List.setIfInBounds_toArray, List.set_cons_zero, List.set_cons_succ]
          refine wpAnyH_ready (rs := [7]) (by kernel_rfl) (by simp) ?_
          refine AllReadyH.cons (o := ?_) ?_ (fun K hK => ?_) AllReadyH.nil
          case refine_2 => (simp only [List.getElem?_toArray, List.getElem?_cons_succ, List.getElem?_cons_zero]; rfl)
          have HC := Lib.hid (With_n w2 (· = w.heap.size) true A B P1 P2 n c m d _ p1 _ p2 0 0 ⟨true, aits k, []⟩ (akey k) aval (fun k hk => hk ▸ HA2.out.1.lt) HA2.out.2.1 HN1.out.src HN2.out.src HKL.out (by show 5 ≤ _; omega) (by show (List.replicate 31 (0 : UInt8)).length ≤ _; simp))
          go_simp
          (go_at_call 19; (with_reducible refine (HC.out).mono ?_); rintro ee w3 ⟨i0, b0, hf, A3, n3, c3, B3, m3, d3, rfl, hs, ho⟩; (obtain ⟨hi0, hb0⟩ := found_next hlt hf); (rw [hi0, hb0] at hs); have HA3 : Hid (Blk w3 w.heap.size 34 [.bool true, .slice A n c, .slice B m d]) := Lib.hid (HA2.out.1.later ho); have HO3 := Lib.hid (on_new HA2.out.2.2 ho); have HS3 := Lib.hid hs; clear hs hf ho HC; (obtain ⟨b0, b1, b2⟩ := HA3.out.tri); (obtain ⟨f0, f1, f2⟩ := HA3.out.melt3))
          go_wp2_with (fail)
          refine hK.out _ _ trivial (fun hHeld => ?_)
          clear hK K
          try simp only [Act.put, List.setIfInBounds_toArray, List.set_cons_zero, List.set_cons_succ]
          refine wpAnyH_ready (rs := [8]) (by kernel_rfl) (by simp) ?_
          refine AllReadyH.cons (o := ?_) ?_ (fun K hK => ?_) AllReadyH.nil
          case refine_2 => (simp only [List.getElem?_toArray, List.getElem?_cons_succ, List.getElem?_cons_zero]; rfl)
          go_simp
          refine hK.out _ _ trivial (fun hHeld => ?_)
          clear hK K
          try simp only [Act.put, List.setIfInBounds_toArray, List.set_cons_zero, List.set_cons_succ]
          refine wpAnyH_done (by kernel_rfl) ?_ _
          obtain ⟨W4, hW4⟩ : ∃ W4, W4 = (((w3.setCell ⟨w.heap.size, 0, none⟩ (.bool true)).setCell ⟨w.heap.size, 1, none⟩ (.slice A3 n3 c3)).setCell ⟨w.heap.size, 2, none⟩ (.slice B3 m3 d3)) := ⟨_, rfl⟩
          have hB4 : Blk W4 w.heap.size 34 [.bool true, .slice A3 n3 c3, .slice B3 m3 d3] := by rw [hW4]; exact ((HA3.out.set_ 0 _).set_ 1 _).set_ 2 _
          have hO4 : Only (· = w.heap.size) w3 W4 := by rw [hW4]; exact (((Only.refl (· = w.heap.size) _).setCell (p := ⟨w.heap.size, 0, none⟩) rfl _).setCell (p := ⟨w.heap.size, 1, none⟩) rfl _).setCell (p := ⟨w.heap.size, 2, none⟩) rfl _
          have hS4 := HS3.out.step (hO4.mono fun _ h => .inl h) fun k hk => .inl hk
          rw [← hW4]
          have HX : Hid (Alw w W4 (k + 1) A3 B3 n3 c3 m3 d3) := Lib.hid ⟨hB4, by have e := with_next k; unfold ait at e; rw [e] at hS4; exact hS4, HO3.out.trans (hO4.mono fun j hj => by omega)⟩
          clear hW4 hB4 hO4 hS4 b0 b1 b2 f0 f1 f2 hw1 hw2
          go_wp2
          go_roundw
          case rel => exact ⟨k + 1, A3, B3, n3, c3, m3, d3, by omega, by go_num, HX⟩
          case measure => simp [intOf]; omega
        case refine_6 =>
          go_simp
          refine hK.out _ _ trivial (fun hHeld => ?_)
          clear hK K
          try simp only [Act.put, List.setIfInBounds_toArray, List.set_cons_zero, List.set_cons_succ]
          refine wpAnyH_ready (rs := [0, 6]) (by kernel_rfl) (by simp) ?_
          refine AllReadyH.cons (o := ?_) ?_ (fun K hK => ?_) (AllReadyH.cons (o := ?_) ?_ (fun K hK => ?_) AllReadyH.nil)
          case refine_2 => (simp only [List.getElem?_toArray, List.getElem?_cons_zero]; rfl)
          case refine_5 => (simp only [List.getElem?_toArray, List.getElem?_cons_succ, List.getElem?_cons_zero]; rfl)
          case refine_3 =>
            obtain ⟨b0, b1, b2⟩ := (((((HAd.out).only ((Only.refl _ wd).alloc (fun _ h => h) _) : Alw w (wd.alloc (.cells #[.int .u8 97, .int .u8 98, .int .u8 99, .int .u8 100, .int .u8 (48 + (k : Int))] 5)) k A B n c m d)).only ((Only.refl _ (wd.alloc (.cells #[.int .u8 97, .int .u8 98, .int .u8 99, .int .u8 100, .int .u8 (48 + (k : Int))] 5))).alloc (fun _ h => h) _) : Alw w ((wd.alloc (.cells #[.int .u8 97, .int .u8 98, .int .u8 99, .int .u8 100, .int .u8 (48 + (k : Int))] 5)).alloc (.cells ZZ 5)) k A B n c m d)).1.tri
            go_simp
            refine hK.out _ _ trivial (fun hHeld => ?_)
            clear hK K
            try simp only [Act.put, List.setIfInBounds_toArray, List.set_cons_zero, List.set_cons_succ]
            clear b0 b1 b2
            refine wpAnyH_ready (rs := [6]) (by kernel_rfl) (by simp) ?_
            refine AllReadyH.cons (o := ?_) ?_ (fun K hK => ?_) AllReadyH.nil
            case refine_2 => (simp only [List.getElem?_toArray, List.getElem?_cons_succ, List.getElem?_cons_zero]; rfl)
            have HC := Lib.hid (Of_c ((wd.alloc (.cells #[.int .u8 97, .int .u8 98, .int .u8 99, .int .u8 100, .int .u8 (48 + (k : Int))] 5)).alloc (.cells ZZ 5)) _ _ (akey k) aval (((lit_at wd #[.int .u8 97, .int .u8 98, .int .u8 99, .int .u8 100, .int .u8 (48 + (k : Int))] _ 5 wd.heap.size (akey k) (by simp) (key_cb k hlt) rfl (by omega))).later ((Only.refl _ (wd.alloc (.cells #[.int .u8 97, .int .u8 98, .int .u8 99, .int .u8 100, .int .u8 (48 + (k : Int))] 5))).alloc (fun _ h => h) _)) (lit_at (wd.alloc (.cells #[.int .u8 97, .int .u8 98, .int .u8 99, .int .u8 100, .int .u8 (48 + (k : Int))] 5)) ZZ _ 31 (wd.heap.size + 1) aval (by simp) HZ.out rfl (by omega)) (by show 5 ≤ _; omega) (by show (List.replicate 31 (0 : UInt8)).length ≤ _; simp))
            have HA1 : Hid (Alw w ((wd.alloc (.cells #[.int .u8 97, .int .u8 98, .int .u8 99, .int .u8 100, .int .u8 (48 + (k : Int))] 5)).alloc (.cells ZZ 5)) k A B n c m d) := Lib.hid (((((HAd.out).only ((Only.refl _ wd).alloc (fun _ h => h) _) : Alw w (wd.alloc (.cells #[.int .u8 97, .int .u8 98, .int .u8 99, .int .u8 100, .int .u8 (48 + (k : Int))] 5)) k A B n c m d)).only ((Only.refl _ (wd.alloc (.cells #[.int .u8 97, .int .u8 98, .int .u8 99, .int .u8 100, .int .u8 (48 + (k : Int))] 5))).alloc (fun _ h => h) _) : Alw w ((wd.alloc (.cells #[.int .u8 97, .int .u8 98, .int .u8 99, .int .u8 100, .int .u8 (48 + (k : Int))] 5)).alloc (.cells ZZ 5)) k A B n c m d))
            go_simp
            (go_at_call 23; (with_reducible refine (HC.out).mono ?_); rintro ee w2 ⟨K1, K2, rfl, hk1, hk2, ho⟩; (obtain ⟨P1, p1, rfl, hk1⟩ := hk1); (obtain ⟨P2, p2, rfl, hk2⟩ := hk2); have HN1 : Hid (New w2 _ (.slice P1 (akey k).length p1) (akey k)) := Lib.hid ⟨P1, p1, rfl, hk1⟩; have HN2 : Hid (New w2 _ (.slice P2 aval.length p2) aval) := Lib.hid ⟨P2, p2, rfl, hk2⟩; have HA2 := Lib.hid (HA1.out.only ho); clear hk1 hk2 ho HC)
            go_wp2_with (fail)
            refine hK.out _ _ trivial (fun hHeld => ?_)
            clear hK K
            try simp only [Act.put, List.setIfInBounds_toArray, List.set_cons_zero, List.set_cons_succ]
            refine wpAnyH_ready (rs := [7]) (by kernel_rfl) (by simp) ?_
            refine AllReadyH.cons (o := ?_) ?_ (fun K hK => ?_) AllReadyH.nil
            case refine_2 => (simp only [List.getElem?_toArray, List.getElem?_cons_succ, List.getElem?_cons_zero]; rfl)
            have HC := Lib.hid (With_n w2 (· = w.heap.size) true A B P1 P2 n c m d _ p1 _ p2 0 0 ⟨true, aits k, []⟩ (akey k) aval (fun k hk => hk ▸ HA2.out.1.lt) HA2.out.2.1 HN1.out.src HN2.out.src HKL.out (by show 5 ≤ _; omega) (by show (List.replicate 31 (0 : UInt8)).length ≤ _; simp))
            go_simp
            (go_at_call 19; (with_reducible refine (HC.out).mono ?_); rintro ee w3 ⟨i0, b0, hf, A3, n3, c3, B3, m3, d3, rfl, hs, ho⟩; (obtain ⟨hi0, hb0⟩ := found_next hlt hf); (rw [hi0, hb0] at hs); have HA3 : Hid (Blk w3 w.heap.size 34 [.bool true, .slice A n c, .slice B m d]) := Lib.hid (HA2.out.1.later ho); have HO3 := Lib.hid (on_new HA2.out.2.2 ho); have HS3 := Lib.hid hs; clear hs hf ho HC; (obtain ⟨b0, b1, b2⟩ := HA3.out.tri); (obtain ⟨f0, f1, f2⟩ := HA3.out.melt3))
            go_wp2_with (fail)
            refine hK.out _ _ trivial (fun hHeld => ?_)
            clear hK K
            try simp only [Act.put, List.setIfInBounds_toArray, List.set_cons_zero, List.set_cons_succ]
            refine wpAnyH_ready (rs := [8]) (by kernel_rfl) (by simp) ?_
            refine AllReadyH.cons (o := ?_) ?_ (fun K hK => ?_) AllReadyH.nil
            case refine_2 => (simp only [List.getElem?_toArray, List.getElem?_cons_succ, List.getElem?_cons_zero]; rfl)
            go_simp
            refine hK.out _ _ trivial (fun hHeld => ?_)
            clear hK K
            try simp only [Act.put, List.setIfInBounds_toArray, List.set_cons_zero, List.set_cons_succ]
            refine wpAnyH_done (by kernel_rfl) ?_ _
            obtain ⟨W4, hW4⟩ : ∃ W4, W4 = (((w3.setCell ⟨w.heap.size, 0, none⟩ (.bool true)).setCell ⟨w.heap.size, 1, none⟩ (.slice A3 n3 c3)).setCell ⟨w.heap.size, 2, none⟩ (.slice B3 m3 d3)) := ⟨_, rfl⟩
            have hB4 : Blk W4 w.heap.size 34 [.bool true, .slice A3 n3 c3, .slice B3 m3 d3] := by rw [hW4]; exact ((HA3.out.set_ 0 _).set_ 1 _).set_ 2 _
            have hO4 : Only (· = w.heap.size) w3 W4 := by rw [hW4]; exact (((Only.refl (· = w.heap.size) _).setCell (p := ⟨w.heap.size, 0, none⟩) rfl _).setCell (p := ⟨w.heap.size, 1, none⟩) rfl _).setCell (p := ⟨w.heap.size, 2, none⟩) rfl _
            have hS4 := HS3.out.step (hO4.mono fun _ h => .inl h) fun k hk => .inl hk
            rw [← hW4]
            have HX : Hid (Alw w W4 (k + 1) A3 B3 n3 c3 m3 d3) := Lib.hid ⟨hB4, by have e := with_next k; unfold ait at e; rw [e] at hS4; exact hS4, HO3.out.trans (hO4.mono fun j hj => by omega)⟩
            clear hW4 hB4 hO4 hS4 b0 b1 b2 f0 f1 f2 hw1 hw2
            go_wp2
            go_roundw
            case rel => exact ⟨k + 1, A3, B3, n3, c3, m3, d3, by omega, by go_num, HX⟩
            case measure => simp [intOf]; omega
          case refine_6 =>
            have HC := Lib.hid (Of_c ((wd.alloc (.cells #[.int .u8 97, .int .u8 98, .int .u8 99, .int .u8 100, .int .u8 (48 + (k : Int))] 5)).alloc (.cells ZZ 5)) _ _ (akey k) aval (((lit_at wd #[.int .u8 97, .int .u8 98, .int .u8 99, .int .u8 100, .int .u8 (48 + (k : Int))] _ 5 wd.heap.size (akey k) (by simp) (key_cb k hlt) rfl (by omega))).later ((Only.refl _ (wd.alloc (.cells #[.int .u8 97, .int .u8 98, .int .u8 99, .int .u8 100, .int .u8 (48 + (k : Int))] 5))).alloc (fun _ h => h) _)) (lit_at (wd.alloc (.cells #[.int .u8 97, .int .u8 98, .int .u8 99, .int .u8 100, .int .u8 (48 + (k : Int))] 5)) ZZ _ 31 (wd.heap.size + 1) aval (by simp) HZ.out rfl (by omega)) (by show 5 ≤ _; omega) (by show (List.replicate 31 (0 : UInt8)).length ≤ _; simp))
            have HA1 : Hid (Alw w ((wd.alloc (.cells #[.int .u8 97, .int .u8 98, .int .u8 99, .int .u8 100, .int .u8 (48 + (k : Int))] 5)).alloc (.cells ZZ 5)) k A B n c m d) := Lib.hid (((((HAd.out).only ((Only.refl _ wd).alloc (fun _ h => h) _) : Alw w (wd.alloc (.cells #[.int .u8 97, .int .u8 98, .int .u8 99, .int .u8 100, .int .u8 (48 + (k : Int))] 5)) k A B n c m d)).only ((Only.refl _ (wd.alloc (.cells #[.int .u8 97, .int .u8 98, .int .u8 99, .int .u8 100, .int .u8 (48 + (k : Int))] 5))).alloc (fun _ h => h) _) : Alw w ((wd.alloc (.cells #[.int .u8 97, .int .u8 98, .int .u8 99, .int .u8 100, .int .u8 (48 + (k : Int))] 5)).alloc (.cells ZZ 5)) k A B n c m d))
            go_simp
            (go_at_call 23; (with_reducible refine (HC.out).mono ?_); rintro ee w2 ⟨K1, K2, rfl, hk1, hk2, ho⟩; (obtain ⟨P1, p1, rfl, hk1⟩ := hk1); (obtain ⟨P2, p2, rfl, hk2⟩ := hk2); have HN1 : Hid (New w2 _ (.slice P1 (akey k).length p1) (akey k)) := Lib.hid ⟨P1, p1, rfl, hk1⟩; have HN2 : Hid (New w2 _ (.slice P2 aval.length p2) aval) := Lib.hid ⟨P2, p2, rfl, hk2⟩; have HA2 := Lib.hid (HA1.out.only ho); clear hk1 hk2 ho HC)
            go_wp2_with (fail)
            refine hK.out _ _ trivial (fun hHeld => ?_)
            clear hK K
            try simp only [Act.put, List.setIfInBounds_toArray, List.set_cons_zero, List.set_cons_succ]
            refine wpAnyH_ready (rs := [0]) (by kernel_rfl) (by simp) ?_
            refine AllReadyH.cons (o := ?_) ?_ (fun K hK => ?_) AllReadyH.nil
            case refine_2 => (simp only [List.getElem?_toArray, List.getElem?_cons_zero]; rfl)
            obtain ⟨b0, b1, b2⟩ := (HA2.out).1.tri
            go_simp
            refine hK.out _ _ trivial (fun hHeld => ?_)
            clear hK K
            try simp only [Act.put, List.setIfInBounds_toArray, List.set_cons_zero, List.set_cons_succ]
            clear b0 b1 b2
            refine wpAnyH_ready (rs := [7]) (by kernel_rfl) (by simp) ?_
            refine AllReadyH.cons (o := ?_) ?_ (fun K hK => ?_) AllReadyH.nil
            case refine_2 => (simp only [List.getElem?_toArray, List.getElem?_cons_succ, List.getElem?_cons_zero]; rfl)
            have HC := Lib.hid (With_n w2 (· = w.heap.size) true A B P1 P2 n c m d _ p1 _ p2 0 0 ⟨true, aits k, []⟩ (akey k) aval (fun k hk => hk ▸ HA2.out.1.lt) HA2.out.2.1 HN1.out.src HN2.out.src HKL.out (by show 5 ≤ _; omega) (by show (List.replicate 31 (0 : UInt8)).length ≤ _; simp))
            go_simp
            (go_at_call 19; (with_reducible refine (HC.out).mono ?_); rintro ee w3 ⟨i0, b0, hf, A3, n3, c3, B3, m3, d3, rfl, hs, ho⟩; (obtain ⟨hi0, hb0⟩ := found_next hlt hf); (rw [hi0, hb0] at hs); have HA3 : Hid (Blk w3 w.heap.size 34 [.bool true, .slice A n c, .slice B m d]) := Lib.hid (HA2.out.1.later ho); have HO3 := Lib.hid (on_new HA2.out.2.2 ho); have HS3 := Lib.hid hs; clear hs hf ho HC; (obtain ⟨b0, b1, b2⟩ := HA3.out.tri); (obtain ⟨f0, f1, f2⟩ := HA3.out.melt3))
            go_wp2_with (fail)
            refine hK.out _ _ trivial (fun hHeld => ?_)
            clear hK K
            try simp only [Act.put, List.setIfInBounds_toArray, List.set_cons_zero, List.set_cons_succ]
            refine wpAnyH_ready (rs := [8]) (by kernel_rfl) (by simp) ?_
            refine AllReadyH.cons (o := ?_) ?_ (fun K hK => ?_) AllReadyH.nil
            case refine_2 => (simp only [List.getElem?_toArray, List.getElem?_cons_succ, List.getElem?_cons_zero]; rfl)
            go_simp
            refine hK.out _ _ trivial (fun hHeld => ?_)
            clear hK K
            try simp only [Act.put, List.setIfInBounds_toArray, List.set_cons_zero, List.set_cons_succ]
            refine wpAnyH_done (by kernel_rfl) ?_ _
            obtain ⟨W4, hW4⟩ : ∃ W4, W4 = (((w3.setCell ⟨w.heap.size, 0, none⟩ (.bool true)).setCell ⟨w.heap.size, 1, none⟩ (.slice A3 n3 c3)).setCell ⟨w.heap.size, 2, none⟩ (.slice B3 m3 d3)) := ⟨_, rfl⟩
            have hB4 : Blk W4 w.heap.size 34 [.bool true, .slice A3 n3 c3, .slice B3 m3 d3] := by rw [hW4]; exact ((HA3.out.set_ 0 _).set_ 1 _).set_ 2 _
            have hO4 : Only (· = w.heap.size) w3 W4 := by rw [hW4]; exact (((Only.refl (· = w.heap.size) _).setCell (p := ⟨w.heap.size, 0, none⟩) rfl _).setCell (p := ⟨w.heap.size, 1, none⟩) rfl _).setCell (p := ⟨w.heap.size, 2, none⟩) rfl _
            have hS4 := HS3.out.step (hO4.mono fun _ h => .inl h) fun k hk => .inl hk
            rw [← hW4]
            have HX : Hid (Alw w W4 (k + 1) A3 B3 n3 c3 m3 d3) := Lib.hid ⟨hB4, by have e := with_next k; unfold ait at e; rw [e] at hS4; exact hS4, HO3.out.trans (hO4.mono fun j hj => by omega)⟩
            clear hW4 hB4 hO4 hS4 b0 b1 b2 f0 f1 f2 hw1 hw2
            go_wp2
            go_roundw
            case rel => exact ⟨k + 1, A3, B3, n3, c3, m3, d3, by omega, by go_num, HX⟩
            case measure => simp [intOf]; omega
      case refine_9 =>
        go_simp
        refine hK.out _ _ trivial (fun hHeld => ?_)
        clear hK K
        try simp only [Act.put, List.setIfInBounds_toArray, List.set_cons_zero, List.set_cons_succ]
        refine wpAnyH_ready (rs := [0, 4]) (by kernel_rfl) (by simp) ?_
        refine AllReadyH.cons (o := ?_) ?_ (fun K hK => ?_) (AllReadyH.cons (o := ?_) ?_ (fun K hK => ?_) AllReadyH.nil)
        case refine_2 => (simp only [List.getElem?_toArray, List.getElem?_cons_zero]; rfl)
        case refine_5 => (simp only [List.getElem?_toArray, List.getElem?_cons_succ, List.getElem?_cons_zero]; rfl)
        case refine_3 =>
          obtain ⟨b0, b1, b2⟩ := (((HAd.out).only ((Only.refl _ wd).alloc (fun _ h => h) _) : Alw w (wd.alloc (.cells ZZ 5)) k A B n c m d)).1.tri
          go_simp
          refine hK.out _ _ trivial (fun hHeld => ?_)
          clear hK K
          try simp only [Act.put, List.setIfInBounds_toArray, List.set_cons_zero, List.set_cons_succ]
          clear b0 b1 b2
          refine wpAnyH_ready (rs := [4]) (by kernel_rfl) (by simp) ?_
          refine AllReadyH.cons (o := ?_) ?_ (fun K hK => ?_) AllReadyH.nil
          case refine_2 => (simp only [List.getElem?_toArray, List.getElem?_cons_succ, List.getElem?_cons_zero]; rfl)
          go_simp
          refine hK.out _ _ trivial (fun hHeld => ?_)
          clear hK K
          try simp only [Act.put, List.setIfInBounds_toArray, List.set_cons_zero, List.set_cons_succ]
          refine wpAnyH_ready (rs := [6]) (by kernel_rfl) (by simp) ?_
          refine AllReadyH.cons (o := ?_) ?_ (fun K hK => ?_) AllReadyH.nil
          case refine_2 => (simp only [List.getElem?_toArray, List.getElem?_cons_succ, List.getElem?_cons_zero]; rfl)
          have HC := Lib.hid (Of_c ((wd.alloc (.cells ZZ 5)).alloc (.cells #[.int .u8 97, .int .u8 98, .int .u8 99, .int .u8 100, .int .u8 (48 + (k : Int))] 5)) _ _ (akey k) aval (lit_at (wd.alloc (.cells ZZ 5)) #[.int .u8 97, .int .u8 98, .int .u8 99, .int .u8 100, .int .u8 (48 + (k : Int))] _ 5 (wd.heap.size + 1) (akey k) (by simp) (key_cb k hlt) rfl (by omega)) (((lit_at wd ZZ _ 31 wd.heap.size aval (by simp) HZ.out rfl (by omega))).later ((Only.refl _ (wd.alloc (.cells ZZ 5))).alloc (fun _ h => h) _)) (by show 5 ≤ _; omega) (by show (List.replicate 31 (0 : UInt8)).length ≤ _; simp))
          have HA1 : Hid (Alw w ((wd.alloc (.cells ZZ 5)).alloc (.cells #[.int .u8 97, .int .u8 98, .int .u8 99, .int .u8 100, .int .u8 (48 + (k : Int))] 5)) k A B n c m d) := Lib.hid (((((HAd.out).only ((Only.refl _ wd).alloc (fun _ h => h) _) : Alw w (wd.alloc (.cells ZZ 5)) k A B n c m d)).only ((Only.refl _ (wd.alloc (.cells ZZ 5))).alloc (fun _ h => h) _) : Alw w ((wd.alloc (.cells ZZ 5)).alloc (.cells #[.int .u8 97, .int .u8 98, .int .u8 99, .int .u8 100, .int .u8 (48 + (k : Int))] 5)) k A B n c m d))
          go_simp
          (go_at_call 23; (with_reducible refine (HC.out).mono ?_); rintro ee w2 ⟨K1, K2, rfl, hk1, hk2, ho⟩; (obtain ⟨P1, p1, rfl, hk1⟩ := hk1); (obtain ⟨P2, p2, rfl, hk2⟩ := hk2); have HN1 : Hid (New w2 _ (.slice P1 (akey k).length p1) (akey k)) := Lib.hid ⟨P1, p1, rfl, hk1⟩; have HN2 : Hid (New w2 _ (.slice P2 aval.length p2) aval) := Lib.hid ⟨P2, p2, rfl, hk2⟩; have HA2 := Lib.hid (HA1.out.only ho); clear hk1 hk2 ho HC)
          go_wp2_with (fail)
          refine hK.out _ _ trivial (fun hHeld => ?_)
          clear hK K
          try simp only [Act.put, List.setIfInBounds_toArray, List.set_cons_zero, List.set_cons_succ]
          refine wpAnyH_ready (rs := [7]) (by kernel_rfl) (by simp) ?_
          refine AllReadyH.cons (o := ?_) ?_ (fun K hK => ?_) AllReadyH.nil
          case refine_2 => (simp only [List.getElem?_toArray, List.getElem?_cons_succ, List.getElem?_cons_zero]; rfl)
          have HC := Lib.hid (With_n w2 (· = w.heap.size) true A B P1 P2 n c m d _ p1 _ p2 0 0 ⟨true, aits k, []⟩ (akey k) aval (fun k hk => hk ▸ HA2.out.1.lt) HA2.out.2.1 HN1.out.src HN2.out.src HKL.out (by show 5 ≤ _; omega) (by show (List.replicate 31 (0 : UInt8)).length ≤ _; simp))
          go_simp
          (go_at_call 19; (with_reducible refine (HC.out).mono ?_); rintro ee w3 ⟨i0, b0, hf, A3, n3, c3, B3, m3, d3, rfl, hs, ho⟩; (obtain ⟨hi0, hb0⟩ := found_next hlt hf); (rw [hi0, hb0] at hs); have HA3 : Hid (Blk w3 w.heap.size 34 [.bool true, .slice A n c, .slice B m d]) := Lib.hid (HA2.out.1.later ho); have HO3 := Lib.hid (on_new HA2.out.2.2 ho); have HS3 := Lib.hid hs; clear hs hf ho HC; (obtain ⟨b0, b1, b2⟩ := HA3.out.tri); (obtain ⟨f0, f1, f2⟩ := HA3.out.melt3))
          go_wp2_with (fail)
          refine hK.out _ _ trivial (fun hHeld => ?_)
          clear hK K
          try simp only [Act.put, List.setIfInBounds_toArray, List.set_cons_zero, List.set_cons_succ]
          refine wpAnyH_ready (rs := [8]) (by kernel_rfl) (by simp) ?_
          refine AllReadyH.cons (o := ?_) ?_ (fun K hK => ?_) AllReadyH.nil
          case refine_2 => (simp only [List.getElem?_toArray, List.getElem?_cons_succ, List.getElem?_cons_zero]; rfl)
          go_simp
          refine hK.out _ _ trivial (fun hHeld => ?_)
          clear hK K
          try simp only [Act.put, List.setIfInBounds_toArray, List.set_cons_zero, List.set_cons_succ]
          refine wpAnyH_done (by kernel_rfl) ?_ _
          obtain ⟨W4, hW4⟩ : ∃ W4, W4 = (((w3.setCell ⟨w.heap.size, 0, none⟩ (.bool true)).setCell ⟨w.heap.size, 1, none⟩ (.slice A3 n3 c3)).setCell ⟨w.heap.size, 2, none⟩ (.slice B3 m3 d3)) := ⟨_, rfl⟩
          have hB4 : Blk W4 w.heap.size 34 [.bool true, .slice A3 n3 c3, .slice B3 m3 d3] := by rw [hW4]; exact ((HA3.out.set_ 0 _).set_ 1 _).set_ 2 _
          have hO4 : Only (· = w.heap.size) w3 W4 := by rw [hW4]; exact (((Only.refl (· = w.heap.size) _).setCell (p := ⟨w.heap.size, 0, none⟩) rfl _).setCell (p := ⟨w.heap.size, 1, none⟩) rfl _).setCell (p := ⟨w.heap.size, 2, none⟩) rfl _
          have hS4 := HS3.out.step (hO4.mono fun _ h => .inl h) fun k hk => .inl hk
          rw [← hW4]
          have HX : Hid (Alw w W4 (k + 1) A3 B3 n3 c3 m3 d3) := Lib.hid ⟨hB4, by have e := with_next k; unfold ait at e; rw [e] at hS4; exact hS4, HO3.out.trans (hO4.mono fun j hj => by omega)⟩
          clear hW4 hB4 hO4 hS4 b0 b1 b2 f0 f1 f2 hw1 hw2
          go_wp2
          go_roundw
          case rel => exact ⟨k + 1, A3, B3, n3, c3, m3, d3, by omega, by go_num, HX⟩
          case measure => simp [intOf]; omega
        case refine_6 =>
          go_simp
          refine hK.out _ _ trivial (fun hHeld => ?_)
          clear hK K
          try simp only [Act.put, List.setIfInBounds_toArray, List.set_cons_zero, List.set_cons_succ]
          refine wpAnyH_ready (rs := [0, 6]) (by kernel_rfl) (by simp) ?_
          refine AllReadyH.cons (o := ?_) ?_ (fun K hK => ?_) (AllReadyH.cons (o := ?_) ?_ (fun K hK => ?_) AllReadyH.nil)
          case refine_2 => (simp only [List.getElem?_toArray, List.getElem?_cons_zero]; rfl)
          case refine_5 => (simp only [List.getElem?_toArray, List.getElem?_cons_succ, List.getElem?_cons_zero]; rfl)
          case refine_3 =>
            obtain ⟨b0, b1, b2⟩ := (((((HAd.out).only ((Only.refl _ wd).alloc (fun _ h => h) _) : Alw w (wd.alloc (.cells ZZ 5)) k A B n c m d)).only ((Only.refl _ (wd.alloc (.cells ZZ 5))).alloc (fun _ h => h) _) : Alw w ((wd.alloc (.cells ZZ 5)).alloc (.cells #[.int .u8 97, .int .u8 98, .int .u8 99, .int .u8 100, .int .u8 (48 + (k : Int))] 5)) k A B n c m d)).1.tri
            go_simp
            refine hK.out _ _ trivial (fun hHeld => ?_)
            clear hK K
            try simp only [Act.put, List.setIfInBounds_toArray, List.set_cons_zero, List.set_cons_succ]
            clear b0 b1 b2
            refine wpAnyH_ready (rs := [6]) (by kernel_rfl) (by simp) ?_
            refine AllReadyH.cons (o := ?_) ?_ (fun K hK => ?_) AllReadyH.nil
            case refine_2 => (simp only [List.getElem?_toArray, List.getElem?_cons_succ, List.getElem?_cons_zero]; rfl)
            have HC := Lib.hid (Of_c ((wd.alloc (.cells ZZ 5)).alloc (.cells #[.int .u8 97, .int .u8 98, .int .u8 99, .int .u8 100, .int .u8 (48 + (k : Int))] 5)) _ _ (akey k) aval (lit_at (wd.alloc (.cells ZZ 5)) #[.int .u8 97, .int .u8 98, .int .u8 99, .int .u8 100, .int .u8 (48 + (k : Int))] _ 5 (wd.heap.size + 1) (akey k) (by simp) (key_cb k hlt) rfl (by omega)) (((lit_at wd ZZ _ 31 wd.heap.size aval (by simp) HZ.out rfl (by omega))).later ((Only.refl _ (wd.alloc (.cells ZZ 5))).alloc (fun _ h => h) _)) (by show 5 ≤ _; omega) (by show (List.replicate 31 (0 : UInt8)).length ≤ _; simp))
            have HA1 : Hid (Alw w ((wd.alloc (.cells ZZ 5)).alloc (.cells #[.int .u8 97, .int .u8 98, .int .u8 99, .int .u8 100, .int .u8 (48 + (k : Int))] 5)) k A B n c m d) := Lib.hid (((((HAd.out).only ((Only.refl _ wd).alloc (fun _ h => h) _) : Alw w (wd.alloc (.cells ZZ 5)) k A B n c m d)).only ((Only.refl _ (wd.alloc (.cells ZZ 5))).alloc (fun _ h => h) _) : Alw w ((wd.alloc (.cells ZZ 5)).alloc (.cells #[.int .u8 97, .int .u8 98, .int .u8 99, .int .u8 100, .int .u8 (48 + (k : Int))] 5)) k A B n c m d))
            go_simp
            (go_at_call 23; (with_reducible refine (HC.out).mono ?_); rintro ee w2 ⟨K1, K2, rfl, hk1, hk2, ho⟩; (obtain ⟨P1, p1, rfl, hk1⟩ := hk1); (obtain ⟨P2, p2, rfl, hk2⟩ := hk2); have HN1 : Hid (New w2 _ (.slice P1 (akey k).length p1) (akey k)) := Lib.hid ⟨P1, p1, rfl, hk1⟩; have HN2 : Hid (New w2 _ (.slice P2 aval.length p2) aval) := Lib.hid ⟨P2, p2, rfl, hk2⟩; have HA2 := Lib.hid (HA1.out.only ho); clear hk1 hk2 ho HC)
            go_wp2_with (fail)
            refine hK.out _ _ trivial (fun hHeld => ?_)
            clear hK K
            try simp only [Act.put, List.setIfInBounds_toArray, List.set_cons_zero, List.set_cons_succ]
            refine wpAnyH_ready (rs := [7]) (by kernel_rfl) (by simp) ?_
            refine AllReadyH.cons (o := ?_) ?_ (fun K hK => ?_) AllReadyH.nil
            case refine_2 => (simp only [List.getElem?_toArray, List.getElem?_cons_succ, List.getElem?_cons_zero]; rfl)
            have HC := Lib.hid (With_n w2 (· = w.heap.size) true A B P1 P2 n c m d _ p1 _ p2 0 0 ⟨true, aits k, []⟩ (akey k) aval (fun k hk => hk ▸ HA2.out.1.lt) HA2.out.2.1 HN1.out.src HN2.out.src HKL.out (by show 5 ≤ _; omega) (by show (List.replicate 31 (0 : UInt8)).length ≤ _; simp))
            go_simp
            (go_at_call 19; (with_reducible refine (HC.out).mono ?_); rintro ee w3 ⟨i0, b0, hf, A3, n3, c3, B3, m3, d3, rfl, hs, ho⟩; (obtain ⟨hi0, hb0⟩ := found_next hlt hf); (rw [hi0, hb0] at hs); have HA3 : Hid (Blk w3 w.heap.size 34 [.bool true, .slice A n c, .slice B m d]) := Lib.hid (HA2.out.1.later ho); have HO3 := Lib.hid (on_new HA2.out.2.2 ho); have HS3 := Lib.hid hs; clear hs hf ho HC; (obtain ⟨b0, b1, b2⟩ := HA3.out.tri); (obtain ⟨f0, f1, f2⟩ := HA3.out.melt3))
            go_wp2_with (fail)
            refine hK.out _ _ trivial (fun hHeld => ?_)
            clear hK K
            try simp only [Act.put, List.setIfInBounds_toArray, List.set_cons_zero, List.set_cons_succ]
            refine wpAnyH_ready (rs := [8]) (by kernel_rfl) (by simp) ?_
            refine AllReadyH.cons (o := ?_) ?_ (fun K hK => ?_) AllReadyH.nil
            case refine_2 => (simp only [List.getElem?_toArray, List.getElem?_cons_succ, List.getElem?_cons_zero]; rfl)
            go_simp
            refine hK.out _ _ trivial (fun hHeld => ?_)
            clear hK K
            try simp only [Act.put, List.setIfInBounds_toArray, List.set_cons_zero, List.set_cons_succ]
            refine wpAnyH_done (by kernel_rfl) ?_ _
            obtain ⟨W4, hW4⟩ : ∃ W4, W4 = (((w3.setCell ⟨w.heap.size, 0, none⟩ (.bool true)).setCell ⟨w.heap.size, 1, none⟩ (.slice A3 n3 c3)).setCell ⟨w.heap.size, 2, none⟩ (.slice B3 m3 d3)) := ⟨_, rfl⟩
            have hB4 : Blk W4 w.heap.size 34 [.bool true, .slice A3 n3 c3, .slice B3 m3 d3] := by rw [hW4]; exact ((HA3.out.set_ 0 _).set_ 1 _).set_ 2 _
            have hO4 : Only (· = w.heap.size) w3 W4 := by rw [hW4]; exact (((Only.refl (· = w.heap.size) _).setCell (p := ⟨w.heap.size, 0, none⟩) rfl _).setCell (p := ⟨w.heap.size, 1, none⟩) rfl _).setCell (p := ⟨w.heap.size, 2, none⟩) rfl _
            have hS4 := HS3.out.step (hO4.mono fun _ h => .inl h) fun k hk => .inl hk
            rw [← hW4]
            have HX : Hid (Alw w W4 (k + 1) A3 B3 n3 c3 m3 d3) := Lib.hid ⟨hB4, by have e := with_next k; unfold ait at e; rw [e] at hS4; exact hS4, HO3.out.trans (hO4.mono fun j hj => by omega)⟩
            clear hW4 hB4 hO4 hS4 b0 b1 b2 f0 f1 f2 hw1 hw2
            go_wp2
            go_roundw
            case rel => exact ⟨k + 1, A3, B3, n3, c3, m3, d3, by omega, by go_num, HX⟩
            case measure => simp [intOf]; omega
          case refine_6 =>
            have HC := Lib.hid (Of_c ((wd.alloc (.cells ZZ 5)).alloc (.cells #[.int .u8 97, .int .u8 98, .int .u8 99, .int .u8 100, .int .u8 (48 + (k : Int))] 5)) _ _ (akey k) aval (lit_at (wd.alloc (.cells ZZ 5)) #[.int .u8 97, .int .u8 98, .int .u8 99, .int .u8 100, .int .u8 (48 + (k : Int))] _ 5 (wd.heap.size + 1) (akey k) (by simp) (key_cb k hlt) rfl (by omega)) (((lit_at wd ZZ _ 31 wd.heap.size aval (by simp) HZ.out rfl (by omega))).later ((Only.refl _ (wd.alloc (.cells ZZ 5))).alloc (fun _ h => h) _)) (by show 5 ≤ _; omega) (by show (List.replicate 31 (0 : UInt8)).length ≤ _; simp))
            have HA1 : Hid (Alw w ((wd.alloc (.cells ZZ 5)).alloc (.cells #[.int .u8 97, .int .u8 98, .int .u8 99, .int .u8 100, .int .u8 (48 + (k : Int))] 5)) k A B n c m d) := Lib.hid (((((HAd.out).only ((Only.refl _ wd).alloc (fun _ h => h) _) : Alw w (wd.alloc (.cells ZZ 5)) k A B n c m d)).only ((Only.refl _ (wd.alloc (.cells ZZ 5))).alloc (fun _ h => h) _) : Alw w ((wd.alloc (.cells ZZ 5)).alloc (.cells #[.int .u8 97, .int .u8 98, .int .u8 99, .int .u8 100, .int .u8 (48 + (k : Int))] 5)) k A B n c m d))
            go_simp
            (go_at_call 23; (with_reducible refine (HC.out).mono ?_); rintro ee w2 ⟨K1, K2, rfl, hk1, hk2, ho⟩; (obtain ⟨P1, p1, rfl, hk1⟩ := hk1); (obtain ⟨P2, p2, rfl, hk2⟩ := hk2); have HN1 : Hid (New w2 _ (.slice P1 (akey k).length p1) (akey k)) := Lib.hid ⟨P1, p1, rfl, hk1⟩; have HN2 : Hid (New w2 _ (.slice P2 aval.length p2) aval) := Lib.hid ⟨P2, p2, rfl, hk2⟩; have HA2 := Lib.hid (HA1.out.only ho); clear hk1 hk2 ho HC)
            go_wp2_with (fail)
            refine hK.out _ _ trivial (fun hHeld => ?_)
            clear hK K
            try simp only [Act.put, List.setIfInBounds_toArray, List.set_cons_zero, List.set_cons_succ]
            refine wpAnyH_ready (rs := [0]) (by kernel_rfl) (by simp) ?_
            refine AllReadyH.cons (o := ?_) ?_ (fun K hK => ?_) AllReadyH.nil
            case refine_2 => (simp only [List.getElem?_toArray, List.getElem?_cons_zero]; rfl)
            obtain ⟨b0, b1, b2⟩ := (HA2.out).1.tri
            go_simp
            refine hK.out _ _ trivial (fun hHeld => ?_)
            clear hK K
            try simp only [Act.put, List.setIfInBounds_toArray, List.set_cons_zero, List.set_cons_succ]
            clear b0 b1 b2
            refine wpAnyH_ready (rs := [7]) (by kernel_rfl) (by simp) ?_
            refine AllReadyH.cons (o := ?_) ?_ (fun K hK => ?_) AllReadyH.nil
            case refine_2 => (simp only [List.getElem?_toArray, List.getElem?_cons_succ, List.getElem?_cons_zero]; rfl)
            have HC := Lib.hid (With_n w2 (· = w.heap.size) true A B P1 P2 n c m d _ p1 _ p2 0 0 ⟨true, aits k, []⟩ (akey k) aval (fun k hk => hk ▸ HA2.out.1.lt) HA2.out.2.1 HN1.out.src HN2.out.src HKL.out (by show 5 ≤ _; omega) (by show (List.replicate 31 (0 : UInt8)).length ≤ _; simp))
            go_simp
            (go_at_call 19; (with_reducible refine (HC.out).mono ?_); rintro ee w3 ⟨i0, b0, hf, A3, n3, c3, B3, m3, d3, rfl, hs, ho⟩; (obtain ⟨hi0, hb0⟩ := found_next hlt hf); (rw [hi0, hb0] at hs); have HA3 : Hid (Blk w3 w.heap.size 34 [.bool true, .slice A n c, .slice B m d]) := Lib.hid (HA2.out.1.later ho); have HO3 := Lib.hid (on_new HA2.out.2.2 ho); have HS3 := Lib.hid hs; clear hs hf ho HC; (obtain ⟨b0, b1, b2⟩ := HA3.out.tri); (obtain ⟨f0, f1, f2⟩ := HA3.out.melt3))
            go_wp2_with (fail)
            refine hK.out _ _ trivial (fun hHeld => ?_)
            clear hK K
            try simp only [Act.put, List.setIfInBounds_toArray, List.set_cons_zero, List.set_cons_succ]
            refine wpAnyH_ready (rs := [8]) (by kernel_rfl) (by simp) ?_
            refine AllReadyH.cons (o := ?_) ?_ (fun K hK => ?_) AllReadyH.nil
            case refine_2 => (simp only [List.getElem?_toArray, List.getElem?_cons_succ, List.getElem?_cons_zero]; rfl)
            go_simp
            refine hK.out _ _ trivial (fun hHeld => ?_)
            clear hK K
            try simp only [Act.put, List.setIfInBounds_toArray, List.set_cons_zero, List.set_cons_succ]
            refine wpAnyH_done (by kernel_rfl) ?_ _
            obtain ⟨W4, hW4⟩ : ∃ W4, W4 = (((w3.setCell ⟨w.heap.size, 0, none⟩ (.bool true)).setCell ⟨w.heap.size, 1, none⟩ (.slice A3 n3 c3)).setCell ⟨w.heap.size, 2, none⟩ (.slice B3 m3 d3)) := ⟨_, rfl⟩
            have hB4 : Blk W4 w.heap.size 34 [.bool true, .slice A3 n3 c3, .slice B3 m3 d3] := by rw [hW4]; exact ((HA3.out.set_ 0 _).set_ 1 _).set_ 2 _
            have hO4 : Only (· = w.heap.size) w3 W4 := by rw [hW4]; exact (((Only.refl (· = w.heap.size) _).setCell (p := ⟨w.heap.size, 0, none⟩) rfl _).setCell (p := ⟨w.heap.size, 1, none⟩) rfl _).setCell (p := ⟨w.heap.size, 2, none⟩) rfl _
            have hS4 := HS3.out.step (hO4.mono fun _ h => .inl h) fun k hk => .inl hk
            rw [← hW4]
            have HX : Hid (Alw w W4 (k + 1) A3 B3 n3 c3 m3 d3) := Lib.hid ⟨hB4, by have e := with_next k; unfold ait at e; rw [e] at hS4; exact hS4, HO3.out.trans (hO4.mono fun j hj => by omega)⟩
            clear hW4 hB4 hO4 hS4 b0 b1 b2 f0 f1 f2 hw1 hw2
            go_wp2
            go_roundw
            case rel => exact ⟨k + 1, A3, B3, n3, c3, m3, d3, by omega, by go_num, HX⟩
            case measure => simp [intOf]; omega
    · obtain rfl : k = 7 := by omega
      have HX : Hid (Alx w wr A B n c m d) := Lib.hid ⟨HA.out.1, HA.out.2.1.nod.now, HG.out.later HA.out.2.2, HA.out.2.2⟩
      clear HA HZ hmk ZZ
      obtain ⟨b0, b1, b2⟩ := HX.out.1.tri
      go_upto_region 8 with ((go_at_call 9; (with_reducible refine (Parts_n wr true A B n c m d alf 1 HX.out.nod HX.out.gens alf_small).mono ?_); rintro ee w1 ⟨PA, pn, pc, l, rfl, hcu, hpt, ho⟩; (obtain rfl := alf_cuts hcu); have HX1 := Lib.hid (HX.out.only ho); have HP := Lib.hid hpt; clear hpt ho hcu))
      clear b0 b1 b2 HX
      obtain ⟨b0, b1, b2⟩ := HX1.out.1.tri
      have HK1 := Lib.hid (lit_src w1 #[.int .u8 97, .int .u8 98, .int .u8 99, .int .u8 100, .int .u8 51] (5, 6) 5 (akey 3) rfl rfl (by omega))
      have HO1 : Hid (Only (w1.heap.size ≤ ·) w1 (w1.alloc (.cells #[.int .u8 97, .int .u8 98, .int .u8 99, .int .u8 100, .int .u8 51] 5 (5, 6)))) := Lib.hid ((Only.refl _ w1).alloc (fun _ h => h) _)
      go_upto_region 9 with (go_at_call 24; (with_reducible refine (Find_n _ true A B n c m d _ alf (akey 3) (HX1.out.only HO1.out).nod HK1.out (by have := HX1.out.n7; omega)).mono ?_); rintro ee w2 ⟨fi, fb, rfl, hf, ho⟩; (obtain ⟨rfl, rfl⟩ := found_three hf); have HX2 := Lib.hid ((HX1.out.only HO1.out).only ho); have HP2 := Lib.hid ((HP.out.later HO1.out).later ho); clear hf ho)
      clear b0 b1 b2 HX1 HP HK1 HO1
      obtain ⟨b0, b1, b2⟩ := HX2.out.1.tri
      have hfy : ∀ i b, Found alf.its (akey 3) i b → b = true := fun i b h => (found_three h).2
      have HK1 := Lib.hid (lit_src w2 #[.int .u8 97, .int .u8 98, .int .u8 99, .int .u8 100, .int .u8 51] (5, 6) 5 (akey 3) rfl rfl (by omega))
      have HO1 : Hid (Only (w2.heap.size ≤ ·) w2 (w2.alloc (.cells #[.int .u8 97, .int .u8 98, .int .u8 99, .int .u8 100, .int .u8 51] 5 (5, 6)))) := Lib.hid ((Only.refl _ w2).alloc (fun _ h => h) _)
      go_upto_region 10 with (go_at_call 25; (with_reducible refine (Without_yes _ true A B n c m d _ alf (akey 3) (HX2.out.only HO1.out).nod HK1.out (by have := HX2.out.n7; omega) hfy).mono ?_); rintro ee w3 ⟨fi, MA, mn, mc, rfl, hf, hit, ho⟩; (obtain ⟨rfl, _⟩ := found_three hf); have HM : Hid (mn = 6) := Lib.hid (by have h := hit.len; simpa [alf, aits] using h); have HX3 := Lib.hid ((HX2.out.only HO1.out).only ho); have HP3 := Lib.hid ((HP2.out.later HO1.out).later ho); clear hf ho hit)
      clear b0 b1 b2 HX2 HP2 HK1 HO1 hfy
      obtain ⟨wm, hwm⟩ : ∃ wm, wm = w3.alloc (.cells #[.bool true, .slice MA mn mc, .slice none 0 0] 34) := ⟨_, rfl⟩
      have HM3 : Hid (Blk wm w3.heap.size 34 [.bool true, .slice MA mn mc, .slice none 0 0]) := Lib.hid (by rw [hwm]; exact Blk.new w3 34 _)
      have HX4 : Hid (Alx w wm A B n c m d) := Lib.hid (by rw [hwm]; exact HX3.out.only ((Only.refl _ w3).alloc (fun _ h => h) _))
      have HP4 : Hid (Pts wm (.slice PA pn pc) alps) := Lib.hid (by rw [hwm]; exact HP3.out.later ((Only.refl _ w3).alloc (fun _ h => h) _))
      rw [← hwm]
      clear hwm HX3 HP3
      go_upto_region 11 with (fail)
      obtain ⟨wb, hwb⟩ : ∃ wb, wb = ((wm.alloc (.cells #[.int .u8 109] 5 (1, 2))).alloc (.cells #[.slice none 0 0, .int .i64 2, .slice (some ⟨wm.heap.size, 0, none⟩) 1 1, .int .i64 3] 58)).alloc (.cells #[.bool false, .slice none 0 0, .slice (some ⟨wm.heap.size + 1, 0, none⟩) 2 2] 34) := ⟨_, rfl⟩
      have HAB := Lib.hid (abr_nod wm wb hwb)
      have HX5 := Lib.hid (HX4.out.only HAB.out.2.2)
      have HP5 := Lib.hid (HP4.out.later HAB.out.2.2)
      have HM5 := Lib.hid (HM3.out.later HAB.out.2.2)
      rw [← hwb]
      clear hwb HX4 HP4 HM3
      obtain ⟨d0, d1, d2⟩ := HAB.out.1.tri
      have HSW : Hid (Calls Tryd.prog 20 #[.agg #[.bool false, .slice none 0 0, .slice (some ⟨wm.heap.size + 1, 0, none⟩) 2 2], .int .i64 1, .int .i64 1, .slice (some ⟨wb.heap.size + 1, 0, none⟩) 1 1] ((wb.alloc (.cells #[.int .u8 110] 5 (1, 2))).alloc (.cells #[.slice (some ⟨wb.heap.size, 0, none⟩) 1 1, .int .i64 4] 58)) (GaveN ((wb.alloc (.cells #[.int .u8 110] 5 (1, 2))).alloc (.cells #[.slice (some ⟨wb.heap.size, 0, none⟩) 1 1, .int .i64 4] 58)) swd)) := Lib.hid (by
        have o1 : Only (wb.heap.size ≤ ·) wb (wb.alloc (.cells #[.int .u8 110] 5 (1, 2))) := (Only.refl _ wb).alloc (fun _ h => h) _
        have s1 := lit_src wb #[.int .u8 110] (1, 2) 1 [110] rfl rfl (by omega)
        have hz : (wb.alloc (.cells #[.int .u8 110] 5 (1, 2))).heap.size = wb.heap.size + 1 := by simp
        have b2 := Blk.new (wb.alloc (.cells #[.int .u8 110] 5 (1, 2))) 58 [.slice (some ⟨wb.heap.size, 0, none⟩) 1 1, .int .i64 4]
        rw [hz] at b2
        have o2 : Only ((wb.alloc (.cells #[.int .u8 110] 5 (1, 2))).heap.size ≤ ·) (wb.alloc (.cells #[.int .u8 110] 5 (1, 2))) ((wb.alloc (.cells #[.int .u8 110] 5 (1, 2))).alloc (.cells #[.slice (some ⟨wb.heap.size, 0, none⟩) 1 1, .int .i64 4] 58)) := (Only.refl _ _).alloc (fun _ h => h) _
        exact Swap_one _ false none (some ⟨wm.heap.size + 1, 0, none⟩) (some ⟨wb.heap.size, 0, none⟩) (some ⟨wb.heap.size + 1, 0, none⟩) 0 0 2 2 1 1 1 1 1 4 abr [110] (wb.heap.size + 1) 0 rfl ((HAB.out.2.1.later o1).later o2) (b2.cell 0) (b2.cell 1) b2.lt (s1.later o2) rfl (by omega) (by omega) (by show 1 ≤ _; omega))
      have HOW : Hid (Only (wb.heap.size ≤ ·) wb ((wb.alloc (.cells #[.int .u8 110] 5 (1, 2))).alloc (.cells #[.slice (some ⟨wb.heap.size, 0, none⟩) 1 1, .int .i64 4] 58))) := Lib.hid (((Only.refl _ wb).alloc (fun _ h => h) _).alloc (fun _ h => h) _)
      go_upto_region 12 with (go_at_call 20; (with_reducible refine HSW.out.mono ?_); rintro ee w5 ⟨SA, sn, sc, SB, sm, sd, rfl, hn, ho⟩; have HSN := Lib.hid hn; (replace HOW := Lib.hid (on_new HOW.out ho)); clear hn ho)
      obtain ⟨ws, hws⟩ : ∃ ws, ws = w5.alloc (.cells #[.bool false, .slice SA sn sc, .slice SB sm sd] 34) := ⟨_, rfl⟩
      have hWs : ws = w5.alloc (.cells #[.bool swd.leaf, .slice SA sn sc, .slice SB sm sd] 34) := hws
      have hB5 : Blk ws w5.heap.size 34 [.bool false, .slice SA sn sc, .slice SB sm sd] := by rw [hws]; exact Blk.new w5 34 _
      have ho5 : Only (w5.heap.size ≤ ·) w5 ws := by rw [hws]; exact (Only.refl _ w5).alloc (fun _ h => h) _
      have hos : Only (wb.heap.size ≤ ·) wb ws := on_new HOW.out ho5
      rw [← hWs]
      clear hws hWs
      have HXs := Lib.hid (HX5.out.only hos)
      have HPs := Lib.hid (HP5.out.later hos)
      have HMs := Lib.hid (HM5.out.later hos)
      have HBs := Lib.hid (HAB.out.1.later hos)
      have HNb := Lib.hid (HAB.out.2.1.later hos)
      have HSs := Lib.hid (HSN.out.later ho5)
      have HBS := Lib.hid hB5
      clear hB5 ho5 hos d0 d1 d2 HX5 HP5 HM5 HAB HSN HOW HSW kc
      obtain rfl : pn = 2 := HPs.out.len
      obtain rfl : mn = 6 := HM.out
      obtain rfl : sm = 2 := HSs.out.2.2.len
      obtain ⟨pb, po, x0, P0, Q0, R0, p0, q0, r0, rfl, hpb, hx0, c0, c1, c2, c3, s0, n0⟩ := pts_at HPs.out (k := 0) (by omega)
      obtain ⟨pb', po', x1, P1, Q1, R1, p1, q1, r1, epp, _, hx1, a0, a1, a2, a3, s1, n1⟩ := pts_at HPs.out (k := 1) (by omega)
      cases epp
      cases hx0
      cases hx1
      obtain ⟨sb, so, x2, P2, p2, rfl, hsb, hx2, _, ck, _⟩ := kds_at HSs.out.2.2 (k := 1) (by omega)
      cases hx2
      have hl4 : (⟨true, aits 4, []⟩ : Nd).its.length = 4 := by decide
      have hl3 : (⟨true, (aits 7).drop 4, []⟩ : Nd).its.length = 3 := by decide
      have KP : Hid (∀ W, Only (ws.heap.size ≤ ·) ws W →
          W.cell? ⟨w.heap.size, 0, none⟩ = some (.bool true) ∧ W.cell? ⟨w.heap.size, 1, none⟩ = some (.slice A n c) ∧ W.cell? ⟨w.heap.size, 2, none⟩ = some (.slice B m d) ∧ W.cell? ⟨w3.heap.size, 1, none⟩ = some (.slice MA 6 mc) ∧
          W.cell? ⟨wm.heap.size + 1 + 1, 0, none⟩ = some (.bool false) ∧ W.cell? ⟨wm.heap.size + 1 + 1, 1, none⟩ = some (.slice none 0 0) ∧ W.cell? ⟨wm.heap.size + 1 + 1, 2, none⟩ = some (.slice (some ⟨wm.heap.size + 1, 0, none⟩) 2 2) ∧
          W.cell? ⟨w5.heap.size, 2, none⟩ = some (.slice (some ⟨sb, so, none⟩) 2 sd) ∧ W.cell? ⟨sb, so + 3, none⟩ = some (.int .i64 4) ∧
          W.cell? ⟨pb, po, none⟩ = some (.slice P0 0 p0) ∧ W.cell? ⟨pb, po + 1, none⟩ = some (.bool true) ∧ W.cell? ⟨pb, po + 2, none⟩ = some (.slice Q0 4 q0) ∧ W.cell? ⟨pb, po + 3, none⟩ = some (.slice R0 0 r0) ∧
          W.cell? ⟨pb, po + 4, none⟩ = some (.slice P1 5 p1) ∧ W.cell? ⟨pb, po + 5, none⟩ = some (.bool true) ∧ W.cell? ⟨pb, po + 6, none⟩ = some (.slice Q1 3 q1) ∧ W.cell? ⟨pb, po + 7, none⟩ = some (.slice R1 0 r1) ∧ (convert 27 9 (.slice P1 5 p1)).run Tryd.prog W = .ok (.string ⟨#[97, 98, 99, 100, 52]⟩) W) := Lib.hid fun W hW => by
        have g : ∀ b j u, b < ws.heap.size → ws.cell? ⟨b, j, none⟩ = some u → W.cell? ⟨b, j, none⟩ = some u := fun b j u hb hu => (hW.cell (p := ⟨b, j, none⟩) (Nat.not_le.2 hb)).trans hu
        obtain ⟨b0, b1, b2⟩ := (HXs.out.1.later hW).tri
        obtain ⟨m0, m1, m2⟩ := (HMs.out.later hW).tri
        obtain ⟨e0, e1, e2⟩ := (HBs.out.later hW).tri
        obtain ⟨t0, t1, t2⟩ := (HBS.out.later hW).tri
        exact ⟨b0, b1, b2, m1, e0, e1, e2, t2, g _ _ _ hsb ck, g _ _ _ hpb c0, g _ _ _ hpb c1, g _ _ _ hpb c2, g _ _ _ hpb c3, g _ _ _ hpb a0, g _ _ _ hpb a1, g _ _ _ hpb a2, g _ _ _ hpb a3, by
          obtain ⟨_, _, e, ht, _⟩ := s1.later hW
          cases e
          exact convert_txt W P1 5 p1 (akey 4) ht⟩
      have HN0 : Hid (Nod ws ⟨true, aits 4, []⟩ true (.slice Q0 4 q0) (.slice R0 0 r0)) := Lib.hid n0
      have HN1 : Hid (Nod ws ⟨true, (aits 7).drop 4, []⟩ true (.slice Q1 3 q1) (.slice R1 0 r1)) := Lib.hid n1
      have HS1 : Hid (Src ws (.slice P1 5 p1) (akey 4)) := Lib.hid s1
      have HOZ : Hid (Only (ws.heap.size ≤ ·) ws ws) := Lib.hid (Only.refl _ ws)
      clear ck c0 c1 c2 c3 a0 a1 a2 a3 s0 s1 n0 n1 hpb hsb HPs HMs HBs HSs HBS HM hl4 hl3
      have HCS : Hid (∀ W, Only (ws.heap.size ≤ ·) ws W → Calls Tryd.prog 26 #[.agg #[.bool false, .slice none 0 0, .slice (some ⟨wm.heap.size + 1, 0, none⟩) 2 2], .slice (some ⟨W.heap.size, 0, none⟩) 1 1] (W.alloc (.cells #[.int .u8 122] 5 (1, 2))) (Told (W.alloc (.cells #[.int .u8 122] 5 (1, 2))) (.int .i64 1))) := Lib.hid fun W hW => Side_last _ _ _ _ _ _ _ _ _ [122] ([109], 3) 1 ((HNb.out.later hW).later ((Only.refl _ W).alloc (fun _ h => h) _)) (lit_src W #[.int .u8 122] (1, 2) 1 [122] rfl rfl (by omega)) rfl (by omega) rfl (by decide)
      have HCR : Hid (∀ W, Only (ws.heap.size ≤ ·) ws W → Calls Tryd.prog 27 #[.int .i64 2, .agg #[.bool false, .slice none 0 0, .slice (some ⟨wm.heap.size + 1, 0, none⟩) 2 2]] W (Told W (.bool true))) := Lib.hid fun W hW => Right_yes _ _ _ _ _ _ _ _ 2 (HNb.out.later hW) (HXs.out.gens.later hW) abr_small (by decide) rfl (by decide) abr_ok abr_rise abr_fit
      have HCM : Hid (∀ W, Only (ws.heap.size ≤ ·) ws W → Calls Tryd.prog 28 #[.int .i64 1, .agg #[.bool true, .slice A n c, .slice B m d]] W (Told W (.int .i64 280))) := Lib.hid fun W hW => by
        have := Room_n _ _ _ _ _ _ _ _ 1 true (HXs.out.nod.later hW) (HXs.out.gens.later hW) alf_small
        rwa [alf_room] at this
      have HCF : Hid (∀ W, Only (ws.heap.size ≤ ·) ws W → Calls Tryd.prog 14 #[.int .i64 1, .agg #[.bool true, .slice A n c, .slice B m d]] W (Told W (.bool false))) := Lib.hid fun W hW => Fits_n _ _ _ _ _ _ _ _ 1 true false alf_fit (HXs.out.nod.later hW) (HXs.out.gens.later hW) alf_small
      have HCL : Hid (∀ W, Only (ws.heap.size ≤ ·) ws W → Calls Tryd.prog 29 #[.int .i64 1, .agg #[.bool false, .slice none 0 0, .slice (some ⟨wm.heap.size + 1, 0, none⟩) 2 2]] W (Told W (.bool true))) := Lib.hid fun W hW => Low_n _ _ _ _ _ _ _ _ 1 false true abr_low (HNb.out.later hW) (HXs.out.gens.later hW) abr_small
      have HCJ : Hid (∀ W, Only (ws.heap.size ≤ ·) ws W → Calls Tryd.prog 15 #[.agg #[.bool true, .slice Q0 4 q0, .slice R0 0 r0], .agg #[.bool true, .slice Q1 3 q1, .slice R1 0 r1], .slice P1 5 p1] W (GaveN W alf)) := Lib.hid fun W hW => by
        have := Join_n W true true Q0 R0 Q1 R1 4 q0 0 r0 3 q1 0 r1 (.slice P1 5 p1) _ _ (akey 4) (HN0.out.later hW) (HN1.out.later hW) (by omega) (by omega) (by omega) (by omega) (HS1.out.later hW) (by show 5 ≤ _; omega)
        rwa [alf_join] at this
      have HCE : Hid (∀ W JA jn jc JB jm jd, Only (ws.heap.size ≤ ·) ws W → Nod W alf alf.leaf (.slice JA jn jc) (.slice JB jm jd) → Calls Tryd.prog 16 #[.agg #[.bool alf.leaf, .slice JA jn jc, .slice JB jm jd], .agg #[.bool true, .slice A n c, .slice B m d]] W (Told W (.bool true))) := Lib.hid fun W JA jn jc JB jm jd hW hj => by
        have e1 : jn = n := hj.2.1.len.trans HXs.out.n7.symm
        have e2 : jm = m := hj.2.2.len.trans HXs.out.m0.symm
        subst e1 e2
        exact NSame_eq W true JA JB A B jn jc jm jd c d alf hj (HXs.out.nod.later hW) (by have := HXs.out.n7; omega) (by have := HXs.out.m0; omega)
      have kc1 := fun (W : World) => Lib.run_convert_bytes_const (P := Tryd.prog) W 27 5 #[.int .u8 122] 1 1 Tryd.underlying27 Tryd.underlying5
      refine wp_region_norm (L := ?_) ?_ ?_
      case refine_2 => (simp only [List.append_eq, List.cons_append, List.nil_append]; rfl)
      refine wp_region_list (B := [false, false, false, false, false, false, false, false, false, false, false, false, false, false, false, false, false, false, false, false, false, false, false, false, false, false, false, false, false, false, false, false, false, false, false, false, false, false, false, false, false, false, false, false, false, false, false, false, false, false, false, false, false, false, false, false, false, false, false, false, false, false, false, false, false, false, false, false, false, false, false, false, false, false, false, false, false, false, false, false, false, false, false, false, false, false, false, false, false, false, false, false, false, false, false, false, false, false, false, false, false, false]) (S := (fun W => W.cell? ⟨w.heap.size, 0, none⟩ = some (.bool true) ∧ W.cell? ⟨w.heap.size, 1, none⟩ = some (.slice A n c) ∧ W.cell? ⟨w.heap.size, 2, none⟩ = some (.slice B m d) ∧ W.cell? ⟨w3.heap.size, 1, none⟩ = some (.slice MA 6 mc) ∧
          W.cell? ⟨wm.heap.size + 1 + 1, 0, none⟩ = some (.bool false) ∧ W.cell? ⟨wm.heap.size + 1 + 1, 1, none⟩ = some (.slice none 0 0) ∧ W.cell? ⟨wm.heap.size + 1 + 1, 2, none⟩ = some (.slice (some ⟨wm.heap.size + 1, 0, none⟩) 2 2) ∧
          W.cell? ⟨w5.heap.size, 2, none⟩ = some (.slice (some ⟨sb, so, none⟩) 2 sd) ∧ W.cell? ⟨sb, so + 3, none⟩ = some (.int .i64 4) ∧
          W.cell? ⟨pb, po, none⟩ = some (.slice P0 0 p0) ∧ W.cell? ⟨pb, po + 1, none⟩ = some (.bool true) ∧ W.cell? ⟨pb, po + 2, none⟩ = some (.slice Q0 4 q0) ∧ W.cell? ⟨pb, po + 3, none⟩ = some (.slice R0 0 r0) ∧
          W.cell? ⟨pb, po + 4, none⟩ = some (.slice P1 5 p1) ∧ W.cell? ⟨pb, po + 5, none⟩ = some (.bool true) ∧ W.cell? ⟨pb, po + 6, none⟩ = some (.slice Q1 3 q1) ∧ W.cell? ⟨pb, po + 7, none⟩ = some (.slice R1 0 r1) ∧ (convert 27 9 (.slice P1 5 p1)).run Tryd.prog W = .ok (.string ⟨#[97, 98, 99, 100, 52]⟩) W)) (by kernel_rfl) (by kernel_rfl) (by kernel_rfl) (KP.out _ HOZ.out.drew) (fun hsel hHeld => ?_)
      have hox : Only (ws.heap.size ≤ ·) ws ws.drew := (Only.refl _ ws).drew
      obtain ⟨wx, hwx⟩ : ∃ wx, wx = ws.drew := ⟨_, rfl⟩
      rw [← hwx] at hox hHeld
      rw [← hwx]
      replace HOZ := Lib.hid hox
      clear hwx hox
      refine take_oneL (i := 0) (d := 51) (oi := ?_) (v := ?_) ?_ hsel (by kernel_rfl) (by kernel_rfl) (fun _ _ _ h => h) ?_ ?_ ?_ (by assumption) ?_
      case refine_3 => (simp only [List.getElem?_cons_zero]; rfl)
      case refine_4 => rfl
      case refine_5 => rfl
      case refine_6 => (intro w' hSw; (try dsimp only at hSw); go_simp; (try with_reducible rfl))
      simp only [Act.put, List.setIfInBounds_toArray, List.set_cons_zero, List.set_cons_succ]
      refine take_oneL (i := 1) (d := 52) (oi := ?_) (v := ?_) ?_ hsel (by kernel_rfl) (by kernel_rfl) (fun _ _ _ h => h) ?_ ?_ ?_ (by assumption) ?_
      case refine_3 => (simp only [List.getElem?_cons_succ, List.getElem?_cons_zero]; rfl)
      case refine_4 => rfl
      case refine_5 => rfl
      case refine_6 => (intro w' hSw; (try dsimp only at hSw); go_simp; (try with_reducible rfl))
      simp only [Act.put, List.setIfInBounds_toArray, List.set_cons_zero, List.set_cons_succ]
      refine take_oneL (i := 2) (d := 53) (oi := ?_) (v := ?_) ?_ hsel (by kernel_rfl) (by kernel_rfl) (fun _ _ _ h => h) ?_ ?_ ?_ (by assumption) ?_
      case refine_3 => (simp only [List.getElem?_cons_succ, List.getElem?_cons_zero]; rfl)
      case refine_4 => rfl
      case refine_5 => rfl
      case refine_6 => (intro w' hSw; (try dsimp only at hSw); go_simp; (try with_reducible rfl))
      simp only [Act.put, List.setIfInBounds_toArray, List.set_cons_zero, List.set_cons_succ]
      refine take_oneL (i := 3) (d := 54) (oi := ?_) (v := ?_) ?_ hsel (by kernel_rfl) (by kernel_rfl) (fun _ _ _ h => h) ?_ ?_ ?_ (by assumption) ?_
      case refine_3 => (simp only [List.getElem?_cons_succ, List.getElem?_cons_zero]; rfl)
      case refine_4 => rfl
      case refine_5 => rfl
      case refine_6 => (intro w' hSw; (try dsimp only at hSw); go_simp; (try with_reducible rfl))
      simp only [Act.put, List.setIfInBounds_toArray, List.set_cons_zero, List.set_cons_succ]
      refine take_oneL (i := 4) (d := 55) (oi := ?_) (v := ?_) ?_ hsel (by kernel_rfl) (by kernel_rfl) (fun _ _ _ h => h) ?_ ?_ ?_ (by assumption) ?_
      case refine_3 => (simp only [List.getElem?_cons_succ, List.getElem?_cons_zero]; rfl)
      case refine_4 => rfl
      case refine_5 => rfl
      case refine_6 => (intro w' hSw; (try dsimp only at hSw); go_simp; (try with_reducible rfl))
      simp only [Act.put, List.setIfInBounds_toArray, List.set_cons_zero, List.set_cons_succ]
      refine take_oneL (i := 5) (d := 56) (oi := ?_) (v := ?_) ?_ hsel (by kernel_rfl) (by kernel_rfl) (fun _ _ _ h => h) ?_ ?_ ?_ (by assumption) ?_
      case refine_3 => (simp only [List.getElem?_cons_succ, List.getElem?_cons_zero]; rfl)
      case refine_4 => rfl
      case refine_5 => rfl
      case refine_6 => (intro w' hSw; (try dsimp only at hSw); go_simp; (try with_reducible rfl))
      simp only [Act.put, List.setIfInBounds_toArray, List.set_cons_zero, List.set_cons_succ]
      refine take_oneL (i := 6) (d := 57) (oi := ?_) (v := ?_) ?_ hsel (by kernel_rfl) (by kernel_rfl) (fun _ _ _ h => h) ?_ ?_ ?_ (by assumption) ?_
      case refine_3 => (simp only [List.getElem?_cons_succ, List.getElem?_cons_zero]; rfl)
      case refine_4 => rfl
      case refine_5 => rfl
      case refine_6 => (intro w' hSw; (try dsimp only at hSw); go_simp; (try with_reducible rfl))
      simp only [Act.put, List.setIfInBounds_toArray, List.set_cons_zero, List.set_cons_succ]
      refine take_oneL (i := 7) (d := 58) (oi := ?_) (v := ?_) ?_ hsel (by kernel_rfl) (by kernel_rfl) (fun _ _ _ h => h) ?_ ?_ ?_ (by assumption) ?_
      case refine_3 => (simp only [List.getElem?_cons_succ, List.getElem?_cons_zero]; rfl)
      case refine_4 => rfl
      case refine_5 => rfl
      case refine_6 => (intro w' hSw; (try dsimp only at hSw); go_simp; (try with_reducible rfl))
      simp only [Act.put, List.setIfInBounds_toArray, List.set_cons_zero, List.set_cons_succ]
      refine take_oneL (i := 8) (d := 59) (oi := ?_) (v := ?_) ?_ hsel (by kernel_rfl) (by kernel_rfl) (fun _ _ _ h => h) ?_ ?_ ?_ (by assumption) ?_
      case refine_3 => (simp only [List.getElem?_cons_succ, List.getElem?_cons_zero]; rfl)
      case refine_4 => rfl
      case refine_5 => rfl
      case refine_6 => (intro w' hSw; (try dsimp only at hSw); go_simp; (try with_reducible rfl))
      simp only [Act.put, List.setIfInBounds_toArray, List.set_cons_zero, List.set_cons_succ]
      refine take_oneL (i := 9) (d := 60) (oi := ?_) (v := ?_) ?_ hsel (by kernel_rfl) (by kernel_rfl) (fun _ _ _ h => h) ?_ ?_ ?_ (by assumption) ?_
      case refine_3 => (simp only [List.getElem?_cons_succ, List.getElem?_cons_zero]; rfl)
      case refine_4 => rfl
      case refine_5 => rfl
      case refine_6 => (intro w' hSw; (try dsimp only at hSw); go_simp; (try with_reducible rfl))
      simp only [Act.put, List.setIfInBounds_toArray, List.set_cons_zero, List.set_cons_succ]
      refine take_oneL (i := 10) (d := 61) (oi := ?_) (v := ?_) ?_ hsel (by kernel_rfl) (by kernel_rfl) (fun _ _ _ h => h) ?_ ?_ ?_ (by assumption) ?_
      case refine_3 => (simp only [List.getElem?_cons_succ, List.getElem?_cons_zero]; rfl)
      case refine_4 => rfl
      case refine_5 => rfl
      case refine_6 => (intro w' hSw; (try dsimp only at hSw); go_simp; (try with_reducible rfl))
      simp only [Act.put, List.setIfInBounds_toArray, List.set_cons_zero, List.set_cons_succ]
      refine take_oneL (i := 11) (d := 62) (oi := ?_) (v := ?_) ?_ hsel (by kernel_rfl) (by kernel_rfl) (fun _ _ _ h => h) ?_ ?_ ?_ (by assumption) ?_
      case refine_3 => (simp only [List.getElem?_cons_succ, List.getElem?_cons_zero]; rfl)
      case refine_4 => rfl
      case refine_5 => rfl
      case refine_6 => (intro w' hSw; (try dsimp only at hSw); go_simp; (try with_reducible rfl))
      simp only [Act.put, List.setIfInBounds_toArray, List.set_cons_zero, List.set_cons_succ]
      refine take_oneL (i := 12) (d := 63) (oi := ?_) (v := ?_) ?_ hsel (by kernel_rfl) (by kernel_rfl) (fun _ _ _ h => h) ?_ ?_ ?_ (by assumption) ?_
      case refine_3 => (simp only [List.getElem?_cons_succ, List.getElem?_cons_zero]; rfl)
      case refine_4 => rfl
      case refine_5 => rfl
      case refine_6 => (intro w' hSw; (try dsimp only at hSw); go_simp; (try with_reducible rfl))
      simp only [Act.put, List.setIfInBounds_toArray, List.set_cons_zero, List.set_cons_succ]
      refine take_oneL (i := 13) (d := 64) (oi := ?_) (v := ?_) ?_ hsel (by kernel_rfl) (by kernel_rfl) (fun _ _ _ h => h) ?_ ?_ ?_ (by assumption) ?_
      case refine_3 => (simp only [List.getElem?_cons_succ, List.getElem?_cons_zero]; rfl)
      case refine_4 => rfl
      case refine_5 => rfl
      case refine_6 => (intro w' hSw; (try dsimp only at hSw); go_simp; (try with_reducible rfl))
      simp only [Act.put, List.setIfInBounds_toArray, List.set_cons_zero, List.set_cons_succ]
      refine take_oneL (i := 14) (d := 65) (oi := ?_) (v := ?_) ?_ hsel (by kernel_rfl) (by kernel_rfl) (fun _ _ _ h => h) ?_ ?_ ?_ (by assumption) ?_
      case refine_3 => (simp only [List.getElem?_cons_succ, List.getElem?_cons_zero]; rfl)
      case refine_4 => rfl
      case refine_5 => rfl
      case refine_6 => (intro w' hSw; (try dsimp only at hSw); go_simp; (try with_reducible rfl))
      simp only [Act.put, List.setIfInBounds_toArray, List.set_cons_zero, List.set_cons_succ]
      refine take_oneL (i := 15) (d := 66) (oi := ?_) (v := ?_) ?_ hsel (by kernel_rfl) (by kernel_rfl) (fun _ _ _ h => h) ?_ ?_ ?_ (by assumption) ?_
      case refine_3 => (simp only [List.getElem?_cons_succ, List.getElem?_cons_zero]; rfl)
      case refine_4 => rfl
      case refine_5 => rfl
      case refine_6 => (intro w' hSw; (try dsimp only at hSw); go_simp; (try with_reducible rfl))
      simp only [Act.put, List.setIfInBounds_toArray, List.set_cons_zero, List.set_cons_succ]
      refine take_oneL (i := 16) (d := 67) (oi := ?_) (v := ?_) ?_ hsel (by kernel_rfl) (by kernel_rfl) (fun _ _ _ h => h) ?_ ?_ ?_ (by assumption) ?_
      case refine_3 => (simp only [List.getElem?_cons_succ, List.getElem?_cons_zero]; rfl)
      case refine_4 => rfl
      case refine_5 => rfl
      case refine_6 => (intro w' hSw; (try dsimp only at hSw); go_simp; (try with_reducible rfl))
      simp only [Act.put, List.setIfInBounds_toArray, List.set_cons_zero, List.set_cons_succ]
      refine take_oneL (i := 17) (d := 68) (oi := ?_) (v := ?_) ?_ hsel (by kernel_rfl) (by kernel_rfl) (fun _ _ _ h => h) ?_ ?_ ?_ (by assumption) ?_
      case refine_3 => (simp only [List.getElem?_cons_succ, List.getElem?_cons_zero]; rfl)
      case refine_4 => rfl
      case refine_5 => rfl
      case refine_6 => (intro w' hSw; (try dsimp only at hSw); go_simp; (try with_reducible rfl))
      simp only [Act.put, List.setIfInBounds_toArray, List.set_cons_zero, List.set_cons_succ]
      refine take_oneL (i := 18) (d := 69) (oi := ?_) (v := ?_) ?_ hsel (by kernel_rfl) (by kernel_rfl) (fun _ _ _ h => h) ?_ ?_ ?_ (by assumption) ?_
      case refine_3 => (simp only [List.getElem?_cons_succ, List.getElem?_cons_zero]; rfl)
      case refine_4 => rfl
      case refine_5 => rfl
      case refine_6 => (intro w' hSw; (try dsimp only at hSw); go_simp; (try with_reducible rfl))
      simp only [Act.put, List.setIfInBounds_toArray, List.set_cons_zero, List.set_cons_succ]
      refine take_oneL (i := 19) (d := 70) (oi := ?_) (v := ?_) ?_ hsel (by kernel_rfl) (by kernel_rfl) (fun _ _ _ h => h) ?_ ?_ ?_ (by assumption) ?_
      case refine_3 => (simp only [List.getElem?_cons_succ, List.getElem?_cons_zero]; rfl)
      case refine_4 => rfl
      case refine_5 => rfl
      case refine_6 => (intro w' hSw; (try dsimp only at hSw); go_simp; (try with_reducible rfl))
      simp only [Act.put, List.setIfInBounds_toArray, List.set_cons_zero, List.set_cons_succ]
      refine take_oneL (i := 20) (d := 71) (oi := ?_) (v := ?_) ?_ hsel (by kernel_rfl) (by kernel_rfl) (fun _ _ _ h => h) ?_ ?_ ?_ (by assumption) ?_
      case refine_3 => (simp only [List.getElem?_cons_succ, List.getElem?_cons_zero]; rfl)
      case refine_4 => rfl
      case refine_5 => rfl
      case refine_6 => (intro w' hSw; (try dsimp only at hSw); go_simp; (try with_reducible rfl))
      simp only [Act.put, List.setIfInBounds_toArray, List.set_cons_zero, List.set_cons_succ]
      refine take_oneL (i := 21) (d := 72) (oi := ?_) (v := ?_) ?_ hsel (by kernel_rfl) (by kernel_rfl) (fun _ _ _ h => h) ?_ ?_ ?_ (by assumption) ?_
      case refine_3 => (simp only [List.getElem?_cons_succ, List.getElem?_cons_zero]; rfl)
      case refine_4 => rfl
      case refine_5 => rfl
      case refine_6 => (intro w' hSw; (try dsimp only at hSw); go_simp; (try with_reducible rfl))
      simp only [Act.put, List.setIfInBounds_toArray, List.set_cons_zero, List.set_cons_succ]
      refine take_oneL (i := 22) (d := 73) (oi := ?_) (v := ?_) ?_ hsel (by kernel_rfl) (by kernel_rfl) (fun _ _ _ h => h) ?_ ?_ ?_ (by assumption) ?_
      case refine_3 => (simp only [List.getElem?_cons_succ, List.getElem?_cons_zero]; rfl)
      case refine_4 => rfl
      case refine_5 => rfl
      case refine_6 => (intro w' hSw; (try dsimp only at hSw); go_simp; (try with_reducible rfl))
      simp only [Act.put, List.setIfInBounds_toArray, List.set_cons_zero, List.set_cons_succ]
      refine take_oneL (i := 23) (d := 74) (oi := ?_) (v := ?_) ?_ hsel (by kernel_rfl) (by kernel_rfl) (fun _ _ _ h => h) ?_ ?_ ?_ (by assumption) ?_
      case refine_3 => (simp only [List.getElem?_cons_succ, List.getElem?_cons_zero]; rfl)
      case refine_4 => rfl
      case refine_5 => rfl
      case refine_6 => (intro w' hSw; (try dsimp only at hSw); go_simp; (try with_reducible rfl))
      simp only [Act.put, List.setIfInBounds_toArray, List.set_cons_zero, List.set_cons_succ]
      refine take_oneL (i := 24) (d := 75) (oi := ?_) (v := ?_) ?_ hsel (by kernel_rfl) (by kernel_rfl) (fun _ _ _ h => h) ?_ ?_ ?_ (by assumption) ?_
      case refine_3 => (simp only [List.getElem?_cons_succ, List.getElem?_cons_zero]; rfl)
      case refine_4 => rfl
      case refine_5 => rfl
      case refine_6 => (intro w' hSw; (try dsimp only at hSw); go_simp; (try with_reducible rfl))
      simp only [Act.put, List.setIfInBounds_toArray, List.set_cons_zero, List.set_cons_succ]
      refine take_oneL (i := 25) (d := 76) (oi := ?_) (v := ?_) ?_ hsel (by kernel_rfl) (by kernel_rfl) (fun _ _ _ h => h) ?_ ?_ ?_ (by assumption) ?_
      case refine_3 => (simp only [List.getElem?_cons_succ, List.getElem?_cons_zero]; rfl)
      case refine_4 => rfl
      case refine_5 => rfl
      case refine_6 => (intro w' hSw; (try dsimp only at hSw); go_simp; (try with_reducible rfl))
      simp only [Act.put, List.setIfInBounds_toArray, List.set_cons_zero, List.set_cons_succ]
      refine take_oneL (i := 26) (d := 77) (oi := ?_) (v := ?_) ?_ hsel (by kernel_rfl) (by kernel_rfl) (fun _ _ _ h => h) ?_ ?_ ?_ (by assumption) ?_
      case refine_3 => (simp only [List.getElem?_cons_succ, List.getElem?_cons_zero]; rfl)
      case refine_4 => rfl
      case refine_5 => rfl
      case refine_6 => (intro w' hSw; (try dsimp only at hSw); go_simp; (try with_reducible rfl))
      simp only [Act.put, List.setIfInBounds_toArray, List.set_cons_zero, List.set_cons_succ]
      refine take_oneL (i := 27) (d := 78) (oi := ?_) (v := ?_) ?_ hsel (by kernel_rfl) (by kernel_rfl) (fun _ _ _ h => h) ?_ ?_ ?_ (by assumption) ?_
      case refine_3 => (simp only [List.getElem?_cons_succ, List.getElem?_cons_zero]; rfl)
      case refine_4 => rfl
      case refine_5 => rfl
      case refine_6 => (intro w' hSw; (try dsimp only at hSw); go_simp; (try with_reducible rfl))
      simp only [Act.put, List.setIfInBounds_toArray, List.set_cons_zero, List.set_cons_succ]
      refine take_oneL (i := 28) (d := 79) (oi := ?_) (v := ?_) ?_ hsel (by kernel_rfl) (by kernel_rfl) (fun _ _ _ h => h) ?_ ?_ ?_ (by assumption) ?_
      case refine_3 => (simp only [List.getElem?_cons_succ, List.getElem?_cons_zero]; rfl)
      case refine_4 => rfl
      case refine_5 => rfl
      case refine_6 => (intro w' hSw; (try dsimp only at hSw); go_simp; (try with_reducible rfl))
      simp only [Act.put, List.setIfInBounds_toArray, List.set_cons_zero, List.set_cons_succ]
      refine take_oneL (i := 29) (d := 80) (oi := ?_) (v := ?_) ?_ hsel (by kernel_rfl) (by kernel_rfl) (fun _ _ _ h => h) ?_ ?_ ?_ (by assumption) ?_
      case refine_3 => (simp only [List.getElem?_cons_succ, List.getElem?_cons_zero]; rfl)
      case refine_4 => rfl
      case refine_5 => rfl
      case refine_6 => (intro w' hSw; (try dsimp only at hSw); go_simp; (try with_reducible rfl))
      simp only [Act.put, List.setIfInBounds_toArray, List.set_cons_zero, List.set_cons_succ]
      refine take_oneL (i := 30) (d := 81) (oi := ?_) (v := ?_) ?_ hsel (by kernel_rfl) (by kernel_rfl) (fun _ _ _ h => h) ?_ ?_ ?_ (by assumption) ?_
      case refine_3 => (simp only [List.getElem?_cons_succ, List.getElem?_cons_zero]; rfl)
      case refine_4 => rfl
      case refine_5 => rfl
      case refine_6 => (intro w' hSw; (try dsimp only at hSw); go_simp; (try with_reducible rfl))
      simp only [Act.put, List.setIfInBounds_toArray, List.set_cons_zero, List.set_cons_succ]
      refine take_oneL (i := 31) (d := 82) (oi := ?_) (v := ?_) ?_ hsel (by kernel_rfl) (by kernel_rfl) (fun _ _ _ h => h) ?_ ?_ ?_ (by assumption) ?_
      case refine_3 => (simp only [List.getElem?_cons_succ, List.getElem?_cons_zero]; rfl)
      case refine_4 => rfl
      case refine_5 => rfl
      case refine_6 => (intro w' hSw; (try dsimp only at hSw); go_simp; (try with_reducible rfl))
      simp only [Act.put, List.setIfInBounds_toArray, List.set_cons_zero, List.set_cons_succ]
      refine take_oneL (i := 32) (d := 83) (oi := ?_) (v := ?_) ?_ hsel (by kernel_rfl) (by kernel_rfl) (fun _ _ _ h => h) ?_ ?_ ?_ (by assumption) ?_
      case refine_3 => (simp only [List.getElem?_cons_succ, List.getElem?_cons_zero]; rfl)
      case refine_4 => rfl
      case refine_5 => rfl
      case refine_6 => (intro w' hSw; (try dsimp only at hSw); go_simp; (try with_reducible rfl))
      simp only [Act.put, List.setIfInBounds_toArray, List.set_cons_zero, List.set_cons_succ]
      refine take_oneL (i := 33) (d := 84) (oi := ?_) (v := ?_) ?_ hsel (by kernel_rfl) (by kernel_rfl) (fun _ _ _ h => h) ?_ ?_ ?_ (by assumption) ?_
      case refine_3 => (simp only [List.getElem?_cons_succ, List.getElem?_cons_zero]; rfl)
      case refine_4 => rfl
      case refine_5 => rfl
      case refine_6 => (intro w' hSw; (try dsimp only at hSw); go_simp; (try with_reducible rfl))
      simp only [Act.put, List.setIfInBounds_toArray, List.set_cons_zero, List.set_cons_succ]
      refine take_oneL (i := 34) (d := 85) (oi := ?_) (v := ?_) ?_ hsel (by kernel_rfl) (by kernel_rfl) (fun _ _ _ h => h) ?_ ?_ ?_ (by assumption) ?_
      case refine_3 => (simp only [List.getElem?_cons_succ, List.getElem?_cons_zero]; rfl)
      case refine_4 => rfl
      case refine_5 => rfl
      case refine_6 => (intro w' hSw; (try dsimp only at hSw); go_simp; (try with_reducible rfl))
      simp only [Act.put, List.setIfInBounds_toArray, List.set_cons_zero, List.set_cons_succ]
      refine take_oneL (i := 35) (d := 86) (oi := ?_) (v := ?_) ?_ hsel (by kernel_rfl) (by kernel_rfl) (fun _ _ _ h => h) ?_ ?_ ?_ (by assumption) ?_
      case refine_3 => (simp only [List.getElem?_cons_succ, List.getElem?_cons_zero]; rfl)
      case refine_4 => rfl
      case refine_5 => rfl
      case refine_6 => (intro w' hSw; (try dsimp only at hSw); go_simp; (try with_reducible rfl))
      simp only [Act.put, List.setIfInBounds_toArray, List.set_cons_zero, List.set_cons_succ]
      refine take_oneL (i := 36) (d := 87) (oi := ?_) (v := ?_) ?_ hsel (by kernel_rfl) (by kernel_rfl) (fun _ _ _ h => h) ?_ ?_ ?_ (by assumption) ?_
      case refine_3 => (simp only [List.getElem?_cons_succ, List.getElem?_cons_zero]; rfl)
      case refine_4 => rfl
      case refine_5 => rfl
      case refine_6 => (intro w' hSw; (try dsimp only at hSw); go_simp; (try with_reducible rfl))
      simp only [Act.put, List.setIfInBounds_toArray, List.set_cons_zero, List.set_cons_succ]
      refine take_oneL (i := 37) (d := 88) (oi := ?_) (v := ?_) ?_ hsel (by kernel_rfl) (by kernel_rfl) (fun _ _ _ h => h) ?_ ?_ ?_ (by assumption) ?_
      case refine_3 => (simp only [List.getElem?_cons_succ, List.getElem?_cons_zero]; rfl)
      case refine_4 => rfl
      case refine_5 => rfl
      case refine_6 => (intro w' hSw; (try dsimp only at hSw); go_simp; (try with_reducible rfl))
      simp only [Act.put, List.setIfInBounds_toArray, List.set_cons_zero, List.set_cons_succ]
      refine take_oneL (i := 38) (d := 89) (oi := ?_) (v := ?_) ?_ hsel (by kernel_rfl) (by kernel_rfl) (fun _ _ _ h => h) ?_ ?_ ?_ (by assumption) ?_
      case refine_3 => (simp only [List.getElem?_cons_succ, List.getElem?_cons_zero]; rfl)
      case refine_4 => rfl
      case refine_5 => rfl
      case refine_6 => (intro w' hSw; (try dsimp only at hSw); go_simp; (try with_reducible rfl))
      simp only [Act.put, List.setIfInBounds_toArray, List.set_cons_zero, List.set_cons_succ]
      refine take_oneL (i := 39) (d := 90) (oi := ?_) (v := ?_) ?_ hsel (by kernel_rfl) (by kernel_rfl) (fun _ _ _ h => h) ?_ ?_ ?_ (by assumption) ?_
      case refine_3 => (simp only [List.getElem?_cons_succ, List.getElem?_cons_zero]; rfl)
      case refine_4 => rfl
      case refine_5 => rfl
      case refine_6 => (intro w' hSw; (try dsimp only at hSw); go_simp; (try with_reducible rfl))
      simp only [Act.put, List.setIfInBounds_toArray, List.set_cons_zero, List.set_cons_succ]
      refine take_oneL (i := 40) (d := 91) (oi := ?_) (v := ?_) ?_ hsel (by kernel_rfl) (by kernel_rfl) (fun _ _ _ h => h) ?_ ?_ ?_ (by assumption) ?_
      case refine_3 => (simp only [List.getElem?_cons_succ, List.getElem?_cons_zero]; rfl)
      case refine_4 => rfl
      case refine_5 => rfl
      case refine_6 => (intro w' hSw; (try dsimp only at hSw); go_simp; (try with_reducible rfl))
      simp only [Act.put, List.setIfInBounds_toArray, List.set_cons_zero, List.set_cons_succ]
      refine take_oneL (i := 41) (d := 92) (oi := ?_) (v := ?_) ?_ hsel (by kernel_rfl) (by kernel_rfl) (fun _ _ _ h => h) ?_ ?_ ?_ (by assumption) ?_
      case refine_3 => (simp only [List.getElem?_cons_succ, List.getElem?_cons_zero]; rfl)
      case refine_4 => rfl
      case refine_5 => rfl
      case refine_6 => (intro w' hSw; (try dsimp only at hSw); go_simp; (try with_reducible rfl))
      simp only [Act.put, List.setIfInBounds_toArray, List.set_cons_zero, List.set_cons_succ]
      refine take_oneL (i := 42) (d := 93) (oi := ?_) (v := ?_) ?_ hsel (by kernel_rfl) (by kernel_rfl) (fun _ _ _ h => h) ?_ ?_ ?_ (by assumption) ?_
      case refine_3 => (simp only [List.getElem?_cons_succ, List.getElem?_cons_zero]; rfl)
      case refine_4 => rfl
      case refine_5 => rfl
      case refine_6 => (intro w' hSw; (try dsimp only at hSw); go_simp; (try with_reducible rfl))
      simp only [Act.put, List.setIfInBounds_toArray, List.set_cons_zero, List.set_cons_succ]
      refine take_oneL (i := 43) (d := 94) (oi := ?_) (v := ?_) ?_ hsel (by kernel_rfl) (by kernel_rfl) (fun _ _ _ h => h) ?_ ?_ ?_ (by assumption) ?_
      case refine_3 => (simp only [List.getElem?_cons_succ, List.getElem?_cons_zero]; rfl)
      case refine_4 => rfl
      case refine_5 => rfl
      case refine_6 => (intro w' hSw; (try dsimp only at hSw); go_simp; (try with_reducible rfl))
      simp only [Act.put, List.setIfInBounds_toArray, List.set_cons_zero, List.set_cons_succ]
      refine take_oneL (i := 44) (d := 95) (oi := ?_) (v := ?_) ?_ hsel (by kernel_rfl) (by kernel_rfl) (fun _ _ _ h => h) ?_ ?_ ?_ (by assumption) ?_
      case refine_3 => (simp only [List.getElem?_cons_succ, List.getElem?_cons_zero]; rfl)
      case refine_4 => rfl
      case refine_5 => rfl
      case refine_6 => (intro w' hSw; (try dsimp only at hSw); go_simp; (try with_reducible rfl))
      simp only [Act.put, List.setIfInBounds_toArray, List.set_cons_zero, List.set_cons_succ]
      refine take_oneL (i := 45) (d := 96) (oi := ?_) (v := ?_) ?_ hsel (by kernel_rfl) (by kernel_rfl) (fun _ _ _ h => h) ?_ ?_ ?_ (by assumption) ?_
      case refine_3 => (simp only [List.getElem?_cons_succ, List.getElem?_cons_zero]; rfl)
      case refine_4 => rfl
      case refine_5 => rfl
      case refine_6 => (intro w' hSw; (try dsimp only at hSw); go_simp; (try with_reducible rfl))
      simp only [Act.put, List.setIfInBounds_toArray, List.set_cons_zero, List.set_cons_succ]
      refine take_oneL (i := 46) (d := 97) (oi := ?_) (v := ?_) ?_ hsel (by kernel_rfl) (by kernel_rfl) (fun _ _ _ h => h) ?_ ?_ ?_ (by assumption) ?_
      case refine_3 => (simp only [List.getElem?_cons_succ, List.getElem?_cons_zero]; rfl)
      case refine_4 => rfl
      case refine_5 => rfl
      case refine_6 => (intro w' hSw; (try dsimp only at hSw); go_simp; (try with_reducible rfl))
      simp only [Act.put, List.setIfInBounds_toArray, List.set_cons_zero, List.set_cons_succ]
      refine wpAnyL_ready (rs := [47]) (by kernel_rfl) (by kernel_rfl) (by simp) ?_
      refine AllReadyL.cons (o := ?_) ?_ (fun K hK => ?_) AllReadyL.nil
      case refine_2 => (simp only [List.getElem?_cons_succ, List.getElem?_cons_zero]; rfl)
      go_simp
      clear hHeld
      refine hK.out _ _ (KP.out _ (HOZ.out.alloc (fun _ h => h) _)) (fun hHeld => ?_)
      clear hK K
      try simp only [Act.put, List.setIfInBounds_toArray, List.set_cons_zero, List.set_cons_succ]
      refine wpAnyL_ready (rs := [48]) (by kernel_rfl) (by kernel_rfl) (by simp) ?_
      refine AllReadyL.cons (o := ?_) ?_ (fun K hK => ?_) AllReadyL.nil
      case refine_2 => (simp only [List.getElem?_cons_succ, List.getElem?_cons_zero]; rfl)
      go_simp
      clear hHeld
      refine hK.out _ _ (KP.out _ (HOZ.out.alloc (fun _ h => h) _)) (fun hHeld => ?_)
      clear hK K
      try simp only [Act.put, List.setIfInBounds_toArray, List.set_cons_zero, List.set_cons_succ]
      refine wpAnyL_ready (rs := [49]) (by kernel_rfl) (by kernel_rfl) (by simp) ?_
      refine AllReadyL.cons (o := ?_) ?_ (fun K hK => ?_) AllReadyL.nil
      case refine_2 => (simp only [List.getElem?_cons_succ, List.getElem?_cons_zero]; rfl)
      go_simp
      (go_at_call 26; (with_reducible refine (HCS.out _ HOZ.out).mono ?_); rintro ee w6 ⟨rfl, ho⟩; (replace ho := on_new ((Only.refl _ wx).alloc (fun _ h => h) (.cells #[.int .u8 122] 5 (1, 2))) ho); (replace HOZ := Lib.hid (on_new HOZ.out ho)); clear ho)
      go_wp2_with (fail)
      clear hHeld
      refine hK.out _ _ (KP.out _ HOZ.out) (fun hHeld => ?_)
      clear hK K
      try simp only [Act.put, List.setIfInBounds_toArray, List.set_cons_zero, List.set_cons_succ]
      refine take_oneL (i := 50) (d := 101) (oi := ?_) (v := ?_) ?_ hsel (by kernel_rfl) (by kernel_rfl) (fun _ _ _ h => h) ?_ ?_ ?_ (by assumption) ?_
      case refine_3 => (simp only [List.getElem?_cons_succ, List.getElem?_cons_zero]; rfl)
      case refine_4 => rfl
      case refine_5 => rfl
      case refine_6 => (intro w' hSw; (try dsimp only at hSw); go_simp; (try with_reducible rfl))
      simp only [Act.put, List.setIfInBounds_toArray, List.set_cons_zero, List.set_cons_succ]
      refine take_oneL (i := 51) (d := 102) (oi := ?_) (v := ?_) ?_ hsel (by kernel_rfl) (by kernel_rfl) (fun _ _ _ h => h) ?_ ?_ ?_ (by assumption) ?_
      case refine_3 => (simp only [List.getElem?_cons_succ, List.getElem?_cons_zero]; rfl)
      case refine_4 => rfl
      case refine_5 => rfl
      case refine_6 => (intro w' hSw; (try dsimp only at hSw); go_simp; (try with_reducible rfl))
      simp only [Act.put, List.setIfInBounds_toArray, List.set_cons_zero, List.set_cons_succ]
      refine take_oneL (i := 52) (d := 103) (oi := ?_) (v := ?_) ?_ hsel (by kernel_rfl) (by kernel_rfl) (fun _ _ _ h => h) ?_ ?_ ?_ (by assumption) ?_
      case refine_3 => (simp only [List.getElem?_cons_succ, List.getElem?_cons_zero]; rfl)
      case refine_4 => rfl
      case refine_5 => rfl
      case refine_6 => (intro w' hSw; (try dsimp only at hSw); go_simp; (try with_reducible rfl))
      simp only [Act.put, List.setIfInBounds_toArray, List.set_cons_zero, List.set_cons_succ]
      refine take_oneL (i := 53) (d := 104) (oi := ?_) (v := ?_) ?_ hsel (by kernel_rfl) (by kernel_rfl) (fun _ _ _ h => h) ?_ ?_ ?_ (by assumption) ?_
      case refine_3 => (simp only [List.getElem?_cons_succ, List.getElem?_cons_zero]; rfl)
      case refine_4 => rfl
      case refine_5 => rfl
      case refine_6 => (intro w' hSw; (try dsimp only at hSw); go_simp; (try with_reducible rfl))
      simp only [Act.put, List.setIfInBounds_toArray, List.set_cons_zero, List.set_cons_succ]
      refine wpAnyL_ready (rs := [54]) (by kernel_rfl) (by kernel_rfl) (by simp) ?_
      refine AllReadyL.cons (o := ?_) ?_ (fun K hK => ?_) AllReadyL.nil
      case refine_2 => (simp only [List.getElem?_cons_succ, List.getElem?_cons_zero]; rfl)
      go_simp
      (go_at_call 27; (with_reducible refine (HCR.out _ HOZ.out).mono ?_); rintro ee w7 ⟨rfl, ho⟩; (replace HOZ := Lib.hid (on_new HOZ.out ho)); clear ho)
      go_wp2_with (fail)
      clear hHeld
      refine hK.out _ _ (KP.out _ HOZ.out) (fun hHeld => ?_)
      clear hK K
      try simp only [Act.put, List.setIfInBounds_toArray, List.set_cons_zero, List.set_cons_succ]
      refine take_oneL (i := 55) (d := 106) (oi := ?_) (v := ?_) ?_ hsel (by kernel_rfl) (by kernel_rfl) (fun _ _ _ h => h) ?_ ?_ ?_ (by assumption) ?_
      case refine_3 => (simp only [List.getElem?_cons_succ, List.getElem?_cons_zero]; rfl)
      case refine_4 => rfl
      case refine_5 => rfl
      case refine_6 => (intro w' hSw; (try dsimp only at hSw); go_simp; (try with_reducible rfl))
      simp only [Act.put, List.setIfInBounds_toArray, List.set_cons_zero, List.set_cons_succ]
      refine take_oneL (i := 56) (d := 107) (oi := ?_) (v := ?_) ?_ hsel (by kernel_rfl) (by kernel_rfl) (fun _ _ _ h => h) ?_ ?_ ?_ (by assumption) ?_
      case refine_3 => (simp only [List.getElem?_cons_succ, List.getElem?_cons_zero]; rfl)
      case refine_4 => rfl
      case refine_5 => rfl
      case refine_6 => (intro w' hSw; (try dsimp only at hSw); go_simp; (try with_reducible rfl))
      simp only [Act.put, List.setIfInBounds_toArray, List.set_cons_zero, List.set_cons_succ]
      refine take_oneL (i := 57) (d := 108) (oi := ?_) (v := ?_) ?_ hsel (by kernel_rfl) (by kernel_rfl) (fun _ _ _ h => h) ?_ ?_ ?_ (by assumption) ?_
      case refine_3 => (simp only [List.getElem?_cons_succ, List.getElem?_cons_zero]; rfl)
      case refine_4 => rfl
      case refine_5 => rfl
      case refine_6 => (intro w' hSw; (try dsimp only at hSw); go_simp; (try with_reducible rfl))
      simp only [Act.put, List.setIfInBounds_toArray, List.set_cons_zero, List.set_cons_succ]
      refine take_oneL (i := 58) (d := 109) (oi := ?_) (v := ?_) ?_ hsel (by kernel_rfl) (by kernel_rfl) (fun _ _ _ h => h) ?_ ?_ ?_ (by assumption) ?_
      case refine_3 => (simp only [List.getElem?_cons_succ, List.getElem?_cons_zero]; rfl)
      case refine_4 => rfl
      case refine_5 => rfl
      case refine_6 => (intro w' hSw; (try dsimp only at hSw); go_simp; (try with_reducible rfl))
      simp only [Act.put, List.setIfInBounds_toArray, List.set_cons_zero, List.set_cons_succ]
      refine take_oneL (i := 59) (d := 110) (oi := ?_) (v := ?_) ?_ hsel (by kernel_rfl) (by kernel_rfl) (fun _ _ _ h => h) ?_ ?_ ?_ (by assumption) ?_
      case refine_3 => (simp only [List.getElem?_cons_succ, List.getElem?_cons_zero]; rfl)
      case refine_4 => rfl
      case refine_5 => rfl
      case refine_6 => (intro w' hSw; (try dsimp only at hSw); go_simp; (try with_reducible rfl))
      simp only [Act.put, List.setIfInBounds_toArray, List.set_cons_zero, List.set_cons_succ]
      refine take_oneL (i := 60) (d := 111) (oi := ?_) (v := ?_) ?_ hsel (by kernel_rfl) (by kernel_rfl) (fun _ _ _ h => h) ?_ ?_ ?_ (by assumption) ?_
      case refine_3 => (simp only [List.getElem?_cons_succ, List.getElem?_cons_zero]; rfl)
      case refine_4 => rfl
      case refine_5 => rfl
      case refine_6 => (intro w' hSw; (try dsimp only at hSw); go_simp; (try with_reducible rfl))
      simp only [Act.put, List.setIfInBounds_toArray, List.set_cons_zero, List.set_cons_succ]
      refine take_oneL (i := 61) (d := 112) (oi := ?_) (v := ?_) ?_ hsel (by kernel_rfl) (by kernel_rfl) (fun _ _ _ h => h) ?_ ?_ ?_ (by assumption) ?_
      case refine_3 => (simp only [List.getElem?_cons_succ, List.getElem?_cons_zero]; rfl)
      case refine_4 => rfl
      case refine_5 => rfl
      case refine_6 => (intro w' hSw; (try dsimp only at hSw); go_simp; (try with_reducible rfl))
      simp only [Act.put, List.setIfInBounds_toArray, List.set_cons_zero, List.set_cons_succ]
      refine take_oneL (i := 62) (d := 113) (oi := ?_) (v := ?_) ?_ hsel (by kernel_rfl) (by kernel_rfl) (fun _ _ _ h => h) ?_ ?_ ?_ (by assumption) ?_
      case refine_3 => (simp only [List.getElem?_cons_succ, List.getElem?_cons_zero]; rfl)
      case refine_4 => rfl
      case refine_5 => rfl
      case refine_6 => (intro w' hSw; (try dsimp only at hSw); go_simp; (try with_reducible rfl))
      simp only [Act.put, List.setIfInBounds_toArray, List.set_cons_zero, List.set_cons_succ]
      refine take_oneL (i := 63) (d := 114) (oi := ?_) (v := ?_) ?_ hsel (by kernel_rfl) (by kernel_rfl) (fun _ _ _ h => h) ?_ ?_ ?_ (by assumption) ?_
      case refine_3 => (simp only [List.getElem?_cons_succ, List.getElem?_cons_zero]; rfl)
      case refine_4 => rfl
      case refine_5 => rfl
      case refine_6 => (intro w' hSw; (try dsimp only at hSw); go_simp; (try with_reducible rfl))
      simp only [Act.put, List.setIfInBounds_toArray, List.set_cons_zero, List.set_cons_succ]
      refine take_oneL (i := 64) (d := 115) (oi := ?_) (v := ?_) ?_ hsel (by kernel_rfl) (by kernel_rfl) (fun _ _ _ h => h) ?_ ?_ ?_ (by assumption) ?_
      case refine_3 => (simp only [List.getElem?_cons_succ, List.getElem?_cons_zero]; rfl)
      case refine_4 => rfl
      case refine_5 => rfl
      case refine_6 => (intro w' hSw; (try dsimp only at hSw); go_simp; (try with_reducible rfl))
      simp only [Act.put, List.setIfInBounds_toArray, List.set_cons_zero, List.set_cons_succ]
      refine take_oneL (i := 65) (d := 116) (oi := ?_) (v := ?_) ?_ hsel (by kernel_rfl) (by kernel_rfl) (fun _ _ _ h => h) ?_ ?_ ?_ (by assumption) ?_
      case refine_3 => (simp only [List.getElem?_cons_succ, List.getElem?_cons_zero]; rfl)
      case refine_4 => rfl
      case refine_5 => rfl
      case refine_6 => (intro w' hSw; (try dsimp only at hSw); go_simp; (try with_reducible rfl))
      simp only [Act.put, List.setIfInBounds_toArray, List.set_cons_zero, List.set_cons_succ]
      refine take_oneL (i := 66) (d := 117) (oi := ?_) (v := ?_) ?_ hsel (by kernel_rfl) (by kernel_rfl) (fun _ _ _ h => h) ?_ ?_ ?_ (by assumption) ?_
      case refine_3 => (simp only [List.getElem?_cons_succ, List.getElem?_cons_zero]; rfl)
      case refine_4 => rfl
      case refine_5 => rfl
      case refine_6 => (intro w' hSw; (try dsimp only at hSw); go_simp; (try with_reducible rfl))
      simp only [Act.put, List.setIfInBounds_toArray, List.set_cons_zero, List.set_cons_succ]
      refine take_oneL (i := 67) (d := 118) (oi := ?_) (v := ?_) ?_ hsel (by kernel_rfl) (by kernel_rfl) (fun _ _ _ h => h) ?_ ?_ ?_ (by assumption) ?_
      case refine_3 => (simp only [List.getElem?_cons_succ, List.getElem?_cons_zero]; rfl)
      case refine_4 => rfl
      case refine_5 => rfl
      case refine_6 => (intro w' hSw; (try dsimp only at hSw); go_simp; (try with_reducible rfl))
      simp only [Act.put, List.setIfInBounds_toArray, List.set_cons_zero, List.set_cons_succ]
      refine take_oneL (i := 68) (d := 119) (oi := ?_) (v := ?_) ?_ hsel (by kernel_rfl) (by kernel_rfl) (fun _ _ _ h => h) ?_ ?_ ?_ (by assumption) ?_
      case refine_3 => (simp only [List.getElem?_cons_succ, List.getElem?_cons_zero]; rfl)
      case refine_4 => rfl
      case refine_5 => rfl
      case refine_6 => (intro w' hSw; (try dsimp only at hSw); go_simp; (try with_reducible rfl))
      simp only [Act.put, List.setIfInBounds_toArray, List.set_cons_zero, List.set_cons_succ]
      refine take_oneL (i := 69) (d := 120) (oi := ?_) (v := ?_) ?_ hsel (by kernel_rfl) (by kernel_rfl) (fun _ _ _ h => h) ?_ ?_ ?_ (by assumption) ?_
      case refine_3 => (simp only [List.getElem?_cons_succ, List.getElem?_cons_zero]; rfl)
      case refine_4 => rfl
      case refine_5 => rfl
      case refine_6 => (intro w' hSw; (try dsimp only at hSw); go_simp; (try with_reducible rfl))
      simp only [Act.put, List.setIfInBounds_toArray, List.set_cons_zero, List.set_cons_succ]
      refine take_oneL (i := 70) (d := 121) (oi := ?_) (v := ?_) ?_ hsel (by kernel_rfl) (by kernel_rfl) (fun _ _ _ h => h) ?_ ?_ ?_ (by assumption) ?_
      case refine_3 => (simp only [List.getElem?_cons_succ, List.getElem?_cons_zero]; rfl)
      case refine_4 => rfl
      case refine_5 => rfl
      case refine_6 => (intro w' hSw; (try dsimp only at hSw); go_simp; (try with_reducible rfl))
      simp only [Act.put, List.setIfInBounds_toArray, List.set_cons_zero, List.set_cons_succ]
      refine take_oneL (i := 71) (d := 122) (oi := ?_) (v := ?_) ?_ hsel (by kernel_rfl) (by kernel_rfl) (fun _ _ _ h => h) ?_ ?_ ?_ (by assumption) ?_
      case refine_3 => (simp only [List.getElem?_cons_succ, List.getElem?_cons_zero]; rfl)
      case refine_4 => rfl
      case refine_5 => rfl
      case refine_6 => (intro w' hSw; (try dsimp only at hSw); go_simp; (try with_reducible rfl))
      simp only [Act.put, List.setIfInBounds_toArray, List.set_cons_zero, List.set_cons_succ]
      refine wpAnyL_ready (rs := [72]) (by kernel_rfl) (by kernel_rfl) (by simp) ?_
      refine AllReadyL.cons (o := ?_) ?_ (fun K hK => ?_) AllReadyL.nil
      case refine_2 => (simp only [List.getElem?_cons_succ, List.getElem?_cons_zero]; rfl)
      go_simp
      (go_at_call 28; (with_reducible refine (HCM.out _ HOZ.out).mono ?_); rintro ee w8 ⟨rfl, ho⟩; (replace HOZ := Lib.hid (on_new HOZ.out ho)); clear ho)
      go_wp2_with (fail)
      clear hHeld
      refine hK.out _ _ (KP.out _ HOZ.out) (fun hHeld => ?_)
      clear hK K
      try simp only [Act.put, List.setIfInBounds_toArray, List.set_cons_zero, List.set_cons_succ]
      refine take_oneL (i := 73) (d := 124) (oi := ?_) (v := ?_) ?_ hsel (by kernel_rfl) (by kernel_rfl) (fun _ _ _ h => h) ?_ ?_ ?_ (by assumption) ?_
      case refine_3 => (simp only [List.getElem?_cons_succ, List.getElem?_cons_zero]; rfl)
      case refine_4 => rfl
      case refine_5 => rfl
      case refine_6 => (intro w' hSw; (try dsimp only at hSw); go_simp; (try with_reducible rfl))
      simp only [Act.put, List.setIfInBounds_toArray, List.set_cons_zero, List.set_cons_succ]
      refine take_oneL (i := 74) (d := 125) (oi := ?_) (v := ?_) ?_ hsel (by kernel_rfl) (by kernel_rfl) (fun _ _ _ h => h) ?_ ?_ ?_ (by assumption) ?_
      case refine_3 => (simp only [List.getElem?_cons_succ, List.getElem?_cons_zero]; rfl)
      case refine_4 => rfl
      case refine_5 => rfl
      case refine_6 => (intro w' hSw; (try dsimp only at hSw); go_simp; (try with_reducible rfl))
      simp only [Act.put, List.setIfInBounds_toArray, List.set_cons_zero, List.set_cons_succ]
      refine take_oneL (i := 75) (d := 126) (oi := ?_) (v := ?_) ?_ hsel (by kernel_rfl) (by kernel_rfl) (fun _ _ _ h => h) ?_ ?_ ?_ (by assumption) ?_
      case refine_3 => (simp only [List.getElem?_cons_succ, List.getElem?_cons_zero]; rfl)
      case refine_4 => rfl
      case refine_5 => rfl
      case refine_6 => (intro w' hSw; (try dsimp only at hSw); go_simp; (try with_reducible rfl))
      simp only [Act.put, List.setIfInBounds_toArray, List.set_cons_zero, List.set_cons_succ]
      refine take_oneL (i := 76) (d := 127) (oi := ?_) (v := ?_) ?_ hsel (by kernel_rfl) (by kernel_rfl) (fun _ _ _ h => h) ?_ ?_ ?_ (by assumption) ?_
      case refine_3 => (simp only [List.getElem?_cons_succ, List.getElem?_cons_zero]; rfl)
      case refine_4 => rfl
      case refine_5 => rfl
      case refine_6 => (intro w' hSw; (try dsimp only at hSw); go_simp; (try with_reducible rfl))
      simp only [Act.put, List.setIfInBounds_toArray, List.set_cons_zero, List.set_cons_succ]
      refine wpAnyL_ready (rs := [77]) (by kernel_rfl) (by kernel_rfl) (by simp) ?_
      refine AllReadyL.cons (o := ?_) ?_ (fun K hK => ?_) AllReadyL.nil
      case refine_2 => (simp only [List.getElem?_cons_succ, List.getElem?_cons_zero]; rfl)
      go_simp
      (go_at_call 14; (with_reducible refine (HCF.out _ HOZ.out).mono ?_); rintro ee w9 ⟨rfl, ho⟩; (replace HOZ := Lib.hid (on_new HOZ.out ho)); clear ho)
      go_wp2_with (fail)
      clear hHeld
      refine hK.out _ _ (KP.out _ HOZ.out) (fun hHeld => ?_)
      clear hK K
      try simp only [Act.put, List.setIfInBounds_toArray, List.set_cons_zero, List.set_cons_succ]
      refine take_oneL (i := 78) (d := 129) (oi := ?_) (v := ?_) ?_ hsel (by kernel_rfl) (by kernel_rfl) (fun _ _ _ h => h) ?_ ?_ ?_ (by assumption) ?_
      case refine_3 => (simp only [List.getElem?_cons_succ, List.getElem?_cons_zero]; rfl)
      case refine_4 => rfl
      case refine_5 => rfl
      case refine_6 => (intro w' hSw; (try dsimp only at hSw); go_simp; (try with_reducible rfl))
      simp only [Act.put, List.setIfInBounds_toArray, List.set_cons_zero, List.set_cons_succ]
      refine take_oneL (i := 79) (d := 130) (oi := ?_) (v := ?_) ?_ hsel (by kernel_rfl) (by kernel_rfl) (fun _ _ _ h => h) ?_ ?_ ?_ (by assumption) ?_
      case refine_3 => (simp only [List.getElem?_cons_succ, List.getElem?_cons_zero]; rfl)
      case refine_4 => rfl
      case refine_5 => rfl
      case refine_6 => (intro w' hSw; (try dsimp only at hSw); go_simp; (try with_reducible rfl))
      simp only [Act.put, List.setIfInBounds_toArray, List.set_cons_zero, List.set_cons_succ]
      refine take_oneL (i := 80) (d := 131) (oi := ?_) (v := ?_) ?_ hsel (by kernel_rfl) (by kernel_rfl) (fun _ _ _ h => h) ?_ ?_ ?_ (by assumption) ?_
      case refine_3 => (simp only [List.getElem?_cons_succ, List.getElem?_cons_zero]; rfl)
      case refine_4 => rfl
      case refine_5 => rfl
      case refine_6 => (intro w' hSw; (try dsimp only at hSw); go_simp; (try with_reducible rfl))
      simp only [Act.put, List.setIfInBounds_toArray, List.set_cons_zero, List.set_cons_succ]
      refine take_oneL (i := 81) (d := 132) (oi := ?_) (v := ?_) ?_ hsel (by kernel_rfl) (by kernel_rfl) (fun _ _ _ h => h) ?_ ?_ ?_ (by assumption) ?_
      case refine_3 => (simp only [List.getElem?_cons_succ, List.getElem?_cons_zero]; rfl)
      case refine_4 => rfl
      case refine_5 => rfl
      case refine_6 => (intro w' hSw; (try dsimp only at hSw); go_simp; (try with_reducible rfl))
      simp only [Act.put, List.setIfInBounds_toArray, List.set_cons_zero, List.set_cons_succ]
      refine wpAnyL_ready (rs := [82]) (by kernel_rfl) (by kernel_rfl) (by simp) ?_
      refine AllReadyL.cons (o := ?_) ?_ (fun K hK => ?_) AllReadyL.nil
      case refine_2 => (simp only [List.getElem?_cons_succ, List.getElem?_cons_zero]; rfl)
      go_simp
      (go_at_call 29; (with_reducible refine (HCL.out _ HOZ.out).mono ?_); rintro ee w10 ⟨rfl, ho⟩; (replace HOZ := Lib.hid (on_new HOZ.out ho)); clear ho)
      go_wp2_with (fail)
      clear hHeld
      refine hK.out _ _ (KP.out _ HOZ.out) (fun hHeld => ?_)
      clear hK K
      try simp only [Act.put, List.setIfInBounds_toArray, List.set_cons_zero, List.set_cons_succ]
      refine take_oneL (i := 83) (d := 134) (oi := ?_) (v := ?_) ?_ hsel (by kernel_rfl) (by kernel_rfl) (fun _ _ _ h => h) ?_ ?_ ?_ (by assumption) ?_
      case refine_3 => (simp only [List.getElem?_cons_succ, List.getElem?_cons_zero]; rfl)
      case refine_4 => rfl
      case refine_5 => rfl
      case refine_6 => (intro w' hSw; (try dsimp only at hSw); go_simp; (try with_reducible rfl))
      simp only [Act.put, List.setIfInBounds_toArray, List.set_cons_zero, List.set_cons_succ]
      refine take_oneL (i := 84) (d := 135) (oi := ?_) (v := ?_) ?_ hsel (by kernel_rfl) (by kernel_rfl) (fun _ _ _ h => h) ?_ ?_ ?_ (by assumption) ?_
      case refine_3 => (simp only [List.getElem?_cons_succ, List.getElem?_cons_zero]; rfl)
      case refine_4 => rfl
      case refine_5 => rfl
      case refine_6 => (intro w' hSw; (try dsimp only at hSw); go_simp; (try with_reducible rfl))
      simp only [Act.put, List.setIfInBounds_toArray, List.set_cons_zero, List.set_cons_succ]
      refine take_oneL (i := 85) (d := 136) (oi := ?_) (v := ?_) ?_ hsel (by kernel_rfl) (by kernel_rfl) (fun _ _ _ h => h) ?_ ?_ ?_ (by assumption) ?_
      case refine_3 => (simp only [List.getElem?_cons_succ, List.getElem?_cons_zero]; rfl)
      case refine_4 => rfl
      case refine_5 => rfl
      case refine_6 => (intro w' hSw; (try dsimp only at hSw); go_simp; (try with_reducible rfl))
      simp only [Act.put, List.setIfInBounds_toArray, List.set_cons_zero, List.set_cons_succ]
      refine take_oneL (i := 86) (d := 137) (oi := ?_) (v := ?_) ?_ hsel (by kernel_rfl) (by kernel_rfl) (fun _ _ _ h => h) ?_ ?_ ?_ (by assumption) ?_
      case refine_3 => (simp only [List.getElem?_cons_succ, List.getElem?_cons_zero]; rfl)
      case refine_4 => rfl
      case refine_5 => rfl
      case refine_6 => (intro w' hSw; (try dsimp only at hSw); go_simp; (try with_reducible rfl))
      simp only [Act.put, List.setIfInBounds_toArray, List.set_cons_zero, List.set_cons_succ]
      refine take_oneL (i := 87) (d := 138) (oi := ?_) (v := ?_) ?_ hsel (by kernel_rfl) (by kernel_rfl) (fun _ _ _ h => h) ?_ ?_ ?_ (by assumption) ?_
      case refine_3 => (simp only [List.getElem?_cons_succ, List.getElem?_cons_zero]; rfl)
      case refine_4 => rfl
      case refine_5 => rfl
      case refine_6 => (intro w' hSw; (try dsimp only at hSw); go_simp; (try with_reducible rfl))
      simp only [Act.put, List.setIfInBounds_toArray, List.set_cons_zero, List.set_cons_succ]
      refine take_oneL (i := 88) (d := 139) (oi := ?_) (v := ?_) ?_ hsel (by kernel_rfl) (by kernel_rfl) (fun _ _ _ h => h) ?_ ?_ ?_ (by assumption) ?_
      case refine_3 => (simp only [List.getElem?_cons_succ, List.getElem?_cons_zero]; rfl)
      case refine_4 => rfl
      case refine_5 => rfl
      case refine_6 => (intro w' hSw; (try dsimp only at hSw); go_simp; (try with_reducible rfl))
      simp only [Act.put, List.setIfInBounds_toArray, List.set_cons_zero, List.set_cons_succ]
      refine take_oneL (i := 89) (d := 140) (oi := ?_) (v := ?_) ?_ hsel (by kernel_rfl) (by kernel_rfl) (fun _ _ _ h => h) ?_ ?_ ?_ (by assumption) ?_
      case refine_3 => (simp only [List.getElem?_cons_succ, List.getElem?_cons_zero]; rfl)
      case refine_4 => rfl
      case refine_5 => rfl
      case refine_6 => (intro w' hSw; (try dsimp only at hSw); go_simp; (try with_reducible rfl))
      simp only [Act.put, List.setIfInBounds_toArray, List.set_cons_zero, List.set_cons_succ]
      refine take_oneL (i := 90) (d := 141) (oi := ?_) (v := ?_) ?_ hsel (by kernel_rfl) (by kernel_rfl) (fun _ _ _ h => h) ?_ ?_ ?_ (by assumption) ?_
      case refine_3 => (simp only [List.getElem?_cons_succ, List.getElem?_cons_zero]; rfl)
      case refine_4 => rfl
      case refine_5 => rfl
      case refine_6 => (intro w' hSw; (try dsimp only at hSw); go_simp; (try with_reducible rfl))
      simp only [Act.put, List.setIfInBounds_toArray, List.set_cons_zero, List.set_cons_succ]
      refine take_oneL (i := 91) (d := 142) (oi := ?_) (v := ?_) ?_ hsel (by kernel_rfl) (by kernel_rfl) (fun _ _ _ h => h) ?_ ?_ ?_ (by assumption) ?_
      case refine_3 => (simp only [List.getElem?_cons_succ, List.getElem?_cons_zero]; rfl)
      case refine_4 => rfl
      case refine_5 => rfl
      case refine_6 => (intro w' hSw; (try dsimp only at hSw); go_simp; (try with_reducible rfl))
      simp only [Act.put, List.setIfInBounds_toArray, List.set_cons_zero, List.set_cons_succ]
      refine take_oneL (i := 92) (d := 143) (oi := ?_) (v := ?_) ?_ hsel (by kernel_rfl) (by kernel_rfl) (fun _ _ _ h => h) ?_ ?_ ?_ (by assumption) ?_
      case refine_3 => (simp only [List.getElem?_cons_succ, List.getElem?_cons_zero]; rfl)
      case refine_4 => rfl
      case refine_5 => rfl
      case refine_6 => (intro w' hSw; (try dsimp only at hSw); go_simp; (try with_reducible rfl))
      simp only [Act.put, List.setIfInBounds_toArray, List.set_cons_zero, List.set_cons_succ]
      refine take_oneL (i := 93) (d := 144) (oi := ?_) (v := ?_) ?_ hsel (by kernel_rfl) (by kernel_rfl) (fun _ _ _ h => h) ?_ ?_ ?_ (by assumption) ?_
      case refine_3 => (simp only [List.getElem?_cons_succ, List.getElem?_cons_zero]; rfl)
      case refine_4 => rfl
      case refine_5 => rfl
      case refine_6 => (intro w' hSw; (try dsimp only at hSw); go_simp; (try with_reducible rfl))
      simp only [Act.put, List.setIfInBounds_toArray, List.set_cons_zero, List.set_cons_succ]
      refine take_oneL (i := 94) (d := 145) (oi := ?_) (v := ?_) ?_ hsel (by kernel_rfl) (by kernel_rfl) (fun _ _ _ h => h) ?_ ?_ ?_ (by assumption) ?_
      case refine_3 => (simp only [List.getElem?_cons_succ, List.getElem?_cons_zero]; rfl)
      case refine_4 => rfl
      case refine_5 => rfl
      case refine_6 => (intro w' hSw; (try dsimp only at hSw); go_simp; (try with_reducible rfl))
      simp only [Act.put, List.setIfInBounds_toArray, List.set_cons_zero, List.set_cons_succ]
      refine take_oneL (i := 95) (d := 146) (oi := ?_) (v := ?_) ?_ hsel (by kernel_rfl) (by kernel_rfl) (fun _ _ _ h => h) ?_ ?_ ?_ (by assumption) ?_
      case refine_3 => (simp only [List.getElem?_cons_succ, List.getElem?_cons_zero]; rfl)
      case refine_4 => rfl
      case refine_5 => rfl
      case refine_6 => (intro w' hSw; (try dsimp only at hSw); go_simp; (try with_reducible rfl))
      simp only [Act.put, List.setIfInBounds_toArray, List.set_cons_zero, List.set_cons_succ]
      refine take_oneL (i := 96) (d := 147) (oi := ?_) (v := ?_) ?_ hsel (by kernel_rfl) (by kernel_rfl) (fun _ _ _ h => h) ?_ ?_ ?_ (by assumption) ?_
      case refine_3 => (simp only [List.getElem?_cons_succ, List.getElem?_cons_zero]; rfl)
      case refine_4 => rfl
      case refine_5 => rfl
      case refine_6 => (intro w' hSw; (try dsimp only at hSw); go_simp; (try with_reducible rfl))
      simp only [Act.put, List.setIfInBounds_toArray, List.set_cons_zero, List.set_cons_succ]
      refine take_oneL (i := 98) (d := 149) (oi := ?_) (v := ?_) ?_ hsel (by kernel_rfl) (by kernel_rfl) (fun _ _ _ h => h) ?_ ?_ ?_ (by assumption) ?_
      case refine_3 => (simp only [List.getElem?_cons_succ, List.getElem?_cons_zero]; rfl)
      case refine_4 => rfl
      case refine_5 => rfl
      case refine_6 => (intro w' hSw; (try dsimp only at hSw); go_simp; (try with_reducible rfl))
      simp only [Act.put, List.setIfInBounds_toArray, List.set_cons_zero, List.set_cons_succ]
      refine wpAnyL_ready (rs := [97]) (by kernel_rfl) (by kernel_rfl) (by simp) ?_
      refine AllReadyL.cons (o := ?_) ?_ (fun K hK => ?_) AllReadyL.nil
      case refine_2 => (simp only [List.getElem?_cons_succ, List.getElem?_cons_zero]; rfl)
      go_simp
      (go_at_call 15; (with_reducible refine (HCJ.out _ HOZ.out).mono ?_); rintro ee w11 ⟨JA, jn, jc, JB, jm, jd, rfl, hj, ho⟩; have HJ := Lib.hid hj; clear hj; (replace HOZ := Lib.hid (on_new HOZ.out ho)); clear ho)
      go_wp2_with (fail)
      clear hHeld
      refine hK.out _ _ (KP.out _ HOZ.out) (fun hHeld => ?_)
      clear hK K
      try simp only [Act.put, List.setIfInBounds_toArray, List.set_cons_zero, List.set_cons_succ]
      refine wpAnyL_ready (rs := [99]) (by kernel_rfl) (by kernel_rfl) (by simp) ?_
      refine AllReadyL.cons (o := ?_) ?_ (fun K hK => ?_) AllReadyL.nil
      case refine_2 => (simp only [List.getElem?_cons_succ, List.getElem?_cons_zero]; rfl)
      go_simp
      (go_at_call 16; (with_reducible refine (HCE.out _ _ _ _ _ _ _ HOZ.out HJ.out).mono ?_); rintro ee w12 ⟨rfl, ho⟩; (replace HOZ := Lib.hid (on_new HOZ.out ho)); clear ho)
      go_wp2_with (fail)
      clear hHeld
      refine hK.out _ _ (KP.out _ HOZ.out) (fun hHeld => ?_)
      clear hK K
      try simp only [Act.put, List.setIfInBounds_toArray, List.set_cons_zero, List.set_cons_succ]
      refine take_oneL (i := 100) (d := 151) (oi := ?_) (v := ?_) ?_ hsel (by kernel_rfl) (by kernel_rfl) (fun _ _ _ h => h) ?_ ?_ ?_ (by assumption) ?_
      case refine_3 => (simp only [List.getElem?_cons_succ, List.getElem?_cons_zero]; rfl)
      case refine_4 => rfl
      case refine_5 => rfl
      case refine_6 => (intro w' hSw; (try dsimp only at hSw); go_simp; (try with_reducible rfl))
      simp only [Act.put, List.setIfInBounds_toArray, List.set_cons_zero, List.set_cons_succ]
      refine take_oneL (i := 101) (d := 0) (oi := ?_) (v := ?_) ?_ hsel (by kernel_rfl) (by kernel_rfl) (fun _ _ _ h => h) ?_ ?_ ?_ (by assumption) ?_
      case refine_3 => (simp only [List.getElem?_cons_succ, List.getElem?_cons_zero]; rfl)
      case refine_4 => rfl
      case refine_5 => rfl
      case refine_6 => (intro w' hSw; (try dsimp only at hSw); go_simp; (try with_reducible rfl))
      simp only [Act.put, List.setIfInBounds_toArray, List.set_cons_zero, List.set_cons_succ]
      refine wpAnyL_done (by kernel_rfl) (by kernel_rfl) ?_ _
      clear hsel hHeld
      go_wp2
      go_ret
      exact ⟨rfl, on_new HXs.out.new HOZ.out⟩
end Go.Proofs.YtjbbljnfgpggkaaDoor
