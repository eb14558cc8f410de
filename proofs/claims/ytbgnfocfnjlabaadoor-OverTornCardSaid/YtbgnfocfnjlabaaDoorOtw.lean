/-
  OverTorn: the walk.
-/
import Derived.Test.YtbgnfocfnjlabaaDoorGf
import Derived.Test.YtbgnfocfnjlabaaDoorOal
import Derived.Test.YtbgnfocfnjlabaaDoorGb
set_option linter.unusedVariables false
namespace Go.Proofs.YtbgnfocfnjlabaaDoor
open Go.RowKit

theorem torn_dec {J : List (Int × Int) → World → Prop} {F : Nat → Prop} {ans : Int → Int → Int × Bytes} {s : List (Int × Int)} {n : Nat} {g : Int} {w w' : World} {e : Ending} (h : DecAll J F ans s 2 (n : Int) w e w') (h1 : (askP ans 2 1).1 = 0) (h2 : ((hdG (askP ans 2 1).2 : Nat) : Int) = g) (h3 : (vrOf ans 2 g n (askP ans 2 1).2).2.2 = false) : ∃ s', DecNo J F w s' 80 e w' := by
  obtain ⟨_, d2, d3⟩ := h
  by_cases hE : hdE (askP ans 2 1).2 ≠ 0 ∨ manyP (hdG (askP ans 2 1).2 : Nat) n = 0
  · exact ⟨_, d2 h1 hE⟩
  · have d := d3 h1 (by omega) (by omega)
    rw [h2, Int.toNat_natCast, h3, if_neg (by simp)] at d
    exact ⟨_, d⟩
theorem read_torn {w w8 w9 w10 : World} {N cap gq sz : Nat} {T : Bytes} {g : Int} (hG : Gens w8) (ho8 : Only (w.heap.size ≤ ·) w w8) (ho9 : Only (w8.heap.size ≤ ·) w8 w9) (hw10 : w10 = (w9.alloc (.cells #[.slice (some ⟨gq, 0, none⟩) N cap] 27)).alloc (.cells #[.pointer (some ⟨w8.heap.size, 0, none⟩)] 35))
    (hT : Blk w9 w8.heap.size 3 [.int .i64 0]) (hS : Src w9 (.slice (some ⟨gq, 0, none⟩) N cap) T) (hgq : gq < w8.heap.size) (hz9 : w9.heap.size = w8.heap.size + 1) (hl : T.length ≤ 1000000)
    (h1 : (askP (imgA T) 2 1).1 = 0) (h2 : ((hdG (askP (imgA T) 2 1).2 : Nat) : Int) = g) (h3 : (vrOf (imgA T) 2 g sz (askP (imgA T) 2 1).2).2.2 = false) :
    Calls Tryd.prog 12 #[.func (.func 30) #[] #[.pointer (some ⟨w9.heap.size + 1, 0, none⟩), .pointer (some ⟨w9.heap.size, 0, none⟩)], .int .i64 2, .int .i64 (sz : Nat)] w10 fun e w' => e = .returned (.tuple #[.int .i64 0, .slice none 0 0, .slice none 0 0, .int .i64 80]) ∧ Only (w.heap.size ≤ ·) w w' := by
  have hgb := hG.1
  have hsz : w10.heap.size = w9.heap.size + 2 := by rw [hw10]; simp
  have ho10 : Only (w9.heap.size ≤ ·) w9 w10 := by rw [hw10]; exact ((Only.refl _ w9).alloc (fun _ h => h) _).alloc (fun _ h => h) _
  have R := imgR (n₀ := w9.heap.size + 2) (tb := w8.heap.size) (pb := w9.heap.size + 1) (ib := w9.heap.size) (n := N) (c := cap) (A := some ⟨gq, 0, none⟩) (img := T) (by omega) (by omega) (by omega) (by omega) (by omega) (by omega) (by omega) hl
  have hJ := rdj_start (n₀ := w9.heap.size + 2) hT hS (fun ad e => by cases e; simp only; omega) (Nat.le_refl _)
  rw [← hw10] at hJ
  refine (ODecode_c R [] w10 2 sz hJ (by omega) (hG.later (on_new ho9 ho10)) (fun _ => by omega)).mono fun e w' h => ?_
  obtain ⟨s', he, _, ho⟩ := torn_dec h h1 h2 h3
  have hs8 := ho8.size
  refine ⟨he, (on_new ho8 (on_new ho9 ho10)).trans (ho.mono fun k hk => ?_)⟩
  rcases hk with hk | hk <;> omega
theorem turn_eq {X T L : Bytes} {x m : UInt8} {p t a bb d i r N M : Nat} (hX : X = List.replicate 512 0 ++ L) (hx : X[i]? = some x) (hI : a = 2 + p ∧ bb = a * 256 ∧ d = t / 8 ∧ i = bb + d ∧ r = t % 8 ∧ N = (M + 2) * 256) (hT : T = X.set i (x ^^^ m)) : T = turnB (List.replicate 512 0 ++ L) ((2 + p) * 256 + t / 8) m := by
  obtain ⟨rfl, rfl, rfl, rfl, _, _⟩ := hI
  rw [← hX, hT]
  unfold turnB
  rw [List.getD_eq_getElem?_getD, hx]
  rfl
def msk (r : Nat) : UInt8 := UInt8.ofNat (2 ^ r)
theorem msk_ne : ∀ r, r < 8 → msk r ≠ 0 := by decide
theorem msk_val : ∀ r : Nat, r < 8 → (2 ^ r : Int) % 256 = (((msk r).toNat : Nat) : Int) := by
  intro r h
  have : r = 0 ∨ r = 1 ∨ r = 2 ∨ r = 3 ∨ r = 4 ∨ r = 5 ∨ r = 6 ∨ r = 7 := by omega
  rcases this with rfl | rfl | rfl | rfl | rfl | rfl | rfl | rfl <;> decide
theorem xor_val (x : UInt8) (r : Nat) (h : r < 8) : bits .xor .u8 ((x.toNat : Nat) : Int) (IntKind.u8.wrap ((2 : Int) ^ r)) = (((x ^^^ msk r).toNat : Nat) : Int) := by
  rw [show IntKind.u8.wrap ((2 : Int) ^ r) = (2 : Int) ^ r % 256 from rfl]
  rw [msk_val r h, u8_xor_nat _ _ (u8_lt x) (u8_lt _), UInt8.toNat_xor]
theorem flip_nums {p t M a bb d i r N : Nat} (h7 : M ≤ 7) (hp : p < M) (ht2 : t < 2048) (ha : a = 2 + p) (hbb : bb = a * 256) (hd : d = t / 8) (hi : i = bb + d) (hr : r = t % 8) (hN : N = (M + 2) * 256) :
    IntKind.i64.wrap (2 + (p : Int)) = (a : Int) ∧ IntKind.i64.wrap ((a : Int) * 256) = (bb : Int) ∧ (t : Int) / 8 = (d : Int) ∧ IntKind.i64.wrap (d : Int) = (d : Int) ∧ IntKind.i64.wrap ((bb : Int) + (d : Int)) = (i : Int) ∧ (t : Int).tmod 8 = (r : Int) ∧ (i : Int) < (N : Int) ∧ (r : Int) < 8 ∧ (0 : Int) ≤ (r : Int) ∧ (0 : Int) ≤ (i : Int) := by
  have w64 : ∀ x : Int, 0 ≤ x → x < 1000000 → IntKind.i64.wrap x = x := fun x h0 h1 => IntWalk.i64_in _ (by omega)
  refine ⟨?_, ?_, ?_, ?_, ?_, ?_, ?_, ?_, ?_, ?_⟩
  · rw [w64 _ (by omega) (by omega)]; omega
  · rw [w64 _ (by omega) (by omega)]; omega
  · omega
  · rw [w64 _ (by omega) (by omega)]
  · rw [w64 _ (by omega) (by omega)]; omega
  · rw [Int.tmod_eq_emod_of_nonneg (by omega)]; omega
  · omega
  · omega
  · omega
  · omega
/-- Turned bytes, in the row of one's own. -/
theorem own_turn {w : World} {B g n cap i : Nat} {xs : Bytes} {v : UInt8} (h : w.ownsRow B 5 1 (.slice (some ⟨g, 0, none⟩) n cap) n (cb xs)) : ((w.setCell ⟨g, i, none⟩ (.int .u8 (v.toNat : Nat))).drew).ownsRow B 5 1 (.slice (some ⟨g, 0, none⟩) n cap) n (cb (xs.set i v)) := by
  have := (h.stored i (.int .u8 (v.toNat : Nat))).1
  rw [show (cb xs).set i (.int .u8 (v.toNat : Nat)) = cb (xs.set i v) by simp [cb]] at this
  exact this
theorem Row8.upto {w w' : World} {B : Nat} {v : Value} {xs : Bytes} (h : Row8 w B v xs) (ho : Only (w.heap.size ≤ ·) w w') : Row8 w' B v xs := ids_keep h ho fun k e => by have := (World.ownsRow.lt h k e).2; omega
/-- Zeros that were made. -/
theorem zero_row {W wz : World} {B n : Nat} {ZZ : Array Value} (hZZ : ZZ = (List.replicate n z8).toArray) (hwz : wz = W.alloc (.cells ZZ 5)) (hB : B ≤ W.heap.size) (hn : 0 < n) (hn2 : n ≤ 65536) : Row8 wz B (.slice (some ⟨W.heap.size, 0, none⟩) n n) (List.replicate n 0) ∧ Only (W.heap.size ≤ ·) W wz := by
  subst hZZ hwz
  have hc : cb (List.replicate n 0) = List.replicate n z8 := by unfold cb; rw [List.map_replicate]; rfl
  refine ⟨?_, (Only.refl _ W).alloc (fun _ h => h) _⟩
  unfold Row8
  rw [hc, List.length_replicate]
  exact ⟨by simp, .inr ⟨W.heap.size, n, (List.replicate n z8).toArray, rfl, hB, Blk.new W 5 _, Nat.le_refl _, by simp only [maxLen]; omega, by simp, by rw [Nat.mul_one, List.take_of_length_le (by simp)]⟩⟩

set_option maxRecDepth 100000 in
set_option maxHeartbeats 6400000 in
theorem torn_early (w : World) (hG : Gens w) (g p t : Int) (A : Option Addr) (n c : Nat) (hx : g < 2 ∨ manyP g n < 1 ∨ p < 0 ∨ manyP g n ≤ p ∨ t < 16 ∨ 2048 ≤ t) :
    Calls Tryd.prog 5 #[.int .i64 g, .slice A n c, .agg #[.int .i64 p, .int .i64 t]] w (Told w (.bool true)) := by
  obtain ⟨W0, hW0⟩ : ∃ W, W = w.alloc (.cells #[.int .i64 p, .int .i64 t] 42) := ⟨_, rfl⟩
  have HO : Hid (Only (w.heap.size ≤ ·) w W0) := Lib.hid (by rw [hW0]; exact (Only.refl _ w).alloc (fun _ h => h) _)
  have HB : Hid (Blk W0 w.heap.size 42 [.int .i64 p, .int .i64 t]) := Lib.hid (by rw [hW0]; exact Blk.new w 42 _)
  have HAL : Hid (∀ W, Only (w.heap.size ≤ ·) w W → Calls Tryd.prog 8 #[] W (Told W (.bool true))) := Lib.hid fun W hW => oalive_c W (hG.later hW)
  obtain ⟨q, hq⟩ : ∃ q, q = manyP g n := ⟨_, rfl⟩
  have HMY : Hid (Calls Tryd.prog 7 #[.int .i64 g, .int .i64 (n : Nat)] W0 (Told W0 (.int .i64 q))) := Lib.hid (by rw [hq]; exact OMany_c W0 g n (hG.later HO.out))
  rw [← hq] at hx
  clear hG hq
  by_cases a1 : g < 2
  · clear hx
    go_enter Tryd.func5, Tryd.ntmps5
    go_upto_region 1 with (fail)
    rw [← hW0]
    clear hW0
    have k0 := HB.out.cell 0
    have k1 := HB.out.cell 1
    simp only [List.getElem?_cons_zero, List.getElem?_cons_succ] at k0 k1
    go_wp2_with (first | (go_at_call 7; (with_reducible refine (HMY.out).mono ?_); rintro ee w2 ⟨rfl, ho⟩; have k0' := (HB.out.later ho).cell 0; have k1' := (HB.out.later ho).cell 1; simp only [List.getElem?_cons_zero, List.getElem?_cons_succ] at k0' k1'; (replace HO := Lib.hid (on_new HO.out ho)); clear ho) | (go_at_call 8; (with_reducible refine (HAL.out _ HO.out).mono ?_); rintro ee w9 ⟨rfl, ho⟩; (replace HO := Lib.hid (on_new HO.out ho)); clear ho))
    go_ret
    exact ⟨rfl, HO.out⟩
  by_cases a2 : q < 1
  · clear hx
    go_enter Tryd.func5, Tryd.ntmps5
    go_upto_region 1 with (fail)
    rw [← hW0]
    clear hW0
    have k0 := HB.out.cell 0
    have k1 := HB.out.cell 1
    simp only [List.getElem?_cons_zero, List.getElem?_cons_succ] at k0 k1
    go_wp2_with (first | (go_at_call 7; (with_reducible refine (HMY.out).mono ?_); rintro ee w2 ⟨rfl, ho⟩; have k0' := (HB.out.later ho).cell 0; have k1' := (HB.out.later ho).cell 1; simp only [List.getElem?_cons_zero, List.getElem?_cons_succ] at k0' k1'; (replace HO := Lib.hid (on_new HO.out ho)); clear ho) | (go_at_call 8; (with_reducible refine (HAL.out _ HO.out).mono ?_); rintro ee w9 ⟨rfl, ho⟩; (replace HO := Lib.hid (on_new HO.out ho)); clear ho))
    go_ret
    exact ⟨rfl, HO.out⟩
  by_cases a3 : p < 0
  · clear hx
    go_enter Tryd.func5, Tryd.ntmps5
    go_upto_region 1 with (fail)
    rw [← hW0]
    clear hW0
    have k0 := HB.out.cell 0
    have k1 := HB.out.cell 1
    simp only [List.getElem?_cons_zero, List.getElem?_cons_succ] at k0 k1
    go_wp2_with (first | (go_at_call 7; (with_reducible refine (HMY.out).mono ?_); rintro ee w2 ⟨rfl, ho⟩; have k0' := (HB.out.later ho).cell 0; have k1' := (HB.out.later ho).cell 1; simp only [List.getElem?_cons_zero, List.getElem?_cons_succ] at k0' k1'; (replace HO := Lib.hid (on_new HO.out ho)); clear ho) | (go_at_call 8; (with_reducible refine (HAL.out _ HO.out).mono ?_); rintro ee w9 ⟨rfl, ho⟩; (replace HO := Lib.hid (on_new HO.out ho)); clear ho))
    go_ret
    exact ⟨rfl, HO.out⟩
  by_cases a4 : q ≤ p
  · clear hx
    go_enter Tryd.func5, Tryd.ntmps5
    go_upto_region 1 with (fail)
    rw [← hW0]
    clear hW0
    have k0 := HB.out.cell 0
    have k1 := HB.out.cell 1
    simp only [List.getElem?_cons_zero, List.getElem?_cons_succ] at k0 k1
    go_wp2_with (first | (go_at_call 7; (with_reducible refine (HMY.out).mono ?_); rintro ee w2 ⟨rfl, ho⟩; have k0' := (HB.out.later ho).cell 0; have k1' := (HB.out.later ho).cell 1; simp only [List.getElem?_cons_zero, List.getElem?_cons_succ] at k0' k1'; (replace HO := Lib.hid (on_new HO.out ho)); clear ho) | (go_at_call 8; (with_reducible refine (HAL.out _ HO.out).mono ?_); rintro ee w9 ⟨rfl, ho⟩; (replace HO := Lib.hid (on_new HO.out ho)); clear ho))
    go_ret
    exact ⟨rfl, HO.out⟩
  by_cases a5 : t < 16
  · clear hx
    go_enter Tryd.func5, Tryd.ntmps5
    go_upto_region 1 with (fail)
    rw [← hW0]
    clear hW0
    have k0 := HB.out.cell 0
    have k1 := HB.out.cell 1
    simp only [List.getElem?_cons_zero, List.getElem?_cons_succ] at k0 k1
    go_wp2_with (first | (go_at_call 7; (with_reducible refine (HMY.out).mono ?_); rintro ee w2 ⟨rfl, ho⟩; have k0' := (HB.out.later ho).cell 0; have k1' := (HB.out.later ho).cell 1; simp only [List.getElem?_cons_zero, List.getElem?_cons_succ] at k0' k1'; (replace HO := Lib.hid (on_new HO.out ho)); clear ho) | (go_at_call 8; (with_reducible refine (HAL.out _ HO.out).mono ?_); rintro ee w9 ⟨rfl, ho⟩; (replace HO := Lib.hid (on_new HO.out ho)); clear ho))
    go_ret
    exact ⟨rfl, HO.out⟩
  have a6 : 2048 ≤ t := by omega
  clear hx
  go_enter Tryd.func5, Tryd.ntmps5
  go_upto_region 1 with (fail)
  rw [← hW0]
  clear hW0
  have k0 := HB.out.cell 0
  have k1 := HB.out.cell 1
  simp only [List.getElem?_cons_zero, List.getElem?_cons_succ] at k0 k1
  go_wp2_with (first | (go_at_call 7; (with_reducible refine (HMY.out).mono ?_); rintro ee w2 ⟨rfl, ho⟩; have k0' := (HB.out.later ho).cell 0; have k1' := (HB.out.later ho).cell 1; simp only [List.getElem?_cons_zero, List.getElem?_cons_succ] at k0' k1'; (replace HO := Lib.hid (on_new HO.out ho)); clear ho) | (go_at_call 8; (with_reducible refine (HAL.out _ HO.out).mono ?_); rintro ee w9 ⟨rfl, ho⟩; (replace HO := Lib.hid (on_new HO.out ho)); clear ho))
  go_ret
  exact ⟨rfl, HO.out⟩
set_option maxRecDepth 100000 in
set_option maxHeartbeats 6400000 in
theorem torn_main (w : World) (hG : Gens w) (g : Int) (p t M : Nat) (A : Option Addr) (n c : Nat) (v : Bytes) (hv : Src w (.slice A n c) v) (h2 : 2 ≤ g) (hM : manyP g n = (M : Int)) (h1 : 1 ≤ M) (hp : p < M) (ht : 16 ≤ t) (ht2 : t < 2048) :
    Calls Tryd.prog 5 #[.int .i64 g, .slice A n c, .agg #[.int .i64 (p : Nat), .int .i64 (t : Nat)]] w (Told w (.bool true)) := by
  obtain ⟨W0, hW0⟩ : ∃ W, W = w.alloc (.cells #[.int .i64 (p : Nat), .int .i64 (t : Nat)] 42) := ⟨_, rfl⟩
  have HO : Hid (Only (w.heap.size ≤ ·) w W0) := Lib.hid (by rw [hW0]; exact (Only.refl _ w).alloc (fun _ h => h) _)
  have HB : Hid (Blk W0 w.heap.size 42 [.int .i64 (p : Nat), .int .i64 (t : Nat)]) := Lib.hid (by rw [hW0]; exact Blk.new w 42 _)
  have HAL : Hid (∀ W, Only (w.heap.size ≤ ·) w W → Calls Tryd.prog 8 #[] W (Told W (.bool true))) := Lib.hid fun W hW => oalive_c W (hG.later hW)
  have HMY : Hid (Calls Tryd.prog 7 #[.int .i64 g, .int .i64 (n : Nat)] W0 (Told W0 (.int .i64 (M : Nat)))) := Lib.hid (by rw [← hM]; exact OMany_c W0 g n (hG.later HO.out))
  have hnv : n = v.length := by
    obtain ⟨A', c', e, _⟩ := hv
    simp only [Value.slice.injEq] at e
    exact e.2.1
  have hgs : g = 2 ∨ g = 3 := by
    have : g = 1 ∨ g = 2 ∨ g = 3 := manyP_gen fun hm => by rw [manyP_no hm] at hM; omega
    omega
  have h7 := manyP_7 hM
  have HOK : Hid (encOk g n (idsX 2 M) = true) := Lib.hid (encOk_ids hM h1 (by omega) (by omega))
  have HEN : Hid (∀ W UA uc, Only (w.heap.size ≤ ·) w W → Ints W (.slice UA M uc) (idsX 2 M) → Calls Tryd.prog 17 #[.int .i64 g, .slice A n c, .slice UA M uc] W fun e w' => ∃ r, e = .returned (.tuple #[r, .int .i64 0]) ∧ Pgs W.heap.size w' r (encB g v (idsX 2 M)) ∧ Only (W.heap.size ≤ ·) W w') := Lib.hid fun W UA uc hW hu => OEncode_all (hG.later hW) (hv.later hW) hu HOK.out
  have HPG : Hid (∀ x ∈ encB g v (idsX 2 M), x.length = 256) := Lib.hid (encB_page (by rw [← hnv]; exact HOK.out))
  have HPL : Hid ((encB g v (idsX 2 M)).length = M) := Lib.hid (by rw [encB_len, idsX_len])
  have HFL : Hid ((encB g v (idsX 2 M)).flatten.length = M * 256) := Lib.hid (by rw [pgs_flat HPG.out, HPL.out])
  have HTP := Lib.hid (fun (img : Bytes) (y : UInt8) (hy : y ≠ 0) himg => torn_plain (img := img) hgs (by rw [← hnv]; exact hM) h1 hp ht ht2 hy himg)
  have HMM := Lib.hid hM
  obtain ⟨ZZ, hZZ⟩ : ∃ ZZ, ZZ = (List.replicate 512 z8).toArray := ⟨_, rfl⟩
  have hmk : ∀ W : World, (Instr.makeSlice 27 (.int .i64 512) (.int .i64 512)).run Tryd.prog W = .ok (.slice (some ⟨W.heap.size, 0, none⟩) 512 512) (W.alloc (.cells ZZ 5)) := fun W => by rw [hZZ]; exact run_make8 512 (by omega) W
  have HZZ := Lib.hid hZZ
  clear hZZ
  have HNV := Lib.hid hnv
  have HG := Lib.hid hG
  obtain ⟨L, hL⟩ : ∃ L, L = encB g v (idsX 2 M) := ⟨_, rfl⟩
  rw [← hL] at HEN HPG HPL HFL HTP
  obtain ⟨iN, hiN, hiN0, hiN1, hiN2⟩ := info_parts info_N
  have HIN := Lib.hid (And.intro hiN (And.intro hiN0 (And.intro hiN1 hiN2)))
  have a1 : ¬ g < 2 := by omega
  have a2 : ¬ (M : Int) < 1 := by omega
  have a3 : ¬ (p : Int) < 0 := by omega
  have a4 : ¬ (M : Int) ≤ (p : Int) := by omega
  have a5 : ¬ (t : Int) < 16 := by omega
  have a6 : ¬ (2048 : Int) ≤ (t : Int) := by omega
  have HNA := Lib.hid (And.intro a1 (And.intro a2 (And.intro a3 (And.intro a4 (And.intro a5 a6)))))
  have HNUM := Lib.hid (And.intro h7 (And.intro h1 (And.intro hp (And.intro ht ht2))))
  clear hL hiN hiN0 hiN1 hiN2 hG hv hM hgs h2 h1 hp ht ht2 hnv h7
  go_enter Tryd.func5, Tryd.ntmps5
  go_upto_region 1 with (fail)
  rw [← hW0]
  clear hW0
  have k0 := HB.out.cell 0
  have k1 := HB.out.cell 1
  simp only [List.getElem?_cons_zero, List.getElem?_cons_succ] at k0 k1
  go_wp2_with (go_at_call 7; (with_reducible refine (HMY.out).mono ?_); rintro ee w2 ⟨rfl, ho⟩; have HBa := Lib.hid (HB.out.later ho); have k0' := HBa.out.cell 0; have k1' := HBa.out.cell 1; simp only [List.getElem?_cons_zero, List.getElem?_cons_succ] at k0' k1'; (replace HO := Lib.hid (on_new HO.out ho)); clear ho)
  rename_i hz1 hz2 K1 a0
  clear hz1 hz2 HNA k0 k1 k0' k1' a1 a2 a3 a4 a5 a6 HB HMY
  go_loopw [8, 51] (fun q i wr => ∃ (k : Nat) (IA : Option Addr) (ic : Nat), q = .slice IA k ic ∧ i = .int .i64 k ∧ k ≤ M ∧ Hid (wr.ownsRow (w.heap.size + 1) 3 1 (.slice IA k ic) k (ci (idsX 2 k))) ∧ Hid (Blk wr w.heap.size 42 [.int .i64 (p : Nat), .int .i64 (t : Nat)]) ∧ Hid (Only (w.heap.size ≤ ·) w wr)) (fun _ i _ => M - (intOf i).toNat)
  case atStart => exact ⟨0, none, 0, rfl, rfl, Nat.zero_le _, Lib.hid (World.ownsRow_nil _ _ _ _), HBa, HO⟩
  case round =>
    obtain ⟨k, IA, ic, rfl, rfl, hkM, HIO, HBX, HOT⟩ := hrel
    clear HBa HO
    by_cases hlt : k < M
    · have hti : (k : Int) < (M : Int) := by omega
      have HSC := Lib.hid (idsX_succ 2 k)
      have HSZ : Hid (w.heap.size + 1 ≤ wr.heap.size) := Lib.hid HBX.out.lt
      have h7 := HNUM.out.1
      go_wp2_with (at_builtin; refine wpList_append_own _ rfl (.tmp 54) (.tmp 57) 28 rfl (w.heap.size + 1) 3 iN zN0 1 8 Tryd.underlying28 HIN.out.1 HIN.out.2.1 HIN.out.2.2.1 HIN.out.2.2.2 (by rfl) (by omega) _ _ _ rfl (HIO.out.alloc _) ⟨wr.heap.size, 0, none⟩ 1 1 [.int .i64 (2 + (k : Int))] rfl (by rfl) (one_cell wr 3 _) (by simp [Value.oneCell']) (by simp only [maxLen]; omega) (by omega) (by have := HSZ.out; simp; omega) ?_; intro v' w' ho' hg' _; obtain ⟨g', c', rfl⟩ := ownsRow_succ ho'; have HIO' := Lib.hid ho'; have HGR := Lib.hid hg'; clear ho' hg')
      go_roundw
      case rel =>
        refine ⟨k + 1, _, _, rfl, by go_num, by omega, ?_, ?_, ?_⟩
        · rw [HSC.out]
          refine Lib.hid ?_
          have := HIO'.out
          unfold ci at this ⊢
          rw [List.map_append]
          exact this
        · exact Lib.hid ((HGR.out.block w.heap.size (by have := HBX.out.lt; simp; omega) (fun e => by have := (World.ownsRow.lt HIO.out _ e.symm).1; omega)).trans (HBX.out.alloc _))
        · exact Lib.hid ((HOT.out.alloc (fun _ h => h) _).grown HGR.out (fun _ h => h) (fun k hk => Nat.le_of_succ_le (World.ownsRow.lt HIO.out k hk).1))
      case measure => (simp [intOf] <;> omega)
    · obtain rfl : M = k := by omega
      clear hlt hkM
      go_upto_region 13 with (go_at_call 17; (with_reducible refine (HEN.out wr _ _ HOT.out (Ints.own HIO.out)).mono ?_); rintro ee we ⟨r, rfl, hr, ho⟩; obtain ⟨RA, rc, C, rfl, _⟩ := pgs_form hr; have HR := Lib.hid (pgs_rw hr); have HRL := HPL.out; rw [HRL] at HR ⊢; clear HRL hr; have HBe := Lib.hid (HBX.out.later ho); have HOe := Lib.hid (on_new HOT.out ho); clear ho)
      refine wp_region_list (B := [false, false, false, false, false]) (S := (fun _ => True)) (by kernel_rfl) (by kernel_rfl) (by kernel_rfl) trivial (fun hsel hHeld => ?_)
      refine oneA 1 76 hsel (h := ?_)
      simp only [Act.put, List.setIfInBounds_toArray, List.set_cons_zero, List.set_cons_succ]
      refine wpAnyL_ready (rs := [0, 2]) (by kernel_rfl) (by kernel_rfl) (by simp) ?_
      refine AllReadyL.cons (o := ?_) ?_ (fun K hK => ?_) (AllReadyL.cons (o := ?_) ?_ (fun K hK => ?_) AllReadyL.nil)
      case refine_2 => (simp only [List.getElem?_cons_zero]; rfl)
      case refine_5 => (simp only [List.getElem?_cons_succ, List.getElem?_cons_zero]; rfl)
      case refine_3 =>
        go_simp
        obtain ⟨wz, hwz⟩ : ∃ W, W = (we.alloc (.cells ZZ 5)).drew := ⟨_, rfl⟩
        obtain ⟨hz, hoz⟩ := zero_row (W := we) HZZ.out rfl (B := w.heap.size + 1) HBe.out.lt (by omega : 0 < 512) (by omega)
        have HZ : Hid (Row8 wz (w.heap.size + 1) (.slice (some ⟨we.heap.size, 0, none⟩) 512 512) (List.replicate 512 0)) := Lib.hid (by rw [hwz]; exact hz)
        have HOz : Hid (Only (we.heap.size ≤ ·) we wz) := Lib.hid (by rw [hwz]; exact hoz.drew)
        rw [← hwz]
        clear hwz hz hoz
        clear hHeld
        refine hK.out _ _ trivial (fun hHeld => ?_)
        clear hK K
        try simp only [List.set_cons_zero]
        refine wpAnyL_ready (rs := [2]) (by kernel_rfl) (by kernel_rfl) (by simp) ?_
        refine AllReadyL.cons (o := ?_) ?_ (fun K hK => ?_) AllReadyL.nil
        case refine_2 => (simp only [List.getElem?_cons_succ, List.getElem?_cons_zero]; rfl)
        go_simp
        (go_at_call 18; (with_reducible refine (join_c (HR.out.later HOz.out) (by rw [HPL.out]; exact HNUM.out.2.1) HPG.out (by have := HNUM.out.1; rw [HPL.out]; omega)).mono ?_); rintro ee wx ⟨ad, cj, rfl, hj, ho⟩; have hfl := HFL.out; rw [hfl] at hj ⊢; clear hfl; have HJ := Lib.hid hj; have HOx := Lib.hid (on_new HOz.out ho); replace HZ := Lib.hid (HZ.out.upto ho); clear hj ho)
        go_wp2_with (fail)
        clear hHeld
        refine hK.out _ _ trivial (fun hHeld => ?_)
        clear hK K
        try simp only [List.set_cons_zero, List.set_cons_succ]
        refine wpAnyL_ready (rs := [3]) (by kernel_rfl) (by kernel_rfl) (by simp) ?_
        refine AllReadyL.cons (o := ?_) ?_ (fun K hK => ?_) AllReadyL.nil
        case refine_2 => (simp only [List.getElem?_cons_succ, List.getElem?_cons_zero]; rfl)
        rw [if_pos (by kernel_rfl)]
        refine wp_bytes (.tmp 75) (.tmp 77) rfl (w.heap.size + 1) (.slice (some ⟨we.heap.size, 0, none⟩) 512 512) (.slice (some ad) (M * 256) cj) (List.replicate 512 0) L.flatten rfl HZ.out rfl HJ.out (by rw [List.length_replicate, HFL.out]; have := HNUM.out.1; omega) (Nat.le_trans HBe.out.lt HOx.out.size) (fun _ _ _ e => by cases e; simp) ?_
        intro v' w7 ho' hg' _
        have HV := Lib.hid ho'
        have HB7 : Hid (Blk w7 w.heap.size 42 [.int .i64 (p : Nat), .int .i64 (t : Nat)]) := Lib.hid (hg'.block w.heap.size (Nat.lt_of_lt_of_le HBe.out.lt HOx.out.size) (fun e => by have := (World.ownsRow.lt HZ.out _ e.symm).1; omega) |>.trans (HBe.out.later HOx.out))
        have HO7 : Hid (Only (w.heap.size ≤ ·) w w7) := Lib.hid ((on_new HOe.out HOx.out).grown hg' (fun _ h => h) (fun k hk => Nat.le_of_succ_le (World.ownsRow.lt HZ.out k hk).1))
        clear ho' hg'
        clear hHeld
        refine hK.out _ _ trivial (fun hHeld => ?_)
        clear hK K
        try simp only [Act.put, List.setIfInBounds_toArray, List.set_cons_zero, List.set_cons_succ]
        refine oneA 4 12 hsel (h := ?_)
        simp only [Act.put, List.setIfInBounds_toArray, List.set_cons_zero, List.set_cons_succ]
        refine wpAnyL_done (by kernel_rfl) (by kernel_rfl) ?_ _
        clear hsel hHeld
        go_upto_region 14 with (fail)
        obtain ⟨X, hX⟩ : ∃ X : Bytes, X = List.replicate 512 0 ++ L.flatten := ⟨_, rfl⟩
        rw [← hX] at HV
        obtain ⟨h7, h1, hp, ht, ht2⟩ := HNUM.out
        obtain ⟨N, hN⟩ : ∃ N, N = (M + 2) * 256 := ⟨_, rfl⟩
        have hXL : X.length = N := by rw [hX, List.length_append, List.length_replicate, HFL.out]; omega
        have hVn : w7.ownsRow (w.heap.size + 1) 5 1 v' N (cb X) := by have h3 := HV.out; unfold Row8 at h3; rwa [hXL] at h3
        obtain ⟨gq, cap, rfl, hbg, hgl⟩ := hVn.form (by omega)
        obtain ⟨a, ha⟩ : ∃ a, a = 2 + p := ⟨_, rfl⟩
        obtain ⟨bb, hbb⟩ : ∃ b, b = a * 256 := ⟨_, rfl⟩
        obtain ⟨d, hd⟩ : ∃ d, d = t / 8 := ⟨_, rfl⟩
        obtain ⟨i, hi⟩ : ∃ i, i = bb + d := ⟨_, rfl⟩
        obtain ⟨r, hr⟩ : ∃ r, r = t % 8 := ⟨_, rfl⟩
        have hiN : i < N := by omega
        obtain ⟨x, hx⟩ : ∃ x, X[i]? = some x := ⟨_, List.getElem?_eq_getElem (by rw [hXL]; exact hiN)⟩
        have hc1 : w7.cell? ⟨gq, i, none⟩ = some (.int .u8 (x.toNat : Nat)) := by
          rw [hVn.cellAt i (by omega)]
          simp [cb, hx]
        have hf1 := hVn.frozenAt i
        have k0 := HB7.out.cell 0
        have k1 := HB7.out.cell 1
        simp only [List.getElem?_cons_zero, List.getElem?_cons_succ] at k0 k1
        obtain ⟨q1, q2, q3, q4, q5, q6, q7, q8, q9, q10⟩ := flip_nums h7 hp ht2 ha hbb hd hi hr hN
        have HVN := Lib.hid hVn
        have HK8 : Hid (∀ u, (w7.setCell ⟨gq, i, none⟩ u).drew.cell? ⟨w.heap.size, 0, none⟩ = some (.int .i64 (p : Nat)) ∧ (w7.setCell ⟨gq, i, none⟩ u).drew.cell? ⟨w.heap.size, 1, none⟩ = some (.int .i64 (t : Nat))) := Lib.hid fun u => by
          have h8 := HB7.out.only (((Only.refl (· = gq) w7).setCell (p := ⟨gq, i, none⟩) rfl u).drew) (show ¬ w.heap.size = gq by omega)
          exact ⟨h8.cell 0, h8.cell 1⟩
        have HI := Lib.hid (And.intro ha (And.intro hbb (And.intro hd (And.intro hi (And.intro hr hN)))))
        have HX := Lib.hid hX
        have HXV := Lib.hid hx
        have HXL := Lib.hid hXL
        have HBG := Lib.hid (And.intro hbg hgl)
        have HR8 : Hid (r < 8) := Lib.hid (by omega)
        clear hVn ha hbb hd hi hr hN hX hx hXL hbg hgl h7 h1 hp ht ht2 hiN HV
        refine wp_region_list (B := [false, false, false, false, false, false, false, false, false, false, false, false, false, false, false, false, false, false]) (S := (fun W => W.cell? ⟨w.heap.size, 0, none⟩ = some (.int .i64 (p : Nat)) ∧ W.cell? ⟨w.heap.size, 1, none⟩ = some (.int .i64 (t : Nat)))) (by kernel_rfl) (by kernel_rfl) (by kernel_rfl) ⟨k0, k1⟩ (fun hsel hHeld => ?_)
        refine oneA 0 79 hsel (h := ?_)
        simp only [Act.put, List.setIfInBounds_toArray, List.set_cons_zero, List.set_cons_succ]
        refine oneA 1 80 hsel (h := ?_)
        simp only [Act.put, List.setIfInBounds_toArray, List.set_cons_zero, List.set_cons_succ]
        refine oneA 2 81 hsel (h := ?_)
        simp only [Act.put, List.setIfInBounds_toArray, List.set_cons_zero, List.set_cons_succ]
        refine oneA 3 82 hsel (h := ?_)
        simp only [Act.put, List.setIfInBounds_toArray, List.set_cons_zero, List.set_cons_succ]
        refine oneA 4 83 hsel (h := ?_)
        simp only [Act.put, List.setIfInBounds_toArray, List.set_cons_zero, List.set_cons_succ]
        refine oneA 5 84 hsel (h := ?_)
        simp only [Act.put, List.setIfInBounds_toArray, List.set_cons_zero, List.set_cons_succ]
        refine oneA 6 85 hsel (h := ?_)
        simp only [Act.put, List.setIfInBounds_toArray, List.set_cons_zero, List.set_cons_succ]
        refine oneA 7 86 hsel (h := ?_)
        simp only [Act.put, List.setIfInBounds_toArray, List.set_cons_zero, List.set_cons_succ]
        refine oneA 8 87 hsel (h := ?_)
        simp only [Act.put, List.setIfInBounds_toArray, List.set_cons_zero, List.set_cons_succ]
        refine oneA 9 88 hsel (h := ?_)
        simp only [Act.put, List.setIfInBounds_toArray, List.set_cons_zero, List.set_cons_succ]
        refine oneA 11 90 hsel (h := ?_)
        simp only [Act.put, List.setIfInBounds_toArray, List.set_cons_zero, List.set_cons_succ]
        refine oneA 12 91 hsel (h := ?_)
        simp only [Act.put, List.setIfInBounds_toArray, List.set_cons_zero, List.set_cons_succ]
        refine oneA 13 92 hsel (h := ?_)
        simp only [Act.put, List.setIfInBounds_toArray, List.set_cons_zero, List.set_cons_succ]
        refine oneA 14 93 hsel (h := ?_)
        simp only [Act.put, List.setIfInBounds_toArray, List.set_cons_zero, List.set_cons_succ]
        refine wpAnyL_ready (rs := [10]) (by kernel_rfl) (by kernel_rfl) (by simp) ?_
        refine AllReadyL.cons (o := ?_) ?_ (fun K hK => ?_) AllReadyL.nil
        case refine_2 => (simp only [List.getElem?_cons_succ, List.getElem?_cons_zero]; rfl)
        go_simp
        clear hHeld
        refine hK.out _ _ ⟨k0, k1⟩ (fun hHeld => ?_)
        clear hK K
        try simp only [List.set_cons_zero, List.set_cons_succ]
        refine oneA 15 94 hsel (h := ?_)
        simp only [Act.put, List.setIfInBounds_toArray, List.set_cons_zero, List.set_cons_succ]
        refine oneA 16 95 hsel (h := ?_)
        simp only [Act.put, List.setIfInBounds_toArray, List.set_cons_zero, List.set_cons_succ]
        refine wpAnyL_ready (rs := [17]) (by kernel_rfl) (by kernel_rfl) (by simp) ?_
        refine AllReadyL.cons (o := ?_) ?_ (fun K hK => ?_) AllReadyL.nil
        case refine_2 => (simp only [List.getElem?_cons_succ, List.getElem?_cons_zero]; rfl)
        go_simp
        clear hHeld
        refine hK.out _ _ (HK8.out _) (fun hHeld => ?_)
        clear hK K
        try simp only [List.set_cons_zero, List.set_cons_succ]
        refine wpAnyL_done (by kernel_rfl) (by kernel_rfl) ?_ _
        clear hsel hHeld
        rw [xor_val x r HR8.out]
        obtain ⟨w8, hw8⟩ : ∃ W, W = (w7.setCell ⟨gq, i, none⟩ (.int .u8 ((x ^^^ msk r).toNat : Nat))).drew := ⟨_, rfl⟩
        obtain ⟨T, hT⟩ : ∃ T, T = X.set i (x ^^^ msk r) := ⟨_, rfl⟩
        have HO8 : Hid (Only (w.heap.size ≤ ·) w w8) := Lib.hid (by rw [hw8]; exact (HO7.out.setCell (p := ⟨gq, i, none⟩) (Nat.le_of_succ_le HBG.out.1) _).drew)
        have HT8 : Hid (Row8 w8 (w.heap.size + 1) (.slice (some ⟨gq, 0, none⟩) N cap) T) := Lib.hid (by
          rw [hw8, hT]
          have h8 := own_turn (i := i) (v := x ^^^ msk r) HVN.out
          unfold Row8
          rw [List.length_set, HXL.out]
          exact h8)
        have HTT : Hid (T = turnB (List.replicate 512 0 ++ L.flatten) ((2 + p) * 256 + t / 8) (msk r)) := Lib.hid (turn_eq HX.out HXV.out HI.out hT)
        rw [← hw8]
        clear hw8 hT k0 k1 hc1 hf1 q1 q2 q3 q4 q5 q6 q7 q8 q9 q10 HK8 HXV HVN HBe HOe
        go_upto_region 16 with (fail)
        obtain ⟨w9, hw9⟩ : ∃ W, W = w8.alloc (.cells #[.int .i64 0] 3) := ⟨_, rfl⟩
        have HT9 : Hid (Blk w9 w8.heap.size 3 [.int .i64 0]) := Lib.hid (by rw [hw9]; exact Blk.new w8 3 _)
        have HZ9 : Hid (w9.heap.size = w8.heap.size + 1) := Lib.hid (by rw [hw9]; simp)
        have HO9 : Hid (Only (w8.heap.size ≤ ·) w8 w9) := Lib.hid (by rw [hw9]; exact (Only.refl _ w8).alloc (fun _ h => h) _)
        have HGQ : Hid (gq < w8.heap.size) := Lib.hid (World.ownsRow.lt HT8.out gq rfl).2
        rw [← hw9]
        clear hw9
        have HRT : Hid (∀ w10, w10 = (w9.alloc (.cells #[.slice (some ⟨gq, 0, none⟩) N cap] 27)).alloc (.cells #[.pointer (some ⟨w8.heap.size, 0, none⟩)] 35) → Calls Tryd.prog 12 #[.func (.func 30) #[] #[.pointer (some ⟨w9.heap.size + 1, 0, none⟩), .pointer (some ⟨w9.heap.size, 0, none⟩)], .int .i64 2, .int .i64 (n : Nat)] w10 fun e w' => e = .returned (.tuple #[.int .i64 0, .slice none 0 0, .slice none 0 0, .int .i64 80]) ∧ Only (w.heap.size ≤ ·) w w') := Lib.hid fun w10 hw10 => by
          obtain ⟨h1, h2, h3, h4⟩ := HTP.out T (msk r) (msk_ne r HR8.out) HTT.out
          rw [← HNV.out] at h4
          have hGw := HG.out
          have hs8 := HO8.out.size
          exact read_torn (HG.out.later HO8.out) HO8.out HO9.out hw10 HT9.out (HT8.out.src.later HO9.out) HGQ.out HZ9.out (by rw [h1]; have := HNUM.out.1; omega) h2 h3 h4
        go_wp2_with (first
          | (go_at_call 13; (with_reducible refine (Oreader_c w9 (some ⟨gq, 0, none⟩) N cap w8.heap.size).mono ?_); rintro ee w10 ⟨rfl, hw10⟩; have HW10 := Lib.hid hw10; clear hw10)
          | (go_at_call 12; (with_reducible refine (HRT.out w10 HW10.out).mono ?_); rintro ee w11 ⟨rfl, ho⟩; have HO11 := Lib.hid ho; clear ho)
          | (go_at_call 8; (with_reducible refine (HAL.out _ HO11.out).mono ?_); rintro ee w12 ⟨rfl, ho⟩; (replace HO11 := Lib.hid (on_new HO11.out ho)); clear ho))
        go_ret
        exact ⟨rfl, HO11.out⟩
      case refine_6 =>
        go_simp
        (go_at_call 18; (with_reducible refine (join_c (HR.out.later (Only.refl _ we).drew) (by rw [HPL.out]; exact HNUM.out.2.1) HPG.out (by have := HNUM.out.1; rw [HPL.out]; omega)).mono ?_); rintro ee wj ⟨ad, cj, rfl, hj, ho⟩; have hfl := HFL.out; rw [hfl] at hj ⊢; clear hfl; have HJ := Lib.hid hj; have HOj : Hid (Only (we.heap.size ≤ ·) we wj) := Lib.hid ((Only.refl _ we).drew.trans ho); clear hj ho)
        go_wp2_with (fail)
        clear hHeld
        refine hK.out _ _ trivial (fun hHeld => ?_)
        clear hK K
        try simp only [List.set_cons_zero, List.set_cons_succ]
        refine wpAnyL_ready (rs := [0]) (by kernel_rfl) (by kernel_rfl) (by simp) ?_
        refine AllReadyL.cons (o := ?_) ?_ (fun K hK => ?_) AllReadyL.nil
        case refine_2 => (simp only [List.getElem?_cons_zero]; rfl)
        go_simp
        obtain ⟨wz, hwz⟩ : ∃ W, W = wj.alloc (.cells ZZ 5) := ⟨_, rfl⟩
        obtain ⟨hz, hoz⟩ := zero_row HZZ.out hwz (B := w.heap.size + 1) (Nat.le_trans HBe.out.lt HOj.out.size) (by omega : 0 < 512) (by omega)
        have HZ := Lib.hid hz
        have HOx : Hid (Only (we.heap.size ≤ ·) we wz) := Lib.hid (on_new HOj.out hoz)
        replace HJ := Lib.hid (HJ.out.later hoz)
        rw [← hwz]
        clear hwz hz hoz
        clear hHeld
        refine hK.out _ _ trivial (fun hHeld => ?_)
        clear hK K
        try simp only [List.set_cons_zero]
        refine wpAnyL_ready (rs := [3]) (by kernel_rfl) (by kernel_rfl) (by simp) ?_
        refine AllReadyL.cons (o := ?_) ?_ (fun K hK => ?_) AllReadyL.nil
        case refine_2 => (simp only [List.getElem?_cons_succ, List.getElem?_cons_zero]; rfl)
        rw [if_pos (by kernel_rfl)]
        refine wp_bytes (.tmp 75) (.tmp 77) rfl (w.heap.size + 1) (.slice (some ⟨wj.heap.size, 0, none⟩) 512 512) (.slice (some ad) (M * 256) cj) (List.replicate 512 0) L.flatten rfl HZ.out rfl HJ.out (by rw [List.length_replicate, HFL.out]; have := HNUM.out.1; omega) (Nat.le_trans HBe.out.lt HOx.out.size) (fun _ _ _ e => by cases e; simp) ?_
        intro v' w7 ho' hg' _
        have HV := Lib.hid ho'
        have HB7 : Hid (Blk w7 w.heap.size 42 [.int .i64 (p : Nat), .int .i64 (t : Nat)]) := Lib.hid (hg'.block w.heap.size (Nat.lt_of_lt_of_le HBe.out.lt HOx.out.size) (fun e => by have := (World.ownsRow.lt HZ.out _ e.symm).1; omega) |>.trans (HBe.out.later HOx.out))
        have HO7 : Hid (Only (w.heap.size ≤ ·) w w7) := Lib.hid ((on_new HOe.out HOx.out).grown hg' (fun _ h => h) (fun k hk => Nat.le_of_succ_le (World.ownsRow.lt HZ.out k hk).1))
        clear ho' hg'
        clear hHeld
        refine hK.out _ _ trivial (fun hHeld => ?_)
        clear hK K
        try simp only [Act.put, List.setIfInBounds_toArray, List.set_cons_zero, List.set_cons_succ]
        refine oneA 4 12 hsel (h := ?_)
        simp only [Act.put, List.setIfInBounds_toArray, List.set_cons_zero, List.set_cons_succ]
        refine wpAnyL_done (by kernel_rfl) (by kernel_rfl) ?_ _
        clear hsel hHeld
        go_upto_region 14 with (fail)
        obtain ⟨X, hX⟩ : ∃ X : Bytes, X = List.replicate 512 0 ++ L.flatten := ⟨_, rfl⟩
        rw [← hX] at HV
        obtain ⟨h7, h1, hp, ht, ht2⟩ := HNUM.out
        obtain ⟨N, hN⟩ : ∃ N, N = (M + 2) * 256 := ⟨_, rfl⟩
        have hXL : X.length = N := by rw [hX, List.length_append, List.length_replicate, HFL.out]; omega
        have hVn : w7.ownsRow (w.heap.size + 1) 5 1 v' N (cb X) := by have h3 := HV.out; unfold Row8 at h3; rwa [hXL] at h3
        obtain ⟨gq, cap, rfl, hbg, hgl⟩ := hVn.form (by omega)
        obtain ⟨a, ha⟩ : ∃ a, a = 2 + p := ⟨_, rfl⟩
        obtain ⟨bb, hbb⟩ : ∃ b, b = a * 256 := ⟨_, rfl⟩
        obtain ⟨d, hd⟩ : ∃ d, d = t / 8 := ⟨_, rfl⟩
        obtain ⟨i, hi⟩ : ∃ i, i = bb + d := ⟨_, rfl⟩
        obtain ⟨r, hr⟩ : ∃ r, r = t % 8 := ⟨_, rfl⟩
        have hiN : i < N := by omega
        obtain ⟨x, hx⟩ : ∃ x, X[i]? = some x := ⟨_, List.getElem?_eq_getElem (by rw [hXL]; exact hiN)⟩
        have hc1 : w7.cell? ⟨gq, i, none⟩ = some (.int .u8 (x.toNat : Nat)) := by
          rw [hVn.cellAt i (by omega)]
          simp [cb, hx]
        have hf1 := hVn.frozenAt i
        have k0 := HB7.out.cell 0
        have k1 := HB7.out.cell 1
        simp only [List.getElem?_cons_zero, List.getElem?_cons_succ] at k0 k1
        obtain ⟨q1, q2, q3, q4, q5, q6, q7, q8, q9, q10⟩ := flip_nums h7 hp ht2 ha hbb hd hi hr hN
        have HVN := Lib.hid hVn
        have HK8 : Hid (∀ u, (w7.setCell ⟨gq, i, none⟩ u).drew.cell? ⟨w.heap.size, 0, none⟩ = some (.int .i64 (p : Nat)) ∧ (w7.setCell ⟨gq, i, none⟩ u).drew.cell? ⟨w.heap.size, 1, none⟩ = some (.int .i64 (t : Nat))) := Lib.hid fun u => by
          have h8 := HB7.out.only (((Only.refl (· = gq) w7).setCell (p := ⟨gq, i, none⟩) rfl u).drew) (show ¬ w.heap.size = gq by omega)
          exact ⟨h8.cell 0, h8.cell 1⟩
        have HI := Lib.hid (And.intro ha (And.intro hbb (And.intro hd (And.intro hi (And.intro hr hN)))))
        have HX := Lib.hid hX
        have HXV := Lib.hid hx
        have HXL := Lib.hid hXL
        have HBG := Lib.hid (And.intro hbg hgl)
        have HR8 : Hid (r < 8) := Lib.hid (by omega)
        clear hVn ha hbb hd hi hr hN hX hx hXL hbg hgl h7 h1 hp ht ht2 hiN HV
        refine wp_region_list (B := [false, false, false, false, false, false, false, false, false, false, false, false, false, false, false, false, false, false]) (S := (fun W => W.cell? ⟨w.heap.size, 0, none⟩ = some (.int .i64 (p : Nat)) ∧ W.cell? ⟨w.heap.size, 1, none⟩ = some (.int .i64 (t : Nat)))) (by kernel_rfl) (by kernel_rfl) (by kernel_rfl) ⟨k0, k1⟩ (fun hsel hHeld => ?_)
        refine oneA 0 79 hsel (h := ?_)
        simp only [Act.put, List.setIfInBounds_toArray, List.set_cons_zero, List.set_cons_succ]
        refine oneA 1 80 hsel (h := ?_)
        simp only [Act.put, List.setIfInBounds_toArray, List.set_cons_zero, List.set_cons_succ]
        refine oneA 2 81 hsel (h := ?_)
        simp only [Act.put, List.setIfInBounds_toArray, List.set_cons_zero, List.set_cons_succ]
        refine oneA 3 82 hsel (h := ?_)
        simp only [Act.put, List.setIfInBounds_toArray, List.set_cons_zero, List.set_cons_succ]
        refine oneA 4 83 hsel (h := ?_)
        simp only [Act.put, List.setIfInBounds_toArray, List.set_cons_zero, List.set_cons_succ]
        refine oneA 5 84 hsel (h := ?_)
        simp only [Act.put, List.setIfInBounds_toArray, List.set_cons_zero, List.set_cons_succ]
        refine oneA 6 85 hsel (h := ?_)
        simp only [Act.put, List.setIfInBounds_toArray, List.set_cons_zero, List.set_cons_succ]
        refine oneA 7 86 hsel (h := ?_)
        simp only [Act.put, List.setIfInBounds_toArray, List.set_cons_zero, List.set_cons_succ]
        refine oneA 8 87 hsel (h := ?_)
        simp only [Act.put, List.setIfInBounds_toArray, List.set_cons_zero, List.set_cons_succ]
        refine oneA 9 88 hsel (h := ?_)
        simp only [Act.put, List.setIfInBounds_toArray, List.set_cons_zero, List.set_cons_succ]
        refine oneA 11 90 hsel (h := ?_)
        simp only [Act.put, List.setIfInBounds_toArray, List.set_cons_zero, List.set_cons_succ]
        refine oneA 12 91 hsel (h := ?_)
        simp only [Act.put, List.setIfInBounds_toArray, List.set_cons_zero, List.set_cons_succ]
        refine oneA 13 92 hsel (h := ?_)
        simp only [Act.put, List.setIfInBounds_toArray, List.set_cons_zero, List.set_cons_succ]
        refine oneA 14 93 hsel (h := ?_)
        simp only [Act.put, List.setIfInBounds_toArray, List.set_cons_zero, List.set_cons_succ]
        refine wpAnyL_ready (rs := [10]) (by kernel_rfl) (by kernel_rfl) (by simp) ?_
        refine AllReadyL.cons (o := ?_) ?_ (fun K hK => ?_) AllReadyL.nil
        case refine_2 => (simp only [List.getElem?_cons_succ, List.getElem?_cons_zero]; rfl)
        go_simp
        clear hHeld
        refine hK.out _ _ ⟨k0, k1⟩ (fun hHeld => ?_)
        clear hK K
        try simp only [List.set_cons_zero, List.set_cons_succ]
        refine oneA 15 94 hsel (h := ?_)
        simp only [Act.put, List.setIfInBounds_toArray, List.set_cons_zero, List.set_cons_succ]
        refine oneA 16 95 hsel (h := ?_)
        simp only [Act.put, List.setIfInBounds_toArray, List.set_cons_zero, List.set_cons_succ]
        refine wpAnyL_ready (rs := [17]) (by kernel_rfl) (by kernel_rfl) (by simp) ?_
        refine AllReadyL.cons (o := ?_) ?_ (fun K hK => ?_) AllReadyL.nil
        case refine_2 => (simp only [List.getElem?_cons_succ, List.getElem?_cons_zero]; rfl)
        go_simp
        clear hHeld
        refine hK.out _ _ (HK8.out _) (fun hHeld => ?_)
        clear hK K
        try simp only [List.set_cons_zero, List.set_cons_succ]
        refine wpAnyL_done (by kernel_rfl) (by kernel_rfl) ?_ _
        clear hsel hHeld
        rw [xor_val x r HR8.out]
        obtain ⟨w8, hw8⟩ : ∃ W, W = (w7.setCell ⟨gq, i, none⟩ (.int .u8 ((x ^^^ msk r).toNat : Nat))).drew := ⟨_, rfl⟩
        obtain ⟨T, hT⟩ : ∃ T, T = X.set i (x ^^^ msk r) := ⟨_, rfl⟩
        have HO8 : Hid (Only (w.heap.size ≤ ·) w w8) := Lib.hid (by rw [hw8]; exact (HO7.out.setCell (p := ⟨gq, i, none⟩) (Nat.le_of_succ_le HBG.out.1) _).drew)
        have HT8 : Hid (Row8 w8 (w.heap.size + 1) (.slice (some ⟨gq, 0, none⟩) N cap) T) := Lib.hid (by
          rw [hw8, hT]
          have h8 := own_turn (i := i) (v := x ^^^ msk r) HVN.out
          unfold Row8
          rw [List.length_set, HXL.out]
          exact h8)
        have HTT : Hid (T = turnB (List.replicate 512 0 ++ L.flatten) ((2 + p) * 256 + t / 8) (msk r)) := Lib.hid (turn_eq HX.out HXV.out HI.out hT)
        rw [← hw8]
        clear hw8 hT k0 k1 hc1 hf1 q1 q2 q3 q4 q5 q6 q7 q8 q9 q10 HK8 HXV HVN HBe HOe
        go_upto_region 16 with (fail)
        obtain ⟨w9, hw9⟩ : ∃ W, W = w8.alloc (.cells #[.int .i64 0] 3) := ⟨_, rfl⟩
        have HT9 : Hid (Blk w9 w8.heap.size 3 [.int .i64 0]) := Lib.hid (by rw [hw9]; exact Blk.new w8 3 _)
        have HZ9 : Hid (w9.heap.size = w8.heap.size + 1) := Lib.hid (by rw [hw9]; simp)
        have HO9 : Hid (Only (w8.heap.size ≤ ·) w8 w9) := Lib.hid (by rw [hw9]; exact (Only.refl _ w8).alloc (fun _ h => h) _)
        have HGQ : Hid (gq < w8.heap.size) := Lib.hid (World.ownsRow.lt HT8.out gq rfl).2
        rw [← hw9]
        clear hw9
        have HRT : Hid (∀ w10, w10 = (w9.alloc (.cells #[.slice (some ⟨gq, 0, none⟩) N cap] 27)).alloc (.cells #[.pointer (some ⟨w8.heap.size, 0, none⟩)] 35) → Calls Tryd.prog 12 #[.func (.func 30) #[] #[.pointer (some ⟨w9.heap.size + 1, 0, none⟩), .pointer (some ⟨w9.heap.size, 0, none⟩)], .int .i64 2, .int .i64 (n : Nat)] w10 fun e w' => e = .returned (.tuple #[.int .i64 0, .slice none 0 0, .slice none 0 0, .int .i64 80]) ∧ Only (w.heap.size ≤ ·) w w') := Lib.hid fun w10 hw10 => by
          obtain ⟨h1, h2, h3, h4⟩ := HTP.out T (msk r) (msk_ne r HR8.out) HTT.out
          rw [← HNV.out] at h4
          have hGw := HG.out
          have hs8 := HO8.out.size
          exact read_torn (HG.out.later HO8.out) HO8.out HO9.out hw10 HT9.out (HT8.out.src.later HO9.out) HGQ.out HZ9.out (by rw [h1]; have := HNUM.out.1; omega) h2 h3 h4
        go_wp2_with (first
          | (go_at_call 13; (with_reducible refine (Oreader_c w9 (some ⟨gq, 0, none⟩) N cap w8.heap.size).mono ?_); rintro ee w10 ⟨rfl, hw10⟩; have HW10 := Lib.hid hw10; clear hw10)
          | (go_at_call 12; (with_reducible refine (HRT.out w10 HW10.out).mono ?_); rintro ee w11 ⟨rfl, ho⟩; have HO11 := Lib.hid ho; clear ho)
          | (go_at_call 8; (with_reducible refine (HAL.out _ HO11.out).mono ?_); rintro ee w12 ⟨rfl, ho⟩; (replace HO11 := Lib.hid (on_new HO11.out ho)); clear ho))
        go_ret
        exact ⟨rfl, HO11.out⟩
theorem torn_c (w : World) (hG : Gens w) (g : Int) (A : Option Addr) (n c : Nat) (v : Bytes) (p t : Int) (hv : Src w (.slice A n c) v) : Calls Tryd.prog 5 #[.int .i64 g, .slice A n c, .agg #[.int .i64 p, .int .i64 t]] w (Told w (.bool true)) := by
  by_cases hx : g < 2 ∨ manyP g n < 1 ∨ p < 0 ∨ manyP g n ≤ p ∨ t < 16 ∨ 2048 ≤ t
  · exact torn_early w hG g p t A n c hx
  · obtain ⟨pn, rfl⟩ : ∃ k : Nat, p = (k : Int) := ⟨p.toNat, by omega⟩
    obtain ⟨tn, rfl⟩ : ∃ k : Nat, t = (k : Int) := ⟨t.toNat, by omega⟩
    obtain ⟨M, hM⟩ : ∃ M : Nat, manyP g n = (M : Int) := ⟨(manyP g n).toNat, by omega⟩
    exact torn_main w hG g pn tn M A n c v hv (by omega) hM (by omega) (by omega) (by omega) (by omega)
end Go.Proofs.YtbgnfocfnjlabaaDoor
