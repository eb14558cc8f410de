/-
  has, around.
-/
import Derived.Test.YtdgcplmekkancaaRefo
import Derived.Deep.RegionHeld3
import Derived.Deep.DrawnRows
set_option linter.unusedVariables false
namespace Go.Proofs.Ytdgcplmekkancaa
open Go.RowKit

def room (n : Nat) (at_ : Int) : Bool := decide (0 ≤ at_ ∧ at_ + 4 ≤ (n : Int))

set_option maxRecDepth 100000 in
theorem has_c (w : World) (A : Option Addr) (n c : Nat) (hn : n ≤ 1152921504606846976) (at_ : Int) (h1 : -9223372036854775808 ≤ at_) (h2 : at_ ≤ 9223372036854775807) :
    Calls Try.prog 19 #[.slice A n c, .int .i64 at_] w fun e w' => e = .returned (.bool (room n at_)) ∧ w = w' := by
  by_cases h0 : 0 ≤ at_
  · by_cases h4 : 4 ≤ (n : Int) - at_
    · have E : Hid (room n at_ = true) := by show _ = _; simp only [room, decide_eq_true_eq]; omega
      go_enter Try.func19, Try.ntmps19
      go_wp2
      go_ret
      rw [E.out]
      exact ⟨rfl, rfl⟩
    · have E : Hid (room n at_ = false) := by show _ = _; simp only [room, decide_eq_false_iff_not]; omega
      go_enter Try.func19, Try.ntmps19
      go_wp2
      go_ret
      rw [E.out]
      exact ⟨rfl, rfl⟩
  · have E : Hid (room n at_ = false) := by show _ = _; simp only [room, decide_eq_false_iff_not]; omega
    go_enter Try.func19, Try.ntmps19
    go_wp2
    go_ret
    rw [E.out]
    exact ⟨rfl, rfl⟩

def oth (xs : Bytes) (a : Nat) : Bytes := xs.take a ++ xs.drop (a + 4)
def le4 (s : Nat) : Bytes := [UInt8.ofNat s, UInt8.ofNat (s / 256), UInt8.ofNat (s / 65536), UInt8.ofNat (s / 16777216)]
theorem le4_length (s : Nat) : (le4 s).length = 4 := rfl
def filled4 (s k : Nat) : List Value := cb ((le4 s).take k) ++ List.replicate (4 - k) (.int .u8 0)
theorem Txt.take {w : World} {ad : Addr} {n : Nat} {xs : Bytes} (h : Txt w (some ad) n xs) (a : Nat) (ha : a ≤ n) : Txt w (some ad) a (xs.take a) := by
  refine ⟨by rw [List.length_take, h.1]; omega, fun h0 => ?_⟩
  obtain ⟨ad', e, hc⟩ := h.2 (by omega)
  cases e
  refine ⟨ad, rfl, fun j u hu => hc j u ?_⟩
  simp only [cb, List.map_take, List.getElem?_take] at hu
  split at hu
  · exact hu
  · cases hu
theorem add_add (ad : Addr) (i j : Nat) : (ad.add i).add j = ad.add (i + j) := by
  unfold Addr.add
  by_cases hi : i = 0 <;> by_cases hj : j = 0 <;> simp [hi, hj, Nat.add_assoc]
theorem Txt.drop {w : World} {ad : Addr} {n : Nat} {xs : Bytes} (h : Txt w (some ad) n xs) (a : Nat) : Txt w (some (ad.add a)) (n - a) (xs.drop a) := by
  refine ⟨by rw [List.length_drop, h.1], fun h0 => ?_⟩
  obtain ⟨ad', e, hc⟩ := h.2 (by omega)
  cases e
  refine ⟨_, rfl, fun j u hu => ?_⟩
  rw [add_add]
  refine hc (a + j) u ?_
  simpa only [cb, List.map_drop, List.getElem?_drop] using hu
theorem Txt.none (w : World) (A : Option Addr) : Txt w A 0 [] := ⟨rfl, fun h => absurd h (by decide)⟩

structure Arr (w wr : World) (g1 g2 : Nat) (s k : Nat) : Prop where
  out : Blk wr g1 41 (filled4 s 0)
  arr : Blk wr g2 41 (filled4 s k)
  only : Only (w.heap.size ≤ ·) w wr
  ne : g1 ≠ g2
  base1 : w.heap.size ≤ g1
  base2 : w.heap.size ≤ g2

theorem ofNat_int (s : Nat) : ((UInt8.ofNat s).toNat : Int) = (s : Int) % 256 := by
  rw [UInt8.toNat_ofNat']
  omega
theorem filled4_set (s k : Nat) (hk : k < 4) (v : Int) (hv : v = ((s / 256 ^ k : Nat) : Int) % 256) : (filled4 s k).set k (.int .u8 v) = filled4 s (k + 1) := by
  have h : k = 0 ∨ k = 1 ∨ k = 2 ∨ k = 3 := by omega
  subst hv
  rcases h with rfl | rfl | rfl | rfl
  · simp [filled4, cb, le4, ofNat_int, List.replicate]
  · simp [filled4, cb, le4, ofNat_int, List.replicate]
  · simp [filled4, cb, le4, ofNat_int, List.replicate]
  · simp [filled4, cb, le4, ofNat_int, List.replicate]
theorem Arr.set {w wr : World} {g1 g2 s k : Nat} (h : Arr w wr g1 g2 s k) (hk : k < 4) (v : Int) (hv : v = ((s / 256 ^ k : Nat) : Int) % 256) : Arr w (wr.setCell ⟨g2, k, none⟩ (.int .u8 v)) g1 g2 s (k + 1) := by
  refine ⟨h.out.far h.ne _, ?_, h.only.setCell h.base2 _, h.ne, h.base1, h.base2⟩
  have := h.arr.set_ k (.int .u8 v)
  rwa [filled4_set s k hk v hv] at this
theorem filled4_end (s : Nat) : filled4 s 4 = cb (le4 s) := by simp [filled4, le4]

set_option maxRecDepth 100000 in
set_option maxHeartbeats 1600000 in
theorem around_c (w : World) (ad : Addr) (n c : Nat) (xs : Bytes) (ht : Txt w (some ad) n xs) (hn : n ≤ 1152921504606846976) (hc : n ≤ c) (hcm : c ≤ 9223372036854775807) (a : Nat) (ha : a + 4 ≤ n) :
    Calls Try.prog 20 #[.slice (some ad) n c, .int .i64 a] w fun e w' => e = .returned (.agg (cb (le4 (sum (oth xs a)))).toArray) ∧ Only (w.heap.size ≤ ·) w w' := by
  obtain ⟨W1, hW1⟩ : ∃ W1, W1 = w.alloc (.cells #[.int .u8 0, .int .u8 0, .int .u8 0, .int .u8 0] 41) := ⟨_, rfl⟩
  have HO1 : Hid (Only (w.heap.size ≤ ·) w W1) := by rw [hW1]; exact (Only.refl _ w).alloc (fun _ h => h) _
  have HB1 : Hid (Blk W1 w.heap.size 41 (filled4 (sum (oth xs a)) 0)) := by rw [hW1]; exact Blk.new w 41 _
  have HT1 : Hid (Txt W1 (some ad) a (xs.take a)) := (ht.take a (by omega)).later HO1.out
  have HT2 : Hid (Txt W1 (some (ad.add (a + 4))) (n - (a + 4)) (xs.drop (a + 4))) := (ht.drop (a + 4)).later HO1.out
  have HT3 : Hid (n = a + 4 → Txt W1 (some ad) 0 (xs.drop (a + 4))) := fun e => ⟨by rw [List.length_drop, ht.1]; omega, fun h => absurd h (by decide)⟩
  have HS : Hid (upd (sum (xs.take a)) (xs.drop (a + 4)) = sum (oth xs a)) := (upd_append 0 _ _).symm
  have HSl : Hid (sum (xs.take a) < 4294967296) := sum_lt _
  have HW1 := Lib.hid hW1
  clear hW1
  by_cases hcap : c = a + 4
  · obtain rfl : n = a + 4 := by omega
    subst hcap
    have HT3' := Lib.hid (HT3.out rfl)
    clear HT3
    have a0 : (0 : Int) ≤ (a : Int) := by omega
    have a1 : (a : Int) ≤ (a : Int) + 4 := by omega
    have a2 : (0 : Int) ≤ 4 := by omega
    have a4 : (a : Int) + 4 ≤ (a : Int) + 4 := by omega
    have a5 : (0 : Int) ≤ (a : Int) + 4 := by omega
    have aw : IntKind.i64.wrap ((a : Int) + 4) = (a : Int) + 4 := IntWalk.i64_in _ (by omega)
    have an : ((a : Int) + 4).toNat = a + 4 := by omega
    have hn1 : 0 ≤ 1152921504606846976 := by omega
    have hn2 : a ≤ 1152921504606846976 := by omega
    clear ht ha hc
    go_enter Try.func20, Try.ntmps20
    go_wp2_with (fail)
    rw [← HW1.out]
    go_region_held3 (fun w' => Only (W1.heap.size ≤ ·) W1 w') (first | assumption | exact (Only.refl _ W1).drew) (first | (go_at_call 9; refine (Of_c _ _ _ _ _ (HT1.out.later (by assumption)) hn2).mono ?_; rintro e w1 ⟨rfl, ho1⟩; have hO1 : Only (W1.heap.size ≤ ·) W1 w1 := Only.trans (by assumption) (ho1.mono fun k h => Nat.le_trans (Only.size (by assumption)) h)) | (go_at_call 11; refine (Update_c _ _ HSl.out _ _ _ _ (HT3'.out.later (by assumption)) (by omega)).mono ?_; rintro e w2 ⟨rfl, ho2⟩; have hO2 : Only (W1.heap.size ≤ ·) W1 w2 := Only.trans (by assumption) (ho2.mono fun k h => Nat.le_trans (Only.size (by assumption)) h)))
    have hsl : upd (sum (xs.take a)) (xs.drop (a + 4)) < 4294967296 := upd_lt HSl.out _
    obtain ⟨S, hS⟩ : ∃ S, S = upd (sum (xs.take a)) (xs.drop (a + 4)) := ⟨_, rfl⟩
    rw [← hS] at hsl HS ⊢
    have HA : Hid (Arr w (w2.alloc (.cells (filled4 S 0).toArray 41)) w.heap.size w2.heap.size S 0) := by
      have h := hO2.size
      have h1 := HO1.out.size
      have hsz : W1.heap.size = w.heap.size + 1 := by rw [HW1.out]; simp
      refine ⟨?_, Blk.new _ _ _, ((HO1.out.trans (hO2.mono fun k h => Nat.le_trans h1 h)).alloc (fun _ h => h) _), by omega, Nat.le_refl _, by omega⟩
      rw [← HS.out] at HB1
      exact (HB1.out.only hO2 (by omega)).alloc _
    clear hO2 HW1 ho1 ho2 hO1 a0 a1 a2 a4 a5 aw an hS
    go_wp2
    obtain ⟨g2, hg2⟩ : ∃ g2, g2 = w2.heap.size := ⟨_, rfl⟩
    rw [← hg2] at HA ⊢
    clear hg2
    go_loopw [17] (fun i wr => ∃ k : Nat, k ≤ 4 ∧ i = .int .i64 k ∧ Arr w wr w.heap.size g2 S k) (fun i _ => 4 - (intOf i).toNat)
    case atStart => exact ⟨0, by omega, rfl, HA.out⟩
    case round =>
      clear HA
      obtain ⟨k, hk, rfl, ha⟩ := hrel
      have HA := Lib.hid ha
      clear ha
      by_cases hlt : k < 4
      · have hk4 : k = 0 ∨ k = 1 ∨ k = 2 ∨ k = 3 := by omega
        rcases hk4 with rfl | rfl | rfl | rfl
        · have c1 := HA.out.arr.cell 0
          have f1 := HA.out.arr.frozen 0
          rw [show (filled4 S 0)[0]? = some (.int .u8 0) from rfl] at c1
          go_wp2
          exact ⟨⟨1, by omega, rfl, HA.out.set (by omega) _ (by simp)⟩, by simp [intOf]⟩
        · have c1 := HA.out.arr.cell 1
          have f1 := HA.out.arr.frozen 1
          rw [show (filled4 S 1)[1]? = some (.int .u8 0) from rfl] at c1
          go_wp2
          exact ⟨⟨2, by omega, rfl, HA.out.set (by omega) _ (by simp)⟩, by simp [intOf]⟩
        · have c1 := HA.out.arr.cell 2
          have f1 := HA.out.arr.frozen 2
          rw [show (filled4 S 2)[2]? = some (.int .u8 0) from rfl] at c1
          go_wp2
          exact ⟨⟨3, by omega, rfl, HA.out.set (by omega) _ (by simp)⟩, by simp [intOf]⟩
        · have c1 := HA.out.arr.cell 3
          have f1 := HA.out.arr.frozen 3
          rw [show (filled4 S 3)[3]? = some (.int .u8 0) from rfl] at c1
          go_wp2
          exact ⟨⟨4, by omega, rfl, HA.out.set (by omega) _ (by simp; omega)⟩, by simp [intOf]⟩
      · obtain rfl : k = 4 := by omega
        have HA4 : Hid (Blk wr g2 41 (cb (le4 S))) := by rw [← filled4_end]; exact HA.out.arr
        have HR : Hid (wr.rangeAt g2 0 (cb (le4 S))) := HA4.out.range 0 4
        have HTh : Hid (wr.there w.heap.size 0 (cb (le4 S)).toArray.size) := HA.out.out.there 0 4 (Nat.le_refl _)
        have H41 : Hid ((Try.prog.info? 41).map (·.size) = some (cb (le4 S)).toArray.size) := by
          show _ = some 4
          kernel_rfl
        have H1 : Hid ((cb (le4 S)).toArray.all (·.oneCell') = true) := all_oneCell_toArray (cb_one _)
        go_wp2_with (first | (with_reducible refine wpList_load_mid rfl 41 (.tmp 6) rfl g2 0 (by simp [Act.eval, Act.put]) (cb (le4 S)) _ HR.out Try.underlying41 rfl (by kernel_rfl) ?_) | (with_reducible refine wpList_store_mid rfl 41 (.tmp 4) (.tmp 28) rfl w.heap.size 0 (cb (le4 S)).toArray (by simp [Act.eval, Act.put]) (by simp [Act.eval, Act.put]) HTh.out H41.out H1.out ?_))
        have HB : Hid (Blk (wr.setCells w.heap.size 0 (cb (le4 S))) w.heap.size 41 (cb (le4 S))) := by
          have := HA.out.out.setN (cb (le4 S)) 0 (Nat.le_refl _)
          exact this
        have HO : Hid (Only (w.heap.size ≤ ·) w (wr.setCells w.heap.size 0 (cb (le4 S)))) := HA.out.only.setCells _ _ _ (Nat.le_refl _)
        have hl := run_loadVar_mid (P := Try.prog) (wr.setCells w.heap.size 0 (cb (le4 S))) w.heap.size 0 41 (cb (le4 S)) _ (HB.out.range 0 4) Try.underlying41 rfl (by kernel_rfl)
        exact bodyPost_ret (v := .agg (cb (le4 S)).toArray) (results_cell rfl rfl hl) rfl ⟨by rw [HS.out], HO.out⟩
  · have a0 : (0 : Int) ≤ (a : Int) := by omega
    have a1 : (a : Int) ≤ (n : Int) := by omega
    have a2 : (a : Int) ≤ (c : Int) := by omega
    have a4 : (a : Int) + 4 ≤ (n : Int) := by omega
    have a5 : (0 : Int) ≤ (a : Int) + 4 := by omega
    have aw : IntKind.i64.wrap ((a : Int) + 4) = (a : Int) + 4 := IntWalk.i64_in _ (by omega)
    have an : ((a : Int) + 4).toNat = a + 4 := by omega
    have hn1 : n - (a + 4) ≤ 1152921504606846976 := by omega
    have hn2 : a ≤ 1152921504606846976 := by omega
    clear ht ha hc
    go_enter Try.func20, Try.ntmps20
    go_wp2_with (fail)
    rw [← HW1.out]
    go_region_held3 (fun w' => Only (W1.heap.size ≤ ·) W1 w') (first | assumption | exact (Only.refl _ W1).drew) (first | (go_at_call 9; refine (Of_c _ _ _ _ _ (HT1.out.later (by assumption)) hn2).mono ?_; rintro e w1 ⟨rfl, ho1⟩; have hO1 : Only (W1.heap.size ≤ ·) W1 w1 := Only.trans (by assumption) (ho1.mono fun k h => Nat.le_trans (Only.size (by assumption)) h)) | (go_at_call 11; refine (Update_c _ _ HSl.out _ _ _ _ (HT2.out.later (by assumption)) hn1).mono ?_; rintro e w2 ⟨rfl, ho2⟩; have hO2 : Only (W1.heap.size ≤ ·) W1 w2 := Only.trans (by assumption) (ho2.mono fun k h => Nat.le_trans (Only.size (by assumption)) h)))
    have hsl : upd (sum (xs.take a)) (xs.drop (a + 4)) < 4294967296 := upd_lt HSl.out _
    obtain ⟨S, hS⟩ : ∃ S, S = upd (sum (xs.take a)) (xs.drop (a + 4)) := ⟨_, rfl⟩
    rw [← hS] at hsl HS ⊢
    have HA : Hid (Arr w (w2.alloc (.cells (filled4 S 0).toArray 41)) w.heap.size w2.heap.size S 0) := by
      have h := hO2.size
      have h1 := HO1.out.size
      have hsz : W1.heap.size = w.heap.size + 1 := by rw [HW1.out]; simp
      refine ⟨?_, Blk.new _ _ _, ((HO1.out.trans (hO2.mono fun k h => Nat.le_trans h1 h)).alloc (fun _ h => h) _), by omega, Nat.le_refl _, by omega⟩
      rw [← HS.out] at HB1
      exact (HB1.out.only hO2 (by omega)).alloc _
    clear hO2 HW1 ho1 ho2 hO1 a0 a1 a2 a4 a5 aw an hS
    go_wp2
    obtain ⟨g2, hg2⟩ : ∃ g2, g2 = w2.heap.size := ⟨_, rfl⟩
    rw [← hg2] at HA ⊢
    clear hg2
    go_loopw [17] (fun i wr => ∃ k : Nat, k ≤ 4 ∧ i = .int .i64 k ∧ Arr w wr w.heap.size g2 S k) (fun i _ => 4 - (intOf i).toNat)
    case atStart => exact ⟨0, by omega, rfl, HA.out⟩
    case round =>
      clear HA
      obtain ⟨k, hk, rfl, ha⟩ := hrel
      have HA := Lib.hid ha
      clear ha
      by_cases hlt : k < 4
      · have hk4 : k = 0 ∨ k = 1 ∨ k = 2 ∨ k = 3 := by omega
        rcases hk4 with rfl | rfl | rfl | rfl
        · have c1 := HA.out.arr.cell 0
          have f1 := HA.out.arr.frozen 0
          rw [show (filled4 S 0)[0]? = some (.int .u8 0) from rfl] at c1
          go_wp2
          exact ⟨⟨1, by omega, rfl, HA.out.set (by omega) _ (by simp)⟩, by simp [intOf]⟩
        · have c1 := HA.out.arr.cell 1
          have f1 := HA.out.arr.frozen 1
          rw [show (filled4 S 1)[1]? = some (.int .u8 0) from rfl] at c1
          go_wp2
          exact ⟨⟨2, by omega, rfl, HA.out.set (by omega) _ (by simp)⟩, by simp [intOf]⟩
        · have c1 := HA.out.arr.cell 2
          have f1 := HA.out.arr.frozen 2
          rw [show (filled4 S 2)[2]? = some (.int .u8 0) from rfl] at c1
          go_wp2
          exact ⟨⟨3, by omega, rfl, HA.out.set (by omega) _ (by simp)⟩, by simp [intOf]⟩
        · have c1 := HA.out.arr.cell 3
          have f1 := HA.out.arr.frozen 3
          rw [show (filled4 S 3)[3]? = some (.int .u8 0) from rfl] at c1
          go_wp2
          exact ⟨⟨4, by omega, rfl, HA.out.set (by omega) _ (by simp; omega)⟩, by simp [intOf]⟩
      · obtain rfl : k = 4 := by omega
        have HA4 : Hid (Blk wr g2 41 (cb (le4 S))) := by rw [← filled4_end]; exact HA.out.arr
        have HR : Hid (wr.rangeAt g2 0 (cb (le4 S))) := HA4.out.range 0 4
        have HTh : Hid (wr.there w.heap.size 0 (cb (le4 S)).toArray.size) := HA.out.out.there 0 4 (Nat.le_refl _)
        have H41 : Hid ((Try.prog.info? 41).map (·.size) = some (cb (le4 S)).toArray.size) := by
          show _ = some 4
          kernel_rfl
        have H1 : Hid ((cb (le4 S)).toArray.all (·.oneCell') = true) := all_oneCell_toArray (cb_one _)
        go_wp2_with (first | (with_reducible refine wpList_load_mid rfl 41 (.tmp 6) rfl g2 0 (by simp [Act.eval, Act.put]) (cb (le4 S)) _ HR.out Try.underlying41 rfl (by kernel_rfl) ?_) | (with_reducible refine wpList_store_mid rfl 41 (.tmp 4) (.tmp 28) rfl w.heap.size 0 (cb (le4 S)).toArray (by simp [Act.eval, Act.put]) (by simp [Act.eval, Act.put]) HTh.out H41.out H1.out ?_))
        have HB : Hid (Blk (wr.setCells w.heap.size 0 (cb (le4 S))) w.heap.size 41 (cb (le4 S))) := by
          have := HA.out.out.setN (cb (le4 S)) 0 (Nat.le_refl _)
          exact this
        have HO : Hid (Only (w.heap.size ≤ ·) w (wr.setCells w.heap.size 0 (cb (le4 S)))) := HA.out.only.setCells _ _ _ (Nat.le_refl _)
        have hl := run_loadVar_mid (P := Try.prog) (wr.setCells w.heap.size 0 (cb (le4 S))) w.heap.size 0 41 (cb (le4 S)) _ (HB.out.range 0 4) Try.underlying41 rfl (by kernel_rfl)
        exact bodyPost_ret (v := .agg (cb (le4 S)).toArray) (results_cell rfl rfl hl) rfl ⟨by rw [HS.out], HO.out⟩
end Go.Proofs.Ytdgcplmekkancaa
