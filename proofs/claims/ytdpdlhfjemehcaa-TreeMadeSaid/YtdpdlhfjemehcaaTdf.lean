/-
  The document's Find, Side.
-/
import Derived.Test.YtdpdlhfjemehcaaTfw
set_option linter.unusedVariables false
namespace Go.Proofs.Ytdpdlhfjemehcaa
open Go.RowKit

def cntP (key : Bytes) (l : List It) : Nat := (l.filter fun a => decide (cmp a.1 key < 0)).length
def isP (key : Bytes) (l : List It) : Bool := l.any fun a => decide (cmp a.1 key = 0)
/-- The last kid behind the first one whose key is not above. -/
def lastP (key : Bytes) (l : List Kd) : Nat → Nat
  | 0 => 0
  | k + 1 => if 1 ≤ k ∧ cmp (l.getD k ([], 0)).1 key ≤ 0 then k else lastP key l k
theorem cnt_take {key : Bytes} {l : List It} {k : Nat} {y : It} (h : l[k]? = some y) : cntP key (l.take (k + 1)) = cntP key (l.take k) + (if cmp y.1 key < 0 then 1 else 0) := by
  rw [List.take_add_one, h]
  by_cases hc : cmp y.1 key < 0 <;> simp [cntP, hc]
theorem is_take {key : Bytes} {l : List It} {k : Nat} {y : It} (h : l[k]? = some y) : isP key (l.take (k + 1)) = (isP key (l.take k) || decide (cmp y.1 key = 0)) := by
  rw [List.take_add_one, h]
  simp [isP]
theorem cnt_le (key : Bytes) (l : List It) : cntP key l ≤ l.length := List.length_filter_le _ _
theorem last_le (key : Bytes) (l : List Kd) : ∀ k, lastP key l k ≤ k
  | 0 => Nat.le_refl _
  | k + 1 => by
    rw [lastP]
    split
    · omega
    · exact Nat.le_succ_of_le (last_le key l k)
set_option maxRecDepth 100000 in
set_option maxHeartbeats 6400000 in
theorem DFind_c (w : World) (A B K : Option Addr) (n c m d kn kc : Nat) (f : Bool) (x : Nd) (key : Bytes) (h : Nod w x f (.slice A n c) (.slice B m d)) (hk : Src w (.slice K kn kc) key) :
    Calls Try.prog 30 #[.agg #[.bool f, .slice A n c, .slice B m d], .slice K kn kc] w (Told w (.tuple #[.int .i64 (cntP key x.its : Nat), .bool (isP key x.its)])) := by
  have hI := h.2.1
  clear h
  have hnc := hI.cap
  have HNI := Lib.hid hI.len
  obtain ⟨w1, hw1⟩ : ∃ x, x = w.alloc (.cells #[.bool f, .slice A n c, .slice B m d] 29) := ⟨_, rfl⟩
  obtain ⟨b1, hb1⟩ : ∃ x, x = w.heap.size := ⟨_, rfl⟩
  have Hb1 : Hid (Blk w1 b1 29 [.bool f, .slice A n c, .slice B m d]) := Lib.hid (by rw [hw1, hb1]; exact Blk.new w _ [.bool f, .slice A n c, .slice B m d])
  have HXb1 : Hid (Only (w.heap.size ≤ ·) w w1) := Lib.hid (by rw [hw1]; exact (Only.refl _ w).alloc (fun _ h => h) _)
  have HEQb1 : Hid (w1 = w.alloc (.cells #[.bool f, .slice A n c, .slice B m d] 29) ∧ b1 = w.heap.size) := Lib.hid ⟨hw1, hb1⟩
  clear hw1 hb1
  have HI := Lib.hid (hI.later HXb1.out)
  have HK := Lib.hid (hk.later HXb1.out)
  clear hI hk
  go_enter Try.func30, Try.ntmps30
  go_upto_region 1 with (fail)
  rw [← HEQb1.out.1, ← HEQb1.out.2]
  go_wp2
  go_loopg [6, 7, 8] n (fun gk at_ is_ i wr => ∃ k : Nat, gk = n - k ∧ k ≤ n ∧ at_ = .int .i64 ((cntP key (x.its.take k) : Nat) : Int) ∧ is_ = .bool (isP key (x.its.take k)) ∧ i = .int .i64 (k : Int) ∧ Hid (Only (w1.heap.size ≤ ·) w1 wr))
  case atStart => exact ⟨0, rfl, Nat.zero_le _, rfl, rfl, rfl, Lib.hid (Only.refl _ _)⟩
  case round =>
    obtain ⟨k, rfl, hk, rfl, rfl, rfl, HO⟩ := hrel
    have HB := Lib.hid (Hb1.out.later HO.out)
    obtain ⟨c0, c1, c2⟩ := HB.out.tri
    by_cases hlt : k < n
    · have hlt' : (k : Int) < (n : Int) := by omega
      obtain ⟨b, off, y, P, p, rfl, hy, y0, hys⟩ := its_key (HI.out.later HO.out) hlt
      have HY := Lib.hid hy
      obtain ⟨v, hv⟩ : ∃ v, cmp y.1 key = v := ⟨_, rfl⟩
      have HV := Lib.hid hv
      have HC := Lib.hid (rCompare_b _ _ _ _ _ v hys (HK.out.later HO.out) hv)
      have HCT := Lib.hid (cnt_take (key := key) hy)
      have HIT := Lib.hid (is_take (key := key) hy)
      rw [hv] at HCT HIT
      have hcl : cntP key (x.its.take k) ≤ k := Nat.le_trans (cnt_le _ _) (by rw [List.length_take]; omega)
      obtain ⟨a0, ha0⟩ : ∃ a, a = cntP key (x.its.take k) := ⟨_, rfl⟩
      obtain ⟨i0, hi0⟩ : ∃ a, a = isP key (x.its.take k) := ⟨_, rfl⟩
      rw [← ha0] at hcl HCT ⊢
      rw [← hi0] at HIT ⊢
      clear hy hys hv ha0 hi0
      by_cases h1 : v < 0
      · have h2 : ¬ v = 0 := by omega
        go_wp2_with (go_at_call 20; (with_reducible refine HC.out.mono ?_); rintro ee w2 ⟨rfl, ho⟩; have HO2 := Lib.hid (on_new HO.out ho); clear ho)
        go_roundg (n - (k + 1))
        case measure => omega
        case rel => exact ⟨k + 1, rfl, by omega, by rw [HCT.out, if_pos h1]; go_num, by rw [HIT.out, decide_eq_false h2, Bool.or_false], by go_num, HO2⟩
      · by_cases h2 : v = 0
        · have HV2 := Lib.hid h2
          subst h2
          go_wp2_with (go_at_call 20; (with_reducible refine HC.out.mono ?_); rintro ee w2 ⟨rfl, ho⟩; have HO2 := Lib.hid (on_new HO.out ho); clear ho)
          go_roundg (n - (k + 1))
          case measure => omega
          case rel => exact ⟨k + 1, rfl, by omega, by rw [HCT.out]; simp, by rw [HIT.out]; simp, by go_num, HO2⟩
        · go_wp2_with (go_at_call 20; (with_reducible refine HC.out.mono ?_); rintro ee w2 ⟨rfl, ho⟩; have HO2 := Lib.hid (on_new HO.out ho); clear ho)
          go_roundg (n - (k + 1))
          case measure => omega
          case rel => exact ⟨k + 1, rfl, by omega, by rw [HCT.out, if_neg (by omega)]; rfl, by rw [HIT.out, decide_eq_false h2, Bool.or_false], by go_num, HO2⟩
    · obtain rfl : k = n := by omega
      have hkm : ¬ (k : Int) < (k : Int) := by omega
      have ht : x.its.take k = x.its := by rw [HNI.out, List.take_length]
      rw [ht]
      go_wp2
      go_ret2
      exact ⟨rfl, on_new HXb1.out HO.out⟩
set_option maxRecDepth 100000 in
set_option maxHeartbeats 6400000 in
theorem DSide_c (w : World) (A B K : Option Addr) (n c m d kn kc : Nat) (f : Bool) (x : Nd) (key : Bytes) (h : Nod w x f (.slice A n c) (.slice B m d)) (hk : Src w (.slice K kn kc) key) :
    Calls Try.prog 31 #[.agg #[.bool f, .slice A n c, .slice B m d], .slice K kn kc] w (Told w (.int .i64 (lastP key x.kds m : Nat))) := by
  have hI := h.2.2
  clear h
  have hnc := hI.cap
  have HNI := Lib.hid hI.len
  obtain ⟨w1, hw1⟩ : ∃ x, x = w.alloc (.cells #[.bool f, .slice A n c, .slice B m d] 29) := ⟨_, rfl⟩
  obtain ⟨b1, hb1⟩ : ∃ x, x = w.heap.size := ⟨_, rfl⟩
  have Hb1 : Hid (Blk w1 b1 29 [.bool f, .slice A n c, .slice B m d]) := Lib.hid (by rw [hw1, hb1]; exact Blk.new w _ [.bool f, .slice A n c, .slice B m d])
  have HXb1 : Hid (Only (w.heap.size ≤ ·) w w1) := Lib.hid (by rw [hw1]; exact (Only.refl _ w).alloc (fun _ h => h) _)
  have HEQb1 : Hid (w1 = w.alloc (.cells #[.bool f, .slice A n c, .slice B m d] 29) ∧ b1 = w.heap.size) := Lib.hid ⟨hw1, hb1⟩
  clear hw1 hb1
  have HI := Lib.hid (hI.later HXb1.out)
  have HK := Lib.hid (hk.later HXb1.out)
  clear hI hk
  go_enter Try.func31, Try.ntmps31
  go_upto_region 1 with (fail)
  rw [← HEQb1.out.1, ← HEQb1.out.2]
  go_wp2
  go_loopg [5, 6] (m - 1) (fun gk at_ i wr => ∃ k : Nat, gk = m - (k + 1) ∧ (k = 0 ∨ k < m) ∧ at_ = .int .i64 ((lastP key x.kds (k + 1) : Nat) : Int) ∧ i = .int .i64 ((k : Int) + 1) ∧ Hid (Only (w1.heap.size ≤ ·) w1 wr))
  case atStart => exact ⟨0, rfl, .inl rfl, rfl, rfl, Lib.hid (Only.refl _ _)⟩
  case round =>
    obtain ⟨k, rfl, hk, rfl, rfl, HO⟩ := hrel
    have HB := Lib.hid (Hb1.out.later HO.out)
    obtain ⟨c0, c1, c2⟩ := HB.out.tri
    by_cases hlt : k + 1 < m
    · have hlt' : (k : Int) + 1 < (m : Int) := by omega
      obtain ⟨b, off, y, P, p, rfl, hy, y0, hys⟩ := kds_key (HI.out.later HO.out) hlt
      have HY := Lib.hid hy
      obtain ⟨v, hv⟩ : ∃ v, cmp y.1 key = v := ⟨_, rfl⟩
      have HV := Lib.hid hv
      have HC := Lib.hid (rCompare_b _ _ _ _ _ v hys (HK.out.later HO.out) hv)
      have HLT : Hid (lastP key x.kds (k + 1 + 1) = if v ≤ 0 then k + 1 else lastP key x.kds (k + 1)) := Lib.hid (by
        rw [lastP, List.getD_eq_getElem?_getD, hy, Option.getD_some, hv]
        by_cases h : v ≤ 0
        · rw [if_pos ⟨by omega, h⟩, if_pos h]
        · rw [if_neg (fun hh => h hh.2), if_neg h])
      clear hy hys hv
      by_cases h1 : v ≤ 0
      · go_wp2_with (go_at_call 20; (with_reducible refine HC.out.mono ?_); rintro ee w2 ⟨rfl, ho⟩; have HO2 := Lib.hid (on_new HO.out ho); clear ho)
        go_roundg (m - (k + 1 + 1))
        case measure => omega
        case rel => exact ⟨k + 1, rfl, .inr hlt, by rw [HLT.out, if_pos h1]; go_num, by go_num, HO2⟩
      · go_wp2_with (go_at_call 20; (with_reducible refine HC.out.mono ?_); rintro ee w2 ⟨rfl, ho⟩; have HO2 := Lib.hid (on_new HO.out ho); clear ho)
        go_roundg (m - (k + 1 + 1))
        case measure => omega
        case rel => exact ⟨k + 1, rfl, .inr hlt, by rw [HLT.out, if_neg (by omega)], by go_num, HO2⟩
    · have hkm : ¬ (k : Int) + 1 < (m : Int) := by omega
      have HLE : Hid (lastP key x.kds (k + 1) = lastP key x.kds m) := Lib.hid (by
        rcases hk with rfl | hk
        · have : m = 0 ∨ m = 1 := by omega
          rcases this with rfl | rfl <;> rfl
        · rw [show m = k + 1 by omega])
      go_wp2
      go_ret
      exact ⟨by rw [← HLE.out]; rfl, on_new HXb1.out HO.out⟩
end Go.Proofs.Ytdpdlhfjemehcaa
