/-
  number of the document.
-/
import Derived.Test.YtbgnfocfnjlabaaDoorPhd
import Derived.RegionTactic
import Derived.BigRegion
import Derived.Deep.CutRange
set_option linter.unusedVariables false
namespace Go.Proofs.YtbgnfocfnjlabaaDoor
open Go.RowKit

/-- A number, the lowest byte first; below 0: not below 2^63. -/
def rnum (xs : Bytes) : Int := if xs.length = 8 ∧ 127 < (xs.getD 7 0).toNat then -1 else (num xs : Nat)
theorem num_top {xs : Bytes} (h : xs.length ≤ 8) (h7 : ¬ (xs.length = 8 ∧ 127 < (xs.getD 7 0).toNat)) : num xs < 9223372036854775808 := by
  by_cases h8 : xs.length = 8
  · obtain ⟨ys, x, rfl⟩ : ∃ ys x, xs = ys ++ [x] := ⟨xs.dropLast, xs.getLast (by intro e; rw [e] at h8; simp at h8), (List.dropLast_concat_getLast _).symm⟩
    have hy : ys.length = 7 := by simp at h8; omega
    have hx : ((ys ++ [x]).getD 7 0) = x := by
      rw [List.getD_eq_getElem?_getD, List.getElem?_append_right (by omega), hy]
      rfl
    rw [hx] at h7
    have h1 := num_lt ys
    rw [hy] at h1
    rw [num_snoc, hy]
    have : x.toNat ≤ 127 := by omega
    omega
  · have h1 := num_lt xs
    have h2 : 256 ^ xs.length ≤ 256 ^ 7 := Nat.pow_le_pow_right (by decide) (by omega)
    omega
theorem num_drop {xs : Bytes} {k : Nat} {x : UInt8} (h : xs[k]? = some x) : num (xs.drop k) = x.toNat + 256 * num (xs.drop (k + 1)) := by
  rw [drop_cons h]
  rfl
theorem num_drop_le {xs : Bytes} (k : Nat) : num (xs.drop k) ≤ num xs := by
  induction k with
  | zero => simp
  | succ k ih =>
    by_cases hk : k < xs.length
    · have := num_drop (List.getElem?_eq_getElem hk)
      omega
    · rw [List.drop_eq_nil_of_le (by omega)]
      simp [num]
set_option maxRecDepth 100000 in
set_option maxHeartbeats 3200000 in
theorem rnumber_c (w : World) (v : Value) (xs : Bytes) (h : Src w v xs) (hn : xs.length ≤ 8) : Calls Tryd.prog 56 #[v] w (Told w (.int .i64 (rnum xs))) := by
  obtain ⟨A, cap, rfl, ht, hA, hc, hm⟩ := h
  obtain ⟨n, hne⟩ : ∃ n, n = xs.length := ⟨_, rfl⟩
  rw [← hne] at ht hc hn ⊢
  have HC : Hid (∀ k x, xs[k]? = some x → ∃ bl o, A = some ⟨bl, o, none⟩ ∧ bl < w.heap.size ∧ w.cell? ⟨bl, o + k, none⟩ = some (.int .u8 x.toNat)) := Lib.hid fun k x hx => by
    have hk := (List.getElem?_eq_some_iff.1 hx).1
    obtain ⟨ad, e, hcell⟩ := ht.2 (by omega)
    have hcb : ∀ (j : Nat) (y : UInt8), xs[j]? = some y → (cb xs)[j]? = some (Value.int .u8 y.toNat) := fun j y hy => by unfold cb; rw [List.getElem?_map, hy]; rfl
    have e0 := hcell 0 _ (hcb 0 _ (List.getElem?_eq_getElem (by omega)))
    have ee : ad.add 0 = ad := by cases ad; simp [Addr.add]
    rw [ee] at e0
    have hsp := spotF e0
    have ek := hcell k _ (hcb k x hx)
    refine ⟨ad.block, ad.off, by rw [e]; exact congrArg some hsp, World.block_lt_of_cell? w _ e0, ?_⟩
    rw [hsp, Addr.add_lit] at ek
    exact ek
  have HNE := Lib.hid hne
  have HT : Hid (¬ (xs.length = 8 ∧ 127 < (xs.getD 7 0).toNat) → num xs < 9223372036854775808) := Lib.hid (num_top (by omega))
  obtain ⟨RV, hRV⟩ : ∃ z, z = rnum xs := ⟨_, rfl⟩
  rw [← hRV]
  have HRV := Lib.hid hRV
  clear ht hA hRV
  have hO : Hid (Only (w.heap.size ≤ ·) w w) := Lib.hid (Only.refl _ w)
  by_cases h8 : n = 8
  · obtain ⟨x, hx⟩ : ∃ x, xs[7]? = some x := ⟨_, List.getElem?_eq_getElem (by omega)⟩
    have hg : xs.getD 7 0 = x := by rw [List.getD_eq_getElem?_getD, hx]; rfl
    have hx8 := UInt8.toNat_lt x
    obtain ⟨bl, o, rfl, hbl, ec⟩ := HC.out 7 x hx
    have h8i : ((n : Int) == 8) = true := by rw [beq_iff_eq]; omega
    have h7 : 7 < n := by omega
    have h7i : (7 : Int) < (n : Int) := by omega
    by_cases hx7 : 127 < x.toNat
    · obtain rfl : RV = -1 := by rw [HRV.out]; unfold rnum; rw [if_pos ⟨by omega, by rw [hg]; exact hx7⟩]
      have hx7i : (127 : Int) < (x.toNat : Int) := by omega
      clear hx hg hne
      go_enter Tryd.func56, Tryd.ntmps56
      go_wp2
      go_ret
      exact ⟨rfl, hO.out⟩
    · have hno : ¬ (xs.length = 8 ∧ 127 < (xs.getD 7 0).toNat) := by rw [hg]; omega
      have HRN : Hid (RV = (num xs : Nat)) := Lib.hid (by rw [HRV.out]; unfold rnum; rw [if_neg hno])
      have HLT := Lib.hid (HT.out hno)
      have hx7i : ¬ (127 : Int) < (x.toNat : Int) := by omega
      have hwn : IntKind.i64.wrap ((n : Int) - 1) = (n : Int) - 1 := IntWalk.i64_in _ (by omega)
      clear hx hg hne hno
      go_enter Tryd.func56, Tryd.ntmps56
      go_wp2
      go_loopw [3, 4] (fun s i wr => ∃ (k : Nat), k ≤ n ∧ i = .int .i64 ((k : Int) - 1) ∧ s = .int .i64 (num (xs.drop k) : Nat) ∧ Hid (Only (w.heap.size ≤ ·) w wr)) (fun _ i _ => ((intOf i) + 1).toNat)
      case atStart => exact ⟨n, Nat.le_refl _, (by first | rfl | rw [show (n : Int) - 1 = 7 by omega]), by rw [List.drop_eq_nil_of_le (by rw [← HNE.out]; exact Nat.le_refl _)]; rfl, hO⟩
      case round =>
        obtain ⟨k, hk, rfl, rfl, HU⟩ := hrel
        rcases Nat.eq_zero_or_pos k with rfl | hk0
        · have hz : ¬ (0 : Int) ≤ ((0 : Nat) : Int) - 1 := by omega
          go_wp2
          go_ret
          exact ⟨by first | rfl | (rw [HRN.out]; rfl), HU.out⟩
        · obtain ⟨j, rfl⟩ : ∃ j, k = j + 1 := ⟨k - 1, by omega⟩
          rw [show ((j + 1 : Nat) : Int) - 1 = (j : Int) by omega]
          obtain ⟨x, hx⟩ : ∃ x, xs[j]? = some x := ⟨_, List.getElem?_eq_getElem (by have := HNE.out; omega)⟩
          obtain ⟨bl, o, e, hbl, ec⟩ := HC.out j x hx
          have hcx := (HU.out.cell (p := ⟨bl, o + j, none⟩) (Nat.not_le.2 hbl)).trans ec
          have hx8 := UInt8.toNat_lt x
          have hd := num_drop hx
          have hle := num_drop_le (xs := xs) j
          have hlt := HLT.out
          obtain ⟨a, ha⟩ : ∃ a, a = num (xs.drop (j + 1)) := ⟨_, rfl⟩
          obtain ⟨y, hy⟩ : ∃ y, y = x.toNat := ⟨_, rfl⟩
          rw [← ha, ← hy] at hd
          rw [← hy] at hcx hx8
          rw [← ha]
          have hw1 : IntKind.i64.wrap ((a : Int) * 256) = (a : Int) * 256 := IntWalk.i64_in _ (by omega)
          have hw2 : IntKind.i64.wrap ((a : Int) * 256 + (y : Int)) = (a : Int) * 256 + (y : Int) := IntWalk.i64_in _ (by omega)
          have hw3 : IntKind.i64.wrap (y : Int) = (y : Int) := IntWalk.i64_in _ (by omega)
          have hw4 : IntKind.i64.wrap ((j : Int) - 1) = (j : Int) - 1 := IntWalk.i64_in _ (by omega)
          have HV : Hid ((a : Int) * 256 + (y : Int) = ((num (xs.drop j) : Nat) : Int)) := Lib.hid (by omega)
          have z0 : (0 : Int) ≤ (j : Int) := by omega
          have z1 : (j : Int) < (n : Int) := by omega
          have z2 : j < n := by omega
          cases e
          clear hd hle hlt ha hy hx ec hbl
          go_wp2
          go_roundw
          case rel => exact ⟨j, by omega, rfl, by rw [HV.out], HU⟩
          case measure => (simp [intOf] <;> omega)
  · have h8i : ((n : Int) == 8) = false := by rw [beq_eq_false_iff_ne]; omega
    have hno : ¬ (xs.length = 8 ∧ 127 < (xs.getD 7 0).toNat) := by rw [← hne]; omega
    have HRN : Hid (RV = (num xs : Nat)) := Lib.hid (by rw [HRV.out]; unfold rnum; rw [if_neg hno])
    have HLT := Lib.hid (HT.out hno)
    have hwn : IntKind.i64.wrap ((n : Int) - 1) = (n : Int) - 1 := IntWalk.i64_in _ (by omega)
    clear hne hno
    go_enter Tryd.func56, Tryd.ntmps56
    go_wp2
    go_loopw [3, 4] (fun s i wr => ∃ (k : Nat), k ≤ n ∧ i = .int .i64 ((k : Int) - 1) ∧ s = .int .i64 (num (xs.drop k) : Nat) ∧ Hid (Only (w.heap.size ≤ ·) w wr)) (fun _ i _ => ((intOf i) + 1).toNat)
    case atStart => exact ⟨n, Nat.le_refl _, (by first | rfl | rw [show (n : Int) - 1 = 7 by omega]), by rw [List.drop_eq_nil_of_le (by rw [← HNE.out]; exact Nat.le_refl _)]; rfl, hO⟩
    case round =>
      obtain ⟨k, hk, rfl, rfl, HU⟩ := hrel
      rcases Nat.eq_zero_or_pos k with rfl | hk0
      · have hz : ¬ (0 : Int) ≤ ((0 : Nat) : Int) - 1 := by omega
        go_wp2
        go_ret
        exact ⟨by first | rfl | (rw [HRN.out]; rfl), HU.out⟩
      · obtain ⟨j, rfl⟩ : ∃ j, k = j + 1 := ⟨k - 1, by omega⟩
        rw [show ((j + 1 : Nat) : Int) - 1 = (j : Int) by omega]
        obtain ⟨x, hx⟩ : ∃ x, xs[j]? = some x := ⟨_, List.getElem?_eq_getElem (by have := HNE.out; omega)⟩
        obtain ⟨bl, o, e, hbl, ec⟩ := HC.out j x hx
        have hcx := (HU.out.cell (p := ⟨bl, o + j, none⟩) (Nat.not_le.2 hbl)).trans ec
        have hx8 := UInt8.toNat_lt x
        have hd := num_drop hx
        have hle := num_drop_le (xs := xs) j
        have hlt := HLT.out
        obtain ⟨a, ha⟩ : ∃ a, a = num (xs.drop (j + 1)) := ⟨_, rfl⟩
        obtain ⟨y, hy⟩ : ∃ y, y = x.toNat := ⟨_, rfl⟩
        rw [← ha, ← hy] at hd
        rw [← hy] at hcx hx8
        rw [← ha]
        have hw1 : IntKind.i64.wrap ((a : Int) * 256) = (a : Int) * 256 := IntWalk.i64_in _ (by omega)
        have hw2 : IntKind.i64.wrap ((a : Int) * 256 + (y : Int)) = (a : Int) * 256 + (y : Int) := IntWalk.i64_in _ (by omega)
        have hw3 : IntKind.i64.wrap (y : Int) = (y : Int) := IntWalk.i64_in _ (by omega)
        have hw4 : IntKind.i64.wrap ((j : Int) - 1) = (j : Int) - 1 := IntWalk.i64_in _ (by omega)
        have HV : Hid ((a : Int) * 256 + (y : Int) = ((num (xs.drop j) : Nat) : Int)) := Lib.hid (by omega)
        have z0 : (0 : Int) ≤ (j : Int) := by omega
        have z1 : (j : Int) < (n : Int) := by omega
        have z2 : j < n := by omega
        cases e
        clear hd hle hlt ha hy hx ec hbl
        go_wp2
        go_roundw
        case rel => exact ⟨j, by omega, rfl, by rw [HV.out], HU⟩
        case measure => (simp [intOf] <;> omega)
end Go.Proofs.YtbgnfocfnjlabaaDoor
