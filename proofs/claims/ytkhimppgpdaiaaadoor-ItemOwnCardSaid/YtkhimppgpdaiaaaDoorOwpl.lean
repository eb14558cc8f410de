/-
  Bytes of the call's own, each one more: plain; the array under them.
-/
import Derived.Test.YtkhimppgpdaiaaaDoorAliv
set_option linter.unusedVariables false
namespace Go.Proofs.YtkhimppgpdaiaaaDoor
open Go.RowKit

def up (xs : Bytes) : Bytes := xs.map (· + 1)
def bump (xs : Bytes) (k : Nat) : Bytes := up (xs.take k) ++ xs.drop k
theorem bump_zero (xs : Bytes) : bump xs 0 = xs := by simp [bump, up]
theorem bump_all (xs : Bytes) : bump xs xs.length = up xs := by simp [bump, up]
theorem bump_length (xs : Bytes) (k : Nat) : (bump xs k).length = xs.length := by simp [bump, up]; omega
theorem bump_at {xs : Bytes} {k : Nat} {x : UInt8} (h : xs[k]? = some x) : (bump xs k)[k]? = some x := by
  have hk := (List.getElem?_eq_some_iff.1 h).1
  have e : (up (xs.take k)).length = k := by simp [up]; omega
  rw [bump, List.getElem?_append_right (by omega), e, Nat.sub_self, List.getElem?_drop, Nat.add_zero]
  exact h
theorem bump_set {xs : Bytes} {k : Nat} {x : UInt8} (h : xs[k]? = some x) : (bump xs k).set k (x + 1) = bump xs (k + 1) := by
  have hk := (List.getElem?_eq_some_iff.1 h).1
  have e : (up (xs.take k)).length = k := by simp [up]; omega
  have e2 : xs.take (k + 1) = xs.take k ++ [x] := by
    rw [List.take_succ_eq_append_getElem hk, (List.getElem?_eq_some_iff.1 h).2]
  rw [bump, List.set_append_right _ _ (by omega), e, Nat.sub_self, drop_cons h, List.set_cons_zero, bump, e2]
  simp [up]
theorem up_ne {xs : Bytes} (h : 0 < xs.length) : xs ≠ up xs := by
  cases xs with
  | nil => simp at h
  | cons x r =>
    intro e
    have := congrArg (·[0]?) e
    simp [up] at this
theorem up_val (x : UInt8) : IntKind.u8.wrap ((x.toNat : Nat) + 1 : Int) = (((x + 1).toNat : Nat) : Int) := by
  rw [UInt8.toNat_add]
  simp [IntKind.wrap, IntKind.signed, IntKind.bits]

/-- A slice value over an array of the call's own (block g), that holds these bytes. -/
structure Kept (w : World) (g : Nat) (A : Option Addr) (n c : Nat) (xs : Bytes) : Prop where
  len : xs.length = n
  arr : 0 < n → A = some ⟨g, 0, none⟩ ∧ ∃ rest, Blk w g 5 (cb xs ++ rest)
  cap : n ≤ c
  max : c ≤ 9223372036854775807
  nil_ : A = none → c = 0
theorem Kept.src {w : World} {g : Nat} {A : Option Addr} {n c : Nat} {xs : Bytes} (h : Kept w g A n c xs) : Src w (.slice A n c) xs := by
  obtain ⟨rfl, h2, h3, h4, h5⟩ := h
  refine ⟨A, c, rfl, ⟨rfl, fun hn => ?_⟩, h5, h3, h4⟩
  obtain ⟨rfl, rest, hb⟩ := h2 hn
  have := Txt.blk hb 0 xs.length (by omega) (A := some ⟨g, 0, none⟩) (fun _ => rfl)
  rw [List.drop_zero, List.take_length] at this
  exact this.2 hn
theorem Kept.keep {w w' : World} {F : Nat → Prop} {g : Nat} {A : Option Addr} {n c : Nat} {xs : Bytes} (h : Kept w g A n c xs) (ho : Only F w w') (hg : 0 < n → ¬ F g) : Kept w' g A n c xs :=
  ⟨h.len, fun hn => ⟨(h.arr hn).1, (h.arr hn).2.imp fun rest hb => hb.only ho (hg hn)⟩, h.cap, h.max, h.nil_⟩
theorem Kept.lt {w : World} {g : Nat} {A : Option Addr} {n c : Nat} {xs : Bytes} (h : Kept w g A n c xs) (hn : 0 < n) : g < w.heap.size := by
  obtain ⟨_, rest, hb⟩ := h.arr hn
  exact hb.lt
theorem Kept.cell {w : World} {g : Nat} {A : Option Addr} {n c : Nat} {xs : Bytes} {k : Nat} {x : UInt8} (h : Kept w g A n c xs) (hx : xs[k]? = some x) : w.cell? ⟨g, k, none⟩ = some (.int .u8 (x.toNat : Nat)) ∧ w.frozen? ⟨g, k, none⟩ = false := by
  have hk := (List.getElem?_eq_some_iff.1 hx).1
  obtain ⟨_, rest, hb⟩ := h.arr (by have := h.len; omega)
  refine ⟨?_, hb.frozen k⟩
  rw [hb.cell, List.getElem?_append_left (by rw [cb_length]; exact hk)]
  simp [cb, hx]
theorem Kept.set_ {w : World} {g : Nat} {A : Option Addr} {n c : Nat} {xs : Bytes} {k : Nat} (h : Kept w g A n c xs) (hk : k < n) (y : UInt8) : Kept (w.setCell ⟨g, k, none⟩ (.int .u8 (y.toNat : Nat))) g A n c (xs.set k y) := by
  refine ⟨by rw [List.length_set]; exact h.len, fun hn => ?_, h.cap, h.max, h.nil_⟩
  obtain ⟨e, rest, hb⟩ := h.arr hn
  refine ⟨e, rest, ?_⟩
  have := hb.set_ k (.int .u8 (y.toNat : Nat))
  rwa [List.set_append_left _ _ (by rw [cb_length, h.len]; exact hk), show (cb xs).set k (.int .u8 (y.toNat : Nat)) = cb (xs.set k y) by simp [cb, List.map_set]] at this
theorem kept_of_own {w : World} {b n : Nat} {v : Value} {xs : Bytes} (h : w.ownsRow b 5 1 v n (cb xs)) : ∃ g A c, v = .slice A n c ∧ Kept w g A n c xs ∧ b ≤ g := by
  have hl : xs.length = n := by have := h.1; rwa [cb_length, Nat.mul_one] at this
  rcases h.2 with ⟨rfl, rfl⟩ | ⟨g, cap, cur, rfl, hb, hg, hc, hm, h1, h2⟩
  · exact ⟨b, none, 0, rfl, ⟨hl, fun h => absurd h (by decide), Nat.le_refl _, by omega, fun _ => rfl⟩, Nat.le_refl _⟩
  · refine ⟨g, some ⟨g, 0, none⟩, cap, rfl, ⟨hl, fun hn => ⟨rfl, ?_⟩, hc, by simp only [maxLen] at hm; omega, fun e => by cases e⟩, hb⟩
    refine ⟨cur.toList.drop n, ?_⟩
    unfold Blk
    rw [hg, ← h2, Nat.mul_one, List.take_append_drop]
end Go.Proofs.YtkhimppgpdaiaaaDoor
