/-
  Bytes as cells; a slice value that holds these bytes.
-/
import Derived.Test.YtnjhpjpeeehagaaMem
set_option linter.unusedVariables false
namespace Go.Proofs.Ytnjhpjpeeehagaa
open Go.RowKit

abbrev Bytes := List UInt8
def cb (l : Bytes) : List Value := l.map fun b => .int .u8 b.toNat
theorem cb_length (l : Bytes) : (cb l).length = l.length := by simp [cb]
theorem cb_one (l : Bytes) : ∀ v ∈ cb l, v.oneCell' = true := by
  intro v hv
  simp only [cb, List.mem_map] at hv
  obtain ⟨b, _, rfl⟩ := hv
  rfl
theorem cb_append (a b : Bytes) : cb (a ++ b) = cb a ++ cb b := by simp [cb]
theorem cb_take (a : Bytes) (n : Nat) : cb (a.take n) = (cb a).take n := by simp [cb, List.map_take]
theorem cb_drop (a : Bytes) (n : Nat) : cb (a.drop n) = (cb a).drop n := by simp [cb, List.map_drop]
theorem cb_over (a : Bytes) (o : Nat) (b : Bytes) : cb (over a o b) = over (cb a) o (cb b) := over_map _ _ _ _
theorem cb_replicate (n : Nat) : cb (List.replicate n 0) = List.replicate n (.int .u8 0) := by simp [cb]

def Txt (w : World) (A : Option Addr) (n : Nat) (xs : Bytes) : Prop := xs.length = n ∧ (0 < n → ∃ ad, A = some ad ∧ ∀ j u, (cb xs)[j]? = some u → w.cell? (ad.add j) = some u)

theorem add_block' (a : Addr) (n : Nat) : (a.add n).block = a.block := by unfold Addr.add; split <;> rfl
theorem add_add (ad : Addr) (i j : Nat) : (ad.add i).add j = ad.add (i + j) := by
  unfold Addr.add
  by_cases hi : i = 0 <;> by_cases hj : j = 0 <;> simp [hi, hj, Nat.add_assoc]
theorem Txt.block {w : World} {ad : Addr} {n : Nat} {xs : Bytes} (h : Txt w (some ad) n xs) (hn : 0 < n) : ad.block < w.heap.size := by
  obtain ⟨ad', e, hc⟩ := h.2 hn
  cases e
  have hl : 0 < (cb xs).length := by rw [cb_length, h.1]; exact hn
  have := World.block_lt_of_cell? w _ (hc 0 _ (List.getElem?_eq_getElem hl))
  rwa [add_block'] at this
theorem Txt.only {w w' : World} {F : Nat → Prop} {A : Option Addr} {n : Nat} {xs : Bytes} (h : Txt w A n xs) (ho : Only F w w') (hF : ∀ ad, 0 < n → A = some ad → ¬ F ad.block) : Txt w' A n xs :=
  ⟨h.1, fun hn => by
    obtain ⟨ad, e, hc⟩ := h.2 hn
    exact ⟨ad, e, fun j u hu => (ho.cell (p := ad.add j) (by rw [add_block']; exact hF ad hn e)).trans (hc j u hu)⟩⟩
theorem Txt.later {w w' : World} {A : Option Addr} {n : Nat} {xs : Bytes} (h : Txt w A n xs) (ho : Only (w.heap.size ≤ ·) w w') : Txt w' A n xs :=
  ⟨h.1, fun hn => by
    obtain ⟨ad, e, hc⟩ := h.2 hn
    subst e
    have hb := Txt.block h hn
    exact ⟨ad, rfl, fun j u hu => (ho.cell (p := ad.add j) (by rw [add_block']; omega)).trans (hc j u hu)⟩⟩
theorem Txt.take {w : World} {ad : Addr} {n : Nat} {xs : Bytes} (h : Txt w (some ad) n xs) (a : Nat) (ha : a ≤ n) : Txt w (some ad) a (xs.take a) := by
  refine ⟨by simp; have := h.1; omega, fun h0 => ?_⟩
  obtain ⟨ad', e, hc⟩ := h.2 (by omega)
  refine ⟨ad', e, fun j u hu => hc j u ?_⟩
  rw [cb_take, List.getElem?_take] at hu
  split at hu
  · exact hu
  · cases hu
theorem Txt.drop {w : World} {ad : Addr} {n : Nat} {xs : Bytes} (h : Txt w (some ad) n xs) (a : Nat) : Txt w (some (ad.add a)) (n - a) (xs.drop a) := by
  refine ⟨by simp; have := h.1; omega, fun h0 => ?_⟩
  obtain ⟨ad', e, hc⟩ := h.2 (by omega)
  cases e
  refine ⟨_, rfl, fun j u hu => ?_⟩
  rw [add_add]
  exact hc _ u (by rw [← hu, cb_drop, List.getElem?_drop])
theorem Txt.nil_ (w : World) (A : Option Addr) : Txt w A 0 [] := ⟨rfl, fun h => absurd h (by decide)⟩
theorem Txt.at_ {w : World} {A : Option Addr} {n : Nat} {xs : Bytes} (h : Txt w A n xs) {k : Nat} (hk : k < n) : ∃ ad x, A = some ad ∧ xs[k]? = some x ∧ w.cell? (ad.add k) = some (.int .u8 (x.toNat : Nat)) := by
  obtain ⟨ad, e, hc⟩ := h.2 (by omega)
  obtain ⟨x, hx⟩ : ∃ x, xs[k]? = some x := ⟨_, List.getElem?_eq_getElem (by have := h.1; omega)⟩
  exact ⟨ad, x, e, hx, hc k _ (by simp [cb, hx])⟩
theorem Txt.src {w : World} {A : Option Addr} {n : Nat} {xs : Bytes} (h : Txt w A n xs) : ∀ ad, A = some ad → ∀ j u, (cb xs)[j]? = some u → w.cell? (ad.add j) = some u := by
  intro ad e j u hu
  have hj : j < (cb xs).length := (List.getElem?_eq_some_iff.1 hu).1
  rw [cb_length, h.1] at hj
  obtain ⟨ad', e', hc⟩ := h.2 (by omega)
  rw [e] at e'
  cases e'
  exact hc j u hu
/-- Bytes of a block that is known whole. -/
theorem Txt.blk {w : World} {g : Nat} {t : TypeId} {xs : Bytes} {rest : List Value} (h : Blk w g t (cb xs ++ rest)) (o k : Nat) (hk : o + k ≤ xs.length) {A : Option Addr} (hA : 0 < k → A = some ⟨g, o, none⟩) : Txt w A k ((xs.drop o).take k) := by
  refine ⟨by simp; omega, fun hn => ⟨_, hA hn, fun j u hu => ?_⟩⟩
  have hj : j < k := by
    have := (List.getElem?_eq_some_iff.1 hu).1
    simp [cb] at this
    omega
  rw [Addr.add_mid, h.cell, List.getElem?_append_left (by rw [cb_length]; omega), ← hu]
  simp only [cb, List.getElem?_map, List.getElem?_take, if_pos hj, List.getElem?_drop]
/-- A row of one's own, as bytes that can be read. -/
theorem txt_of_own {w : World} {B n : Nat} {v : Value} {xs : Bytes} (h : w.ownsRow B 5 1 v n (cb xs)) : ∃ A c, v = .slice A n c ∧ Txt w A n xs ∧ (A = none → n = 0 ∧ c = 0) ∧ n ≤ c ∧ c ≤ maxLen ∧ (∀ ad, A = some ad → B ≤ ad.block ∧ ad.block < w.heap.size) := by
  have hl : xs.length = n := by have := h.1; rwa [cb_length, Nat.mul_one] at this
  rcases h.2 with ⟨rfl, rfl⟩ | ⟨g, cap, cur, rfl, hb, hg, hc, hm, _, _⟩
  · exact ⟨none, 0, rfl, ⟨hl, fun h => absurd h (by decide)⟩, fun _ => ⟨rfl, rfl⟩, Nat.le_refl _, Nat.zero_le _, fun ad e => by cases e⟩
  · refine ⟨some ⟨g, 0, none⟩, cap, rfl, ⟨hl, fun _ => ⟨_, rfl, ?_⟩⟩, (fun e => by cases e), hc, hm, fun ad e => ?_⟩
    · exact h.cells (g := g) rfl
    · cases e
      exact ⟨hb, (Array.getElem?_eq_some_iff.1 hg).1⟩
end Go.Proofs.Ytnjhpjpeeehagaa
