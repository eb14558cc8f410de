/-
  A disk beside other memory: what is neither the disk's nor new stays.
-/
import Derived.Test.YtbpldkhgiddmlaaGreatDoorGd
import Derived.Test.YtbpldkhgiddmlaaGreatDoorGa
set_option linter.unusedVariables false
namespace Go.Proofs.YtbpldkhgiddmlaaGreatDoor
open Go.RowKit

/-- A block emptied. -/
def wipe (w : World) (b : Nat) : World := { w with heap := w.heap.modify b fun _ => .cells #[] 0 }
theorem wipe_only (w : World) (b : Nat) {F : Nat → Prop} (hF : F b) : Only F w (wipe w b) := ⟨rfl, rfl, rfl, by simp [wipe], fun k hk => by
  have hne : b ≠ k := fun e => hk (e ▸ hF)
  show (w.heap.modify b _)[k]? = _
  rw [Array.getElem?_modify, if_neg hne]⟩
theorem wipe_cell (w : World) (ad : Addr) : (wipe w ad.block).cell? ad = none := by
  unfold World.cell? wipe
  simp only [Array.getElem?_modify, if_pos]
  cases w.heap[ad.block]? <;> simp
theorem stab_off {D : Nat → Prop} {w : World} {A : Option Addr} {n c : Nat} {xs : Bytes} (h : Stab D w (fun W => Src W (.slice A n c) xs)) (hn : 0 < n) {ad : Addr} (hA : A = some ad) : ¬ D ad.block ∧ ad.block < w.heap.size := by
  subst hA
  have h0 := h.now
  obtain ⟨A0, c0, e0, ht0, _⟩ := h0
  simp only [Value.slice.injEq] at e0
  obtain ⟨e1, e2, e3⟩ := e0
  subst e1 e2
  refine ⟨fun hD => ?_, Txt.block ht0 hn⟩
  obtain ⟨A', c', e, ht, _⟩ := h (wipe w ad.block) (wipe_only w ad.block (.inl hD))
  simp only [Value.slice.injEq] at e
  obtain ⟨e4, _, _⟩ := e
  subst e4
  obtain ⟨ad', e5, hc⟩ := ht.2 hn
  cases e5
  have hl : 0 < (cb xs).length := by rw [cb_length]; exact hn
  have h1 := hc 0 _ (List.getElem?_eq_getElem hl)
  have h2 := wipe_cell w (ad.add 0)
  rw [add_block'] at h2
  rw [h2] at h1
  cases h1

/-- The disk d stands at p, in blocks of which D speaks. -/
structure DAt (w : World) (p : Nat) (d : Dk.Dsk) (D : Nat → Prop) : Prop where
  holds : Dk.Holds w D p d
  lt : ∀ k, D k → k < w.heap.size
theorem DAt.later {w w' : World} {p : Nat} {d : Dk.Dsk} {D : Nat → Prop} (h : DAt w p d D) (ho : Only (w.heap.size ≤ ·) w w') : DAt w' p d D :=
  ⟨h.holds.keep ho fun k hk _ hn => by have := h.lt k hk; omega, fun k hk => Nat.lt_of_lt_of_le (h.lt k hk) ho.size⟩
theorem DAt.grown {w : World} {p : Nat} {d : Dk.Dsk} {D : Nat → Prop} (h : DAt w p d D) : Dk.Holds w (fun k => D k ∨ w.heap.size ≤ k) p d := h.holds.mono fun _ _ hk => .inl hk
theorem DAt.wf {w : World} {p : Nat} {d : Dk.Dsk} {D : Nat → Prop} (h : DAt w p d D) : d.WF := h.holds.1
/-- The disk is d' now; nothing else has changed. -/
def DGave (w w' : World) (p : Nat) (d' : Dk.Dsk) (D : Nat → Prop) : Prop := Only (fun k => D k ∨ w.heap.size ≤ k) w w' ∧ ∃ D', DAt w' p d' D' ∧ ∀ k, D' k → D k ∨ w.heap.size ≤ k
theorem DGave.mk {w w' : World} {p : Nat} {d' : Dk.Dsk} {D : Nat → Prop} (h : Dk.Holds w' (fun k => D k ∨ w.heap.size ≤ k) p d') (ho : Only (fun k => D k ∨ w.heap.size ≤ k) w w') : DGave w w' p d' D :=
  ⟨ho, fun k => (D k ∨ w.heap.size ≤ k) ∧ k < w'.heap.size, ⟨h.mono fun k hk hF => ⟨hF, hk⟩, fun k hk => hk.2⟩, fun k hk => hk.1⟩
theorem DGave.refl {w : World} {p : Nat} {d : Dk.Dsk} {D : Nat → Prop} (h : DAt w p d D) : DGave w w p d D := ⟨Only.refl _ _, D, h, fun _ hk => .inl hk⟩
theorem DGave.of {w w' : World} {p : Nat} {d : Dk.Dsk} {D : Nat → Prop} (h : DAt w p d D) (ho : Only (w.heap.size ≤ ·) w w') : DGave w w' p d D := ⟨ho.mono fun _ hk => .inr hk, D, h.later ho, fun _ hk => .inl hk⟩
/-- One after the other. -/
theorem DGave.trans {w w1 w2 : World} {p : Nat} {d1 d2 : Dk.Dsk} {D D1 : Nat → Prop} (ho : Only (fun k => D k ∨ w.heap.size ≤ k) w w1) (hD : ∀ k, D1 k → D k ∨ w.heap.size ≤ k) (h2 : DGave w1 w2 p d2 D1) : DGave w w2 p d2 D := by
  obtain ⟨o2, D2, a2, s2⟩ := h2
  have hs : ∀ k, D1 k ∨ w1.heap.size ≤ k → D k ∨ w.heap.size ≤ k := fun k hk => hk.elim (hD k) fun hk => .inr (Nat.le_trans ho.size hk)
  exact ⟨ho.trans (o2.mono hs), D2, a2, fun k hk => hs k (s2 k hk)⟩

def I64v (n : Int) : Prop := -9223372036854775808 ≤ n ∧ n ≤ 9223372036854775807
theorem Write_d (w : World) (p : Nat) (d : Dk.Dsk) (D : Nat → Prop) (h : DAt w p d D) (ho : d.ops < 4611686018427387904) (hr : d.row.length ≤ 4294967296) (at_ : Int) (ha : I64v at_) (A : Option Addr) (n c : Nat) (xs : Bytes) (hs : Stab D w (fun W => Src W (.slice A n c) xs)) :
    Calls Tryz.prog 62 #[.pointer (some ⟨p, 0, none⟩), .int .i64 at_, .slice A n c] w fun e w' => e = .returned (.int .i64 (d.write at_ xs).2) ∧ DGave w w' p (d.write at_ xs).1 D := by
  have h0 := hs.now
  obtain ⟨A0, c0, e0, ht, hA, hc, hm⟩ := h0
  simp only [Value.slice.injEq] at e0
  obtain ⟨e1, e2, e3⟩ := e0
  subst e1 e2 e3
  refine (Dk.Write_c w (fun k => D k ∨ w.heap.size ≤ k) (fun k hk => .inr hk) p d h.grown ho at_ ha.1 ha.2 A xs.length c xs ⟨cb_length xs, fun hn => ?_⟩ hc (by simp only [maxLen]; omega) hr).mono ?_
  · obtain ⟨ad, e, hcells⟩ := ht.2 hn
    obtain ⟨k1, k2⟩ := stab_off hs hn e
    exact ⟨ad, e, fun hk => hk.elim k1 fun hk => by omega, hcells⟩
  · rintro e w' ⟨rfl, h1, h2⟩
    exact ⟨rfl, .mk h1 h2⟩
theorem Sync_d (w : World) (p : Nat) (d : Dk.Dsk) (D : Nat → Prop) (h : DAt w p d D) (ho : d.ops < 4611686018427387904) (hr : d.row.length ≤ 4294967296) :
    Calls Tryz.prog 63 #[.pointer (some ⟨p, 0, none⟩)] w fun e w' => e = .returned (.int .i64 d.sync.2) ∧ DGave w w' p d.sync.1 D := by
  refine (Dk.Sync_c w (fun k => D k ∨ w.heap.size ≤ k) (fun k hk => .inr hk) p d h.grown ho hr).mono ?_
  rintro e w' ⟨rfl, h1, h2⟩
  exact ⟨rfl, .mk h1 h2⟩
theorem Grow_d (w : World) (p : Nat) (d : Dk.Dsk) (D : Nat → Prop) (h : DAt w p d D) (n : Int) (hn : I64v n) :
    Calls Tryz.prog 61 #[.pointer (some ⟨p, 0, none⟩), .int .i64 n] w fun e w' => e = .returned (.int .i64 (d.grow n).2) ∧ DGave w w' p (d.grow n).1 D := by
  refine (Dk.Grow_c w (fun k => D k ∨ w.heap.size ≤ k) (fun k hk => .inr hk) p d h.grown n hn.1 hn.2).mono ?_
  rintro e w' ⟨rfl, h1, h2⟩
  exact ⟨rfl, .mk h1 h2⟩
end Go.Proofs.YtbpldkhgiddmlaaGreatDoor
