/-
  Pgs Pst Pfi Pkd Pit Phd Phf Rnm Pbd Rhd Heq Ser: as one text.
-/
import Derived.Test.YtbpldkhgiddmlaaGreatDoorGa
import Derived.Test.YtbpldkhgiddmlaaGreatDoorGc
import Derived.RegionTactic
import Derived.BigRegion
import Derived.Deep.CutRange
import Derived.Test.YtbpldkhgiddmlaaGreatDoorGb
import Derived.Test.YtbpldkhgiddmlaaGreatDoorGe
/-
  Kinds of pages, what a generation's pages bear: the small functions of page, and known of the document.
-/
set_option linter.unusedVariables false
namespace Go.Proofs.YtbpldkhgiddmlaaGreatDoor
open Go.RowKit

section
variable (w : World) (k g : Int)
end
end Go.Proofs.YtbpldkhgiddmlaaGreatDoor

/-
  start: a writer that has written the head.
-/
set_option linter.unusedVariables false
namespace Go.Proofs.YtbpldkhgiddmlaaGreatDoor
open Go.RowKit

def I64 (z : Int) : Prop := -9223372036854775808 ≤ z ∧ z ≤ 9223372036854775807
theorem I64.lo {z : Int} (h : I64 z) : -9223372036854775808 ≤ z := h.1
theorem I64.hi {z : Int} (h : I64 z) : z ≤ 9223372036854775807 := h.2
end Go.Proofs.YtbpldkhgiddmlaaGreatDoor

/-
  finish, Wrap: the page that was written, sealed if its generation asks for it.
-/
set_option linter.unusedVariables false
namespace Go.Proofs.YtbpldkhgiddmlaaGreatDoor
open Go.RowKit

/-- Bytes came back, of the call's own; only new blocks. -/
def GaveB (w : World) (xs : Bytes) (e : Ending) (w' : World) : Prop := ∃ v, e = .returned v ∧ Src w' v xs ∧ Only (w.heap.size ≤ ·) w w'
/-- Bytes and a number came back. -/
def GaveBE (w : World) (xs : Bytes) (z : Int) (e : Ending) (w' : World) : Prop := ∃ v, e = .returned (.tuple #[v, .int .i64 z]) ∧ Src w' v xs ∧ Only (w.heap.size ≤ ·) w w'
theorem Byt.gave {w w' : World} {v : Value} {n : Nat} {xs : Bytes} (h : Byt w w' v n xs) : Src w' v xs ∧ Only (w.heap.size ≤ ·) w w' := by
  obtain ⟨hn, ho, hw⟩ := h
  subst hn
  exact ⟨Src.own ho, hw⟩
end Go.Proofs.YtbpldkhgiddmlaaGreatDoor

/-
  putKid: a kid behind what the writer has.
-/
set_option linter.unusedVariables false
namespace Go.Proofs.YtbpldkhgiddmlaaGreatDoor
open Go.RowKit

end Go.Proofs.YtbpldkhgiddmlaaGreatDoor

/-
  putItem: an item behind what the writer has.
-/
set_option linter.unusedVariables false
namespace Go.Proofs.YtbpldkhgiddmlaaGreatDoor
open Go.RowKit

end Go.Proofs.YtbpldkhgiddmlaaGreatDoor

/-
  HeadOf of the program.
-/
set_option linter.unusedVariables false
namespace Go.Proofs.YtbpldkhgiddmlaaGreatDoor
open Go.RowKit

theorem results_cell_tmp {fn : Func} {P : Program} {p t : Tmp} {ty : TypeId} {tmps : Array Value} {w : World} {a : Addr} {v : Value} (h : fn.results = #[.cell p ty, .tmp t]) (ha : tmps.getD p undef = .pointer (some a)) (hl : (loadVar ty a).run P w = .ok v w) :
    (results fn tmps).run P w = .ok (.tuple #[v, tmps.getD t undef]) w := by
  rw [Array.getD_eq_getD_getElem?] at ha
  simp only [results, h]
  simp [ha, asAddr, hl]
end Go.Proofs.YtbpldkhgiddmlaaGreatDoor

/-
  headFor, unplaced.
-/
set_option linter.unusedVariables false
namespace Go.Proofs.YtbpldkhgiddmlaaGreatDoor
open Go.RowKit

end Go.Proofs.YtbpldkhgiddmlaaGreatDoor

/-
  number of the document.
-/
set_option linter.unusedVariables false
namespace Go.Proofs.YtbpldkhgiddmlaaGreatDoor
open Go.RowKit

end Go.Proofs.YtbpldkhgiddmlaaGreatDoor

/-
  Body of the program.
-/
set_option linter.unusedVariables false
namespace Go.Proofs.YtbpldkhgiddmlaaGreatDoor
open Go.RowKit

end Go.Proofs.YtbpldkhgiddmlaaGreatDoor

/-
  HeadOf of the document.
-/
set_option linter.unusedVariables false
namespace Go.Proofs.YtbpldkhgiddmlaaGreatDoor
open Go.RowKit

/-- A part of bytes, as a slice value. -/
theorem src_part {w : World} {bl o n cap : Nat} {b : Bytes} (h : Src w (.slice (some ⟨bl, o, none⟩) n cap) b) {a z : Nat} (ha : a ≤ z) (hz : z ≤ n) : Src w (.slice (some ⟨bl, o + a, none⟩) (z - a) (cap - a)) ((b.drop a).take (z - a)) := by
  obtain ⟨A, c, e, ht, _, hc, hm⟩ := h
  simp only [Value.slice.injEq] at e
  obtain ⟨rfl, en, rfl⟩ := e
  have h1 := ht.drop a
  rw [Addr.add_lit] at h1
  have h2 := h1.take (z - a) (by omega)
  have hl : ((b.drop a).take (z - a)).length = z - a := by rw [List.length_take, List.length_drop]; omega
  exact ⟨some ⟨bl, o + a, none⟩, cap - a, by rw [hl], by rw [hl]; exact h2, (fun e => by cases e), by rw [hl]; omega, by omega⟩
end Go.Proofs.YtbpldkhgiddmlaaGreatDoor

/-
  The program's head is the document's.
-/
set_option linter.unusedVariables false
namespace Go.Proofs.YtbpldkhgiddmlaaGreatDoor
open Go.RowKit

theorem cur_take {L : Bytes} {a k : Nat} (h : a + k ≤ L.length) : (⟨L, a, false⟩ : Cur).take (k : Int) = ⟨L, a + k, false⟩ := by
  unfold Cur.take
  rw [if_pos (Cur.has_of rfl h)]
  simp
theorem cur_get {L : Bytes} {a k : Nat} (h : a + k ≤ L.length) (h1 : 1 ≤ k) (h8 : k ≤ 8) (hl : num ((L.drop a).take k) < 9223372036854775808) :
    (⟨L, a, false⟩ : Cur).get (k : Int) = ⟨L, a + k, false⟩ ∧ (⟨L, a, false⟩ : Cur).val (k : Int) = num ((L.drop a).take k) := by
  have hh : (⟨L, a, false⟩ : Cur).has (k : Int) = true := Cur.has_of rfl h
  have hg : (⟨L, a, false⟩ : Cur).got (k : Int) = (L.drop a).take k := by unfold Cur.got; rw [if_pos hh]; simp
  have hm : (⟨L, a, false⟩ : Cur).may (k : Int) = true := by
    unfold Cur.may wide
    rw [hh, hg]
    simp only [Bool.and_eq_true, decide_eq_true_eq, true_and]
    exact ⟨⟨by omega, by omega⟩, hl⟩
  unfold Cur.get Cur.val
  rw [if_pos hm, if_pos hm, hg]
  exact ⟨cur_take h, rfl⟩
end Go.Proofs.YtbpldkhgiddmlaaGreatDoor

/-
  A page as plain bytes: the head, the entries, noughts; what a writer makes of them. No memory here.
-/
set_option linter.unusedVariables false
namespace Go.Proofs.YtbpldkhgiddmlaaGreatDoor

/-- Bytes, filled up with noughts. -/
def padB (z : Nat) (p : Bytes) : Bytes := p ++ List.replicate (z - p.length) 0
theorem padB_length {z : Nat} {p : Bytes} (h : p.length ≤ z) : (padB z p).length = z := by unfold padB; rw [List.length_append, List.length_replicate]; omega
/-- A writer behind these bytes. -/
def fill (z : Nat) (p : Bytes) : Cur := ⟨padB z p, p.length, false⟩
theorem over_pad {z : Nat} {p xs : Bytes} (h : p.length + xs.length ≤ z) : over (padB z p) p.length xs = padB z (p ++ xs) := by
  unfold over padB
  rw [List.take_left, List.drop_append, List.drop_eq_nil_of_le (by omega), List.drop_replicate, List.nil_append, List.length_append, List.append_assoc]
  congr 3
  omega
theorem fill_write {z : Nat} {p xs : Bytes} (h : p.length + xs.length ≤ z) : (fill z p).write xs = fill z (p ++ xs) := by
  have hh : (fill z p).has (xs.length : Int) = true := Cur.has_of rfl (by show p.length + xs.length ≤ (padB z p).length; rw [padB_length (by omega)]; exact h)
  unfold Cur.write
  rw [if_pos hh]
  unfold fill
  simp only [over_pad h, List.length_append]
theorem fill_put {z : Nat} {p : Bytes} {n w : Int} {a k : Nat} (hf : fits n w = true) (ha : n.toNat = a) (hk : w.toNat = k) (h : p.length + k ≤ z) : (fill z p).put n w = fill z (p ++ le a k) := by
  unfold Cur.put
  rw [if_pos hf, ha, hk]
  exact fill_write (by rw [le_length]; exact h)
theorem fill_take {z : Nat} {p : Bytes} {n : Int} {k : Nat} (hn : n = (k : Int)) (h : p.length + k ≤ z) : (fill z p).take n = fill z (p ++ List.replicate k 0) := by
  subst hn
  have hh : (fill z p).has (k : Int) = true := Cur.has_of rfl (by show p.length + k ≤ (padB z p).length; rw [padB_length (by omega)]; exact h)
  unfold Cur.take
  rw [if_pos hh]
  unfold fill
  simp only [Int.toNat_natCast]
  have e : padB z p = padB z (p ++ List.replicate k 0) := by
    unfold padB
    rw [List.append_assoc, List.replicate_append_replicate, List.length_append, List.length_replicate]
    congr 2
    omega
  rw [← e, List.length_append, List.length_replicate]
theorem fits_nat {n k : Nat} {w : Int} (hw : w = (k : Int)) (h1 : 1 ≤ k) (h8 : k ≤ 8) (h : n < 256 ^ k) : fits (n : Int) w = true := by
  subst hw
  unfold fits wide
  simp only [Bool.and_eq_true, decide_eq_true_eq, Int.toNat_natCast]
  refine ⟨⟨by omega, by omega⟩, by omega, ?_⟩
  have : n / 256 ^ k = 0 := Nat.div_eq_of_lt h
  have h2 : ((n / 256 ^ k : Nat) : Int) = 0 := by omega
  rw [Int.natCast_ediv, Int.natCast_pow] at h2
  exact h2
theorem fill_put1 {z : Nat} {p : Bytes} {n : Nat} (hn : n < 256) (h : p.length + 1 ≤ z) : (fill z p).put (n : Int) 1 = fill z (p ++ le n 1) :=
  fill_put (k := 1) (fits_nat (w := 1) (k := 1) rfl (by decide) (by decide) (by omega)) (Int.toNat_natCast _) rfl h
theorem idw {g : Int} (hg : gen g = true) : ∃ k : Nat, tr g 4 8 8 = (k : Int) ∧ (tr g 4 8 8).toNat = k ∧ 4 ≤ k ∧ k ≤ 8 := by
  rcases (gen_iff g).1 hg with rfl | rfl | rfl
  · exact ⟨4, rfl, rfl, by decide, by decide⟩
  · exact ⟨8, rfl, rfl, by decide, by decide⟩
  · exact ⟨8, rfl, rfl, by decide, by decide⟩
end Go.Proofs.YtbpldkhgiddmlaaGreatDoor
