/-
  A writer and a reader side by side; a call of a script at hand.
-/
import Derived.Test.YtmkpcdcdhheokaaAliv
import Derived.Test.YtmkpcdcdhheokaaFew
import Derived.Test.YtmkpcdcdhheokaaWbyt
import Derived.Test.YtmkpcdcdhheokaaRbyt
import Derived.StillTailTactics
set_option linter.unusedVariables false
namespace Go.Proofs.Ytmkpcdcdhheokaa
open Go.RowKit

structure Two (w0 W : World) (p g q s : Nat) (cw cr : Cur) : Prop where
  lo : w0.heap.size ≤ p ∧ w0.heap.size ≤ g
  ap : p < q ∧ p < s ∧ g < q ∧ g < s
  wr : Holds W p g 41 cw
  rd : Holds W q s 55 cr
  only : Only (w0.heap.size ≤ ·) w0 W

section
variable {w0 w1 w2 : World} {p g q s : Nat} {cw cr c : Cur}
theorem Two.wop (h : Two w0 w1 p g q s cw cr) (ho : Only (Foot p g) w1 w2) (hh : Holds w2 p g 41 c) : Two w0 w2 p g q s c cr := by
  obtain ⟨⟨l1, l2⟩, ⟨a1, a2, a3, a4⟩, h3, h4, h5⟩ := h
  refine ⟨⟨l1, l2⟩, ⟨a1, a2, a3, a4⟩, hh, h4.only ho ?_, h5.trans (foot_ge l1 l2 ho)⟩
  rintro k (rfl | rfl) _ (e | e) <;> omega
theorem Two.rop (h : Two w0 w1 p g q s cw cr) (ho : Only (fun k => k = q ∨ w1.heap.size ≤ k) w1 w2) (hh : Holds w2 q s 55 c) : Two w0 w2 p g q s cw c := by
  obtain ⟨⟨l1, l2⟩, ⟨a1, a2, a3, a4⟩, h3, h4, h5⟩ := h
  have hs := h5.size
  refine ⟨⟨l1, l2⟩, ⟨a1, a2, a3, a4⟩, h3.only ho ?_, hh, h5.trans (ho.mono (G := (w0.heap.size ≤ ·)) fun k hk => by rcases hk with rfl | hk <;> omega)⟩
  rintro k (rfl | rfl) hk (e | e) <;> omega
theorem Two.later (h : Two w0 w1 p g q s cw cr) (ho : Only (w1.heap.size ≤ ·) w1 w2) : Two w0 w2 p g q s cw cr := ⟨h.lo, h.ap, h.wr.later ho, h.rd.later ho, on_new h.only ho⟩
theorem Two.drawn (h : Two w0 w1 p g q s cw cr) (ho : Drawn w1 w2) : Two w0 w2 p g q s cw cr := h.later ho.any
theorem Two.high (h : Two w0 w1 p g q s cw cr) : p < w1.heap.size ∧ q < w1.heap.size ∧ g < w1.heap.size := by
  have h1 := h.rd.lt
  obtain ⟨a1, a2, a3, a4⟩ := h.ap
  omega
end

theorem two_new {w0 w1 w2 w3 : World} {p g q s : Nat} {cw cr : Cur} (o1 : Only (w0.heap.size ≤ ·) w0 w1) (hp : w1.heap.size ≤ p ∧ w1.heap.size ≤ g ∧ g < w2.heap.size) (h2 : Holds w2 p g 41 cw) (o2 : Only (w1.heap.size ≤ ·) w1 w2)
    (hq : w2.heap.size ≤ q) (hs : w2.heap.size ≤ s) (h3 : Holds w3 q s 55 cr) (o3 : Only (w2.heap.size ≤ ·) w2 w3) : Two w0 w3 p g q s cw cr := by
  have := o1.size
  have := h2.lt
  exact ⟨by omega, by omega, h2.later o3, h3, on_new (on_new o1 o2) o3⟩

/-- In a round: the call at hand stands in the block b. -/
structure Rnd (w0 wk : World) (b p g q s : Nat) (cw cr : Cur) (o : Cl) : Prop where
  two : Two w0 wk p g q s cw cr
  op : Blk wk b 32 o.cells
  hi : p < b ∧ g < b ∧ q < b

section
variable {w0 w1 w2 : World} {b p g q s : Nat} {cw cr c : Cur} {o : Cl}
theorem Rnd.new (h : Two w0 w1 p g q s cw cr) (o : Cl) : Rnd w0 (w1.alloc (.cells #[.int .i64 o.kind, .int .i64 o.n, .int .i64 o.width, .slice o.B o.xs.length o.cB] 32)) w1.heap.size p g q s cw cr o :=
  ⟨h.later ((Only.refl _ w1).alloc (fun _ h => h) _), Blk.new w1 32 o.cells, by have := h.high; omega⟩
theorem Rnd.wop (h : Rnd w0 w1 b p g q s cw cr o) (ho : Only (Foot p g) w1 w2) (hh : Holds w2 p g 41 c) : Rnd w0 w2 b p g q s c cr o := by
  obtain ⟨h1, h2, h3⟩ := h
  exact ⟨h1.wop ho hh, h2.only ho (by rintro (e | e) <;> omega), h3⟩
theorem Rnd.sop (h : Rnd w0 w1 b p g q s cw cr o) (ho : Only (· = p) w1 w2) (hh : Holds w2 p g 41 c) : Rnd w0 w2 b p g q s c cr o := h.wop (ho.mono fun k h => .inl h) hh
theorem Rnd.rop (h : Rnd w0 w1 b p g q s cw cr o) (ho : Only (fun k => k = q ∨ w1.heap.size ≤ k) w1 w2) (hh : Holds w2 q s 55 c) : Rnd w0 w2 b p g q s cw c o := by
  obtain ⟨h1, h2, h3⟩ := h
  have := h2.lt
  exact ⟨h1.rop ho hh, h2.only ho (by rintro (e | e) <;> omega), h3⟩
theorem Rnd.qop (h : Rnd w0 w1 b p g q s cw cr o) (ho : Only (· = q) w1 w2) (hh : Holds w2 q s 55 c) : Rnd w0 w2 b p g q s cw c o := h.rop (ho.mono fun k h => .inl h) hh
theorem Rnd.later (h : Rnd w0 w1 b p g q s cw cr o) (ho : Only (w1.heap.size ≤ ·) w1 w2) : Rnd w0 w2 b p g q s cw cr o := by
  obtain ⟨h1, h2, h3⟩ := h
  have := h2.lt
  exact ⟨h1.later ho, h2.only ho (by omega), h3⟩
theorem Rnd.drew (h : Rnd w0 w1 b p g q s cw cr o) : Rnd w0 w1.drew b p g q s cw cr o := h.later ((Only.refl _ w1).drew)
theorem Rnd.drewN (h : Rnd w0 w1 b p g q s cw cr o) (n : Nat) : Rnd w0 (w1.drewN n) b p g q s cw cr o := h.later ((Only.refl _ w1).drewN n)
theorem Rnd.cells (h : Rnd w0 w1 b p g q s cw cr o) : w1.cell? ⟨b, 0, none⟩ = some (.int .i64 o.kind) ∧ w1.cell? ⟨b, 1, none⟩ = some (.int .i64 o.n) ∧ w1.cell? ⟨b, 2, none⟩ = some (.int .i64 o.width) ∧ w1.cell? ⟨b, 3, none⟩ = some (.slice o.B o.xs.length o.cB) :=
  ⟨h.op.cell 0, h.op.cell 1, h.op.cell 2, h.op.cell 3⟩
/-- The bytes of a call, and that they are none of the cursors'. -/
theorem Cl.Ok.src' (h : o.Ok w0) (ho : Only (w0.heap.size ≤ ·) w0 w1) : Src w1 (.slice o.B o.xs.length o.cB) o.xs := h.src.later ho
theorem Cl.Ok.far (h : o.Ok w0) (hp : w0.heap.size ≤ p) (hg : w0.heap.size ≤ g) : ∀ ad n c', Value.slice o.B o.xs.length o.cB = .slice (some ad) n c' → 0 < n → ¬ Foot p g ad.block := by
  intro ad n c' e hn hf
  injection e with e1 e2 e3
  obtain ⟨A, cap, hv, ht, _⟩ := h.src
  injection hv with h1 h2 h3
  rw [← h1, e1] at ht
  have := ht.block (by omega)
  rcases hf with e | e <;> omega
end
end Go.Proofs.Ytmkpcdcdhheokaa
