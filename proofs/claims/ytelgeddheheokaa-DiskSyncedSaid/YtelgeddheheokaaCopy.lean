/-
  Copy of a disk.
-/
import Derived.Test.YtelgeddheheokaaMeth
set_option linter.unusedVariables false
namespace Go.Proofs.Ytelgeddheheokaa
open Go.RowKit

/-- In the midst of a copy: the new struct's cells, the old disk. -/
structure Mid (w wk : World) (p : Nat) (d : Dsk) (Ad As Ar : Option Addr) (cd cs cr : Nat) (vals : List Value) : Prop where
  blk : Blk wk w.heap.size 56 vals
  disk : DiskIn wk p d d.see Ad As Ar cd cs cr
  foot : ∀ k, Foot p Ad As Ar k → k < w.heap.size
  only : Only (w.heap.size ≤ ·) w wk
section
variable {w wk w1 : World} {p : Nat} {d : Dsk} {Ad As Ar : Option Addr} {cd cs cr : Nat} {vals : List Value}
theorem Mid.start (hd : DiskIn w p d d.see Ad As Ar cd cs cr) : Mid w (w.alloc (.cells (fieldsOf d Ad As Ar cd cs cr).toArray 56)) p d Ad As Ar cd cs cr (fieldsOf d Ad As Ar cd cs cr) :=
  ⟨Blk.new w 56 _, hd.alloc _, hd.lt, (Only.refl _ w).alloc (fun _ h => h) _⟩
theorem Mid.grow (h : Mid w wk p d Ad As Ar cd cs cr vals) (ho : Only (wk.heap.size ≤ ·) wk w1) : Mid w w1 p d Ad As Ar cd cs cr vals :=
  ⟨h.blk.only ho (by have := h.blk.lt; omega), h.disk.only ho (fun k hk => by have := h.disk.lt k hk; omega), h.foot, h.only.trans (ho.mono fun k (hk : wk.heap.size ≤ k) => Nat.le_trans h.only.size hk)⟩
theorem Mid.set (h : Mid w wk p d Ad As Ar cd cs cr vals) (i : Nat) (v : Value) : Mid w (wk.setCell ⟨w.heap.size, i, none⟩ v) p d Ad As Ar cd cs cr (vals.set i v) :=
  ⟨h.blk.set_ i v, h.disk.keep (fun k hk => Below.heap_setCell wk ⟨w.heap.size, i, none⟩ v k (by have := h.foot k hk; show k ≠ w.heap.size; omega)), h.foot, h.only.setCell (p := ⟨w.heap.size, i, none⟩) (Nat.le_refl _) v⟩
/-- What the next step of the walk looks for. -/
theorem Mid.seen (h : Mid w wk p d Ad As Ar cd cs cr vals) :
    (wk.cell? ⟨p, 1, none⟩ = some (.slice Ad d.n cd) ∧ wk.cell? ⟨p, 2, none⟩ = some (.slice As d.n cs) ∧ wk.cell? ⟨p, 3, none⟩ = some (.slice Ar d.row.length cr)) ∧
      (∀ i, wk.frozen? ⟨w.heap.size, i, none⟩ = false) ∧ ∀ i, wk.cell? ⟨w.heap.size, i, none⟩ = vals[i]? :=
  ⟨⟨h.disk.blk.cell 1, h.disk.blk.cell 2, h.disk.blk.cell 3⟩, h.blk.frozen, h.blk.cell⟩
end

set_option maxRecDepth 100000 in
set_option maxHeartbeats 1600000 in
theorem Copy_c (w : World) (F : Nat → Prop) (p : Nat) (d : Dsk) (h : Holds w F p d) (hr : d.row.length ≤ 4294967296) :
    Calls Try.prog 17 #[.pointer (some ⟨p, 0, none⟩)] w fun e w' => e = .returned (.pointer (some ⟨w.heap.size, 0, none⟩)) ∧ Holds w' (w.heap.size ≤ ·) w.heap.size d ∧ Only (w.heap.size ≤ ·) w w' := by
  obtain ⟨hw, Ad, As, Ar, cd, cs, cr, hd, hf⟩ := h
  have c0 : w.cell? ⟨p, 0, none⟩ = some (.int .i64 d.limit) := hd.blk.cell 0
  have c1 : w.cell? ⟨p, 1, none⟩ = some (.slice Ad d.n cd) := hd.blk.cell 1
  have c2 : w.cell? ⟨p, 2, none⟩ = some (.slice As d.n cs) := hd.blk.cell 2
  have c3 : w.cell? ⟨p, 3, none⟩ = some (.slice Ar d.row.length cr) := hd.blk.cell 3
  have c4 : w.cell? ⟨p, 4, none⟩ = some (.int .i64 d.ops) := hd.blk.cell 4
  have c5 : w.cell? ⟨p, 5, none⟩ = some (.bool d.armed) := hd.blk.cell 5
  have c6 : w.cell? ⟨p, 6, none⟩ = some (.int .i64 d.left) := hd.blk.cell 6
  have c7 : w.cell? ⟨p, 7, none⟩ = some (.bool d.down) := hd.blk.cell 7
  have hplt : p < w.heap.size := hd.blk.lt
  have hn : d.n ≤ 4294967296 := by have := hw.nl; have := hw.lim; omega
  have S0 := Lib.hid (Mid.start hd)
  have Hw := Lib.hid hw
  clear hd hf hw
  go_enter Try.func17, Try.ntmps17
  go_wp2_with fail
  refine (clone53_x _ 0 (.slice Ad d.n cd) d.n (cb d.dur) S0.out.disk.dur hn (cb_one _)).mono ?_
  rintro e w1 ⟨A1, e1, rfl, H1⟩
  have S1 := Lib.hid (S0.out.grow H1.out.2.2)
  obtain ⟨⟨k1, k2, k3⟩, kf, kc⟩ := S1.out.seen
  have kc1 := kc 1
  have kc2 := kc 2
  have kc3 := kc 3
  simp only [fieldsOf, List.getElem?_cons_succ, List.getElem?_cons_zero] at kc1 kc2 kc3
  clear kc c0 c1 c2 c3 c4 c5 c6 c7
  have S1' := Lib.hid (S1.out.set 1 (.slice A1 d.n e1))
  go_wp2_with fail
  refine (clone53_x _ 0 (.slice As d.n cs) d.n (cb d.see) S1'.out.disk.seen hn (cb_one _)).mono ?_
  rintro e w2 ⟨A2, e2, rfl, H2⟩
  have S2 := Lib.hid (S1'.out.grow H2.out.2.2)
  clear k1 k2 k3 kf kc1 kc2 kc3
  obtain ⟨⟨k1, k2, k3⟩, kf, kc⟩ := S2.out.seen
  have kc2 := kc 2
  have kc3 := kc 3
  simp only [fieldsOf, List.set_cons_succ, List.set_cons_zero, List.getElem?_cons_succ, List.getElem?_cons_zero] at kc2 kc3
  clear kc
  have S2' := Lib.hid (S2.out.set 2 (.slice A2 d.n e2))
  go_wp2_with fail
  refine (clone58_x _ 0 (.slice Ar d.row.length cr) d.row.length (rowCells d.row) S2'.out.disk.row hr (rowCells_one' _)).mono ?_
  rintro e w3 ⟨A3, e3, rfl, H3⟩
  have S3 := Lib.hid (S2'.out.grow H3.out.2.2)
  clear k1 k2 k3 kf kc2 kc3
  obtain ⟨_, kf, kc⟩ := S3.out.seen
  have kc3 := kc 3
  simp only [fieldsOf, List.set_cons_succ, List.set_cons_zero, List.getElem?_cons_succ, List.getElem?_cons_zero] at kc3
  clear kc
  have S3' := Lib.hid (S3.out.set 3 (.slice A3 d.row.length e3))
  go_wp2
  go_ret
  have z1 : w.heap.size + 1 ≤ w1.heap.size := by have := H1.out.2.2.size; simpa using this
  have z2 : w1.heap.size ≤ w2.heap.size := by have := H2.out.2.2.size; simpa [World.setCell] using this
  have z3 : w2.heap.size ≤ w3.heap.size := by have := H3.out.2.2.size; simpa [World.setCell] using this
  have u1 : ∀ (k : Nat) (i : Nat) (v : Value) (W : World), k ≠ w.heap.size → (W.setCell ⟨w.heap.size, i, none⟩ v).heap[k]? = W.heap[k]? := fun k i v W hk => Below.heap_setCell W ⟨w.heap.size, i, none⟩ v k hk
  have u2 : ∀ k, k ≠ w.heap.size → k < w1.heap.size → w2.heap[k]? = w1.heap[k]? := fun k hk hlt => (H2.out.2.2.block k (by simp [World.setCell]; omega)).trans (u1 k 1 _ w1 hk)
  have u3 : ∀ k, k ≠ w.heap.size → k < w2.heap.size → w3.heap[k]? = w2.heap[k]? := fun k hk hlt => (H3.out.2.2.block k (by simp [World.setCell]; omega)).trans (u1 k 2 _ w2 hk)
  have b1 : ∀ a, A1 = some a → w.heap.size < a.block ∧ a.block < w1.heap.size := fun a ha => by
    have h := H1.out.2.1 a ha
    obtain ⟨g, cur, rfl, hb, _⟩ := owns_form H1.out.1 ha
    exact ⟨by simp at h ⊢; omega, hb.lt⟩
  have b2 : ∀ a, A2 = some a → w1.heap.size ≤ a.block ∧ a.block < w2.heap.size := fun a ha => by
    have h := H2.out.2.1 a ha
    obtain ⟨g, cur, rfl, hb, _⟩ := owns_form H2.out.1 ha
    exact ⟨by simpa [World.setCell] using h, hb.lt⟩
  have b3 : ∀ a, A3 = some a → w2.heap.size ≤ a.block ∧ a.block < w3.heap.size := fun a ha => by
    have h := H3.out.2.1 a ha
    obtain ⟨g, cur, rfl, hb, _⟩ := owns_form H3.out.1 ha
    exact ⟨by simpa [World.setCell] using h, hb.lt⟩
  refine ⟨rfl, ⟨Hw.out, A1, A2, A3, e1, e2, e3, ⟨S3'.out.blk, ?_, ?_, ?_, ?_⟩, ?_⟩, S3'.out.only⟩
  · refine owns_far (owns_base H1.out.1 (Nat.zero_le _)) fun a ha => ?_
    have := b1 a ha
    exact ((u1 _ 3 _ w3 (by omega)).trans (u3 _ (by omega) (by omega))).trans (u2 _ (by omega) (by omega))
  · refine owns_far (owns_base H2.out.1 (Nat.zero_le _)) fun a ha => ?_
    have := b2 a ha
    exact (u1 _ 3 _ w3 (by omega)).trans (u3 _ (by omega) (by omega))
  · refine owns_far (owns_base H3.out.1 (Nat.zero_le _)) fun a ha => ?_
    have := b3 a ha
    exact u1 _ 3 _ w3 (by omega)
  · intro a b ha hb
    have := b1 a ha
    have := b2 b hb
    omega
  · rintro k (rfl | ⟨a, ha, rfl⟩ | ⟨a, ha, rfl⟩ | ⟨a, ha, rfl⟩)
    · exact Nat.le_refl _
    · have := b1 a ha; show w.heap.size ≤ _; omega
    · have := b2 a ha; show w.heap.size ≤ _; omega
    · have := b3 a ha; show w.heap.size ≤ _; omega
end Go.Proofs.Ytelgeddheheokaa
