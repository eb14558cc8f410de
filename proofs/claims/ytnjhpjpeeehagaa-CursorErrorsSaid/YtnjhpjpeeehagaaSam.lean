/-
  Same of the document, and of the program, where both are the same.
-/
import Derived.Test.YtnjhpjpeeehagaaSame
import Derived.Test.YtnjhpjpeeehagaaNrm
import Derived.Test.YtnjhpjpeeehagaaCpy
set_option linter.unusedVariables false
namespace Go.Proofs.Ytnjhpjpeeehagaa
open Go.RowKit

theorem its_both {w : World} {A A2 : Option Addr} {n c c2 : Nat} {l : List It} (h : Its w (.slice A n c) l) (h2 : Its w (.slice A2 n c2) l) : (∀ (k : Nat), k < n → ∃ (b off b2 off2 : Nat) (P Q P2 Q2 : Option Addr) (t p e q p2 q2 : Nat) (s r : Int), A = some ⟨b, off, none⟩ ∧ A2 = some ⟨b2, off2, none⟩ ∧
    (∀ W, Only (w.heap.size ≤ ·) w W → W.cell? ⟨b, off + k * 4, none⟩ = some (.slice P t p) ∧ W.cell? ⟨b, off + k * 4 + 1, none⟩ = some (.slice Q e q) ∧ W.cell? ⟨b, off + k * 4 + 2, none⟩ = some (.int .i64 s) ∧ W.cell? ⟨b, off + k * 4 + 3, none⟩ = some (.int .i64 r) ∧
      W.cell? ⟨b2, off2 + k * 4, none⟩ = some (.slice P2 t p2) ∧ W.cell? ⟨b2, off2 + k * 4 + 1, none⟩ = some (.slice Q2 e q2) ∧ W.cell? ⟨b2, off2 + k * 4 + 2, none⟩ = some (.int .i64 s) ∧ W.cell? ⟨b2, off2 + k * 4 + 3, none⟩ = some (.int .i64 r)) ∧
    (∀ W, Only (w.heap.size ≤ ·) w W → Calls Try.prog 15 #[.agg #[.slice P t p, .slice Q e q, .int .i64 s, .int .i64 r], .agg #[.slice P2 t p2, .slice Q2 e q2, .int .i64 s, .int .i64 r]] W (Told W (.bool true)))) := by
  intro k hk
  obtain ⟨b, off, y, P, Q, p, q, e1, hb, hy, q0, q1, q2, q3, s1, s2⟩ := its_at h hk
  obtain ⟨b2, off2, y2, P2, Q2, p2, q2', e2, hb2, hy2, r0, r1, r2, r3, t1, t2⟩ := its_at h2 hk
  obtain rfl : y = y2 := Option.some.inj (hy.symm.trans hy2)
  obtain ⟨xs, ys, s, r⟩ := y
  have g : ∀ W, Only (w.heap.size ≤ ·) w W → ∀ j v, w.cell? ⟨b, j, none⟩ = some v → W.cell? ⟨b, j, none⟩ = some v := fun W hW j v hv => (hW.cell (p := ⟨b, j, none⟩) (Nat.not_le.2 hb)).trans hv
  have g2 : ∀ W, Only (w.heap.size ≤ ·) w W → ∀ j v, w.cell? ⟨b2, j, none⟩ = some v → W.cell? ⟨b2, j, none⟩ = some v := fun W hW j v hv => (hW.cell (p := ⟨b2, j, none⟩) (Nat.not_le.2 hb2)).trans hv
  exact ⟨b, off, b2, off2, P, Q, P2, Q2, xs.length, p, ys.length, q, p2, q2', s, r, e1, e2, fun W hW => ⟨g W hW _ _ q0, g W hW _ _ q1, g W hW _ _ q2, g W hW _ _ q3, g2 W hW _ _ r0, g2 W hW _ _ r1, g2 W hW _ _ r2, g2 W hW _ _ r3⟩,
    fun W hW => rSame_c W P Q P2 Q2 _ p _ q _ p2 _ q2' s r s r xs ys xs ys true (s1.later hW) (s2.later hW) (t1.later hW) (t2.later hW) (decide_eq_true ⟨rfl, rfl, rfl, rfl⟩)⟩

theorem kds_both {w : World} {B B2 : Option Addr} {m d d2 : Nat} {l : List Kd} (h : Kds w (.slice B m d) l) (h2 : Kds w (.slice B2 m d2) l) : (∀ (k : Nat), k < m → ∃ (b off b2 off2 : Nat) (P P2 : Option Addr) (t p p2 : Nat) (r : Int) (xs : Bytes), B = some ⟨b, off, none⟩ ∧ B2 = some ⟨b2, off2, none⟩ ∧ t = xs.length ∧
    (∀ W, Only (w.heap.size ≤ ·) w W → W.cell? ⟨b, off + k * 2, none⟩ = some (.slice P t p) ∧ W.cell? ⟨b, off + k * 2 + 1, none⟩ = some (.int .i64 r) ∧ W.cell? ⟨b2, off2 + k * 2, none⟩ = some (.slice P2 t p2) ∧ W.cell? ⟨b2, off2 + k * 2 + 1, none⟩ = some (.int .i64 r)) ∧
    (∀ W, Only (w.heap.size ≤ ·) w W → Src W (.slice P t p) xs ∧ Src W (.slice P2 t p2) xs)) := by
  intro k hk
  obtain ⟨b, off, y, P, p, e1, hb, hy, q0, q1, s1⟩ := kds_at h hk
  obtain ⟨b2, off2, y2, P2, p2, e2, hb2, hy2, r0, r1, t1⟩ := kds_at h2 hk
  obtain rfl : y = y2 := Option.some.inj (hy.symm.trans hy2)
  obtain ⟨xs, r⟩ := y
  have g : ∀ W, Only (w.heap.size ≤ ·) w W → ∀ j v, w.cell? ⟨b, j, none⟩ = some v → W.cell? ⟨b, j, none⟩ = some v := fun W hW j v hv => (hW.cell (p := ⟨b, j, none⟩) (Nat.not_le.2 hb)).trans hv
  have g2 : ∀ W, Only (w.heap.size ≤ ·) w W → ∀ j v, w.cell? ⟨b2, j, none⟩ = some v → W.cell? ⟨b2, j, none⟩ = some v := fun W hW j v hv => (hW.cell (p := ⟨b2, j, none⟩) (Nat.not_le.2 hb2)).trans hv
  exact ⟨b, off, b2, off2, P, P2, xs.length, p, p2, r, xs, e1, e2, rfl, fun W hW => ⟨g W hW _ _ q0, g W hW _ _ q1, g2 W hW _ _ r0, g2 W hW _ _ r1⟩, fun W hW => ⟨s1.later hW, t1.later hW⟩⟩

end Go.Proofs.Ytnjhpjpeeehagaa
