/-
  Runs of the document.
-/
import Derived.Test.YtmadlckladohbaaBits
import Derived.Test.YtmadlckladohbaaRunp
import Derived.RangeFuncBox
import Derived.Laws.OwnMore
import Derived.Deep.AppendLies
set_option linter.unusedVariables false
namespace Go.Proofs.Ytmadlckladohbaa
open Go.RowKit

theorem rc_set : ∀ (l : List R) (k : Nat) (x : R) (y : Int), l[k]? = some x → rc (l.set k (x.1, y)) = (rc l).set (k * 2 + 1) (.int .i64 y)
  | [], k, x, y, h => by simp at h
  | z :: l, 0, x, y, h => by simp at h; subst h; rfl
  | z :: l, k + 1, x, y, h => by
    rw [List.set_cons_succ, rc_cons, rc_cons, show (k + 1) * 2 + 1 = k * 2 + 1 + 1 + 1 by omega, List.set_cons_succ, List.set_cons_succ, rc_set l k x y (by simpa using h)]
theorem own_set {w : World} {B : Nat} {t : TypeId} {g n cap : Nat} {xs : List Value} (h : w.ownsRow B t 2 (.slice (some ⟨g, 0, none⟩) n cap) n xs) (i : Nat) (u : Value) :
    (w.setCell ⟨g, i, none⟩ u).ownsRow B t 2 (.slice (some ⟨g, 0, none⟩) n cap) n (xs.set i u) := by
  obtain ⟨h1, h2⟩ := h
  refine ⟨by rw [List.length_set]; exact h1, ?_⟩
  rcases h2 with ⟨e, _⟩ | ⟨g', cap', cur, e, hb, hg, hn, hm, hs, ht⟩
  · cases e
  · simp only [Value.slice.injEq, Option.some.injEq, Addr.mk.injEq, and_true, true_and] at e
    obtain ⟨rfl, rfl⟩ := e
    refine .inr ⟨g, cap, (cur.toList.set i u).toArray, rfl, hb, ?_, hn, hm, by simpa using hs, ?_⟩
    · have := Blk.set_ (w := w) (g := g) (t := t) (cs := cur.toList) (by unfold Blk; simpa using hg) i u
      exact this
    · rw [← ht]
      simp [List.take_set]
theorem Own.set_ {w : World} {B : Nat} {t : TypeId} {g n cap : Nat} {l : List R} (h : w.ownsRow B t 2 (.slice (some ⟨g, 0, none⟩) n cap) n (rc l)) {k : Nat} {x : R} (hx : l[k]? = some x) (y : Int) :
    (w.setCell ⟨g, k * 2 + 1, none⟩ (.int .i64 y)).ownsRow B t 2 (.slice (some ⟨g, 0, none⟩) n cap) n (rc (l.set k (x.1, y))) := by
  rw [rc_set l k x y hx]
  exact own_set h _ _

theorem appended {w' : World} {B : Nat} {t : TypeId} {g' N cap' : Nat} {u : List R} {a b : Int} (h : w'.ownsRow B t 2 (.slice (some ⟨g', 0, none⟩) (N + 1) cap') (N + 1) (rc u ++ rc [(a, b)])) (hN : N = u.length) :
    w'.cell? ⟨g', N * 2 + 1, none⟩ = some (.int .i64 b) ∧ w'.frozen? ⟨g', N * 2 + 1, none⟩ = false ∧ (∀ y, (w'.setCell ⟨g', N * 2 + 1, none⟩ (.int .i64 y)).ownsRow B t 2 (.slice (some ⟨g', 0, none⟩) (N + 1) cap') (N + 1) (rc (u ++ [(a, y)]))) ∧ B ≤ g' := by
  rw [← rc_append] at h
  have hx : (u ++ [(a, b)])[N]? = some (a, b) := by subst hN; simp
  refine ⟨by rw [h.cellAt _ (by omega)]; exact rc_get1 hx, h.frozenAt _, fun y => ?_, (World.ownsRow.lt h g' rfl).1⟩
  have := Own.set_ h hx y
  rwa [show (u ++ [(a, b)]).set N (a, y) = u ++ [(a, y)] by subst hN; simp] at this
theorem snoc_val {l : List R} {n : Nat} (hn : n = l.length) (a b c : Int) : ((l ++ [(a, b)])[n]? = some (a, b)) ∧ (l ++ [(a, b)]).set n (a, c) = l ++ [(a, c)] := by
  subst hn
  simp

end Go.Proofs.Ytmadlckladohbaa
