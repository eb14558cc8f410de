/-
  Runs of pages in memory: the cells of a row of runs; a slice value that holds them.
-/
import Derived.Test.YtmadlckladohbaaGreatMem
import Derived.Laws.OwnMore
import Derived.IntWalk
set_option linter.unusedVariables false
namespace Go.Proofs.YtmadlckladohbaaGreat
open Go.RowKit

abbrev R := Int × Int
def rc (l : List R) : List Value := l.flatMap fun x => [.int .i64 x.1, .int .i64 x.2]
theorem rc_nil : rc [] = [] := rfl
theorem rc_cons (x : R) (l : List R) : rc (x :: l) = .int .i64 x.1 :: .int .i64 x.2 :: rc l := rfl
theorem rc_append (l m : List R) : rc (l ++ m) = rc l ++ rc m := by simp [rc]
theorem rc_length (l : List R) : (rc l).length = l.length * 2 := by
  induction l with
  | nil => rfl
  | cons x l ih => rw [rc_cons]; simp [ih]; omega
theorem rc_get0 : ∀ {l : List R} {k : Nat} {x : R}, l[k]? = some x → (rc l)[k * 2]? = some (.int .i64 x.1)
  | [], k, x, h => by simp at h
  | y :: l, 0, x, h => by simp at h; subst h; rfl
  | y :: l, k + 1, x, h => by
    rw [rc_cons, show (k + 1) * 2 = k * 2 + 1 + 1 by omega]
    simp only [List.getElem?_cons_succ] at h ⊢
    exact rc_get0 h
theorem rc_get1 : ∀ {l : List R} {k : Nat} {x : R}, l[k]? = some x → (rc l)[k * 2 + 1]? = some (.int .i64 x.2)
  | [], k, x, h => by simp at h
  | y :: l, 0, x, h => by simp at h; subst h; rfl
  | y :: l, k + 1, x, h => by
    rw [rc_cons, show (k + 1) * 2 + 1 = k * 2 + 1 + 1 + 1 by omega]
    simp only [List.getElem?_cons_succ] at h ⊢
    exact rc_get1 h
theorem rc_take : ∀ (l : List R) (k : Nat), rc (l.take k) = (rc l).take (k * 2)
  | [], k => by simp [rc]
  | y :: l, 0 => by simp [rc]
  | y :: l, k + 1 => by
    rw [List.take_succ_cons, rc_cons, rc_cons, rc_take l k, show (k + 1) * 2 = k * 2 + 1 + 1 by omega, List.take_succ_cons, List.take_succ_cons]
theorem rc_drop : ∀ (l : List R) (k : Nat), rc (l.drop k) = (rc l).drop (k * 2)
  | [], k => by simp [rc]
  | y :: l, 0 => by simp
  | y :: l, k + 1 => by
    rw [List.drop_succ_cons, rc_cons, rc_drop l k, show (k + 1) * 2 = k * 2 + 1 + 1 by omega, List.drop_succ_cons, List.drop_succ_cons]
theorem rc_one (l : List R) : ∀ u ∈ rc l, u.oneCell' = true := by
  intro u hu
  unfold rc at hu
  rw [List.mem_flatMap] at hu
  obtain ⟨x, _, hx⟩ := hu
  simp at hx
  rcases hx with rfl | rfl <;> rfl
theorem rc_inj : ∀ {l m : List R}, rc l = rc m → l = m
  | [], [], _ => rfl
  | [], y :: m, h => by rw [rc_cons] at h; simp [rc] at h
  | x :: l, [], h => by rw [rc_cons] at h; simp [rc] at h
  | x :: l, y :: m, h => by
    rw [rc_cons, rc_cons] at h
    simp only [List.cons.injEq, Value.int.injEq, true_and] at h
    obtain ⟨h1, h2, h3⟩ := h
    rw [rc_inj h3, show x = y from Prod.ext h1 h2]

/-- The slice's address holds these runs. -/
def Rs (w : World) (A : Option Addr) (l : List R) : Prop := 0 < l.length → ∃ b off, A = some ⟨b, off, none⟩ ∧ b < w.heap.size ∧ ∀ j u, (rc l)[j]? = some u → w.cell? ⟨b, off + j, none⟩ = some u

section
variable {w w' : World} {A : Option Addr} {l : List R}
theorem Rs.nil_ (w : World) (A : Option Addr) : Rs w A [] := fun h => absurd h (by decide)
theorem Rs.at_ (h : Rs w A l) {k : Nat} (hk : k < l.length) : ∃ b off x, A = some ⟨b, off, none⟩ ∧ b < w.heap.size ∧ l[k]? = some x ∧ w.cell? ⟨b, off + k * 2, none⟩ = some (.int .i64 x.1) ∧ w.cell? ⟨b, off + k * 2 + 1, none⟩ = some (.int .i64 x.2) := by
  obtain ⟨b, off, e, hb, hc⟩ := h (by omega)
  have hx : l[k]? = some l[k] := List.getElem?_eq_getElem hk
  exact ⟨b, off, l[k], e, hb, hx, hc _ _ (rc_get0 hx), by rw [Nat.add_assoc]; exact hc _ _ (rc_get1 hx)⟩
theorem Rs.later (h : Rs w A l) (ho : Only (w.heap.size ≤ ·) w w') : Rs w' A l := fun hn => by
  obtain ⟨b, off, e, hb, hc⟩ := h hn
  exact ⟨b, off, e, Nat.lt_of_lt_of_le hb ho.size, fun j u hu => (ho.cell (p := ⟨b, off + j, none⟩) (Nat.not_le.2 hb)).trans (hc j u hu)⟩
theorem Rs.on (h : Rs w A l) {F : Nat → Prop} (ho : Only F w w') (hF : ∀ b off, 0 < l.length → A = some ⟨b, off, none⟩ → ¬ F b) : Rs w' A l := fun hn => by
  obtain ⟨b, off, e, hb, hc⟩ := h hn
  exact ⟨b, off, e, Nat.lt_of_lt_of_le hb ho.size, fun j u hu => (ho.cell (p := ⟨b, off + j, none⟩) (hF b off hn e)).trans (hc j u hu)⟩
theorem Rs.drew (h : Rs w A l) : Rs w.drew A l := h
theorem Rs.drewN (h : Rs w A l) (n : Nat) : Rs (w.drewN n) A l := h
theorem Rs.take (h : Rs w A l) (k : Nat) : Rs w A (l.take k) := fun hn => by
  obtain ⟨b, off, e, hb, hc⟩ := h (by simp at hn; omega)
  refine ⟨b, off, e, hb, fun j u hu => hc j u ?_⟩
  rw [rc_take, List.getElem?_take] at hu
  split at hu
  · exact hu
  · cases hu
theorem Rs.drop (h : Rs w A l) (k c : Nat) (hc : l.length ≤ c) : Rs w (if c = k then A else A.map (·.add (k * 2))) (l.drop k) := fun hn => by
  simp at hn
  obtain ⟨b, off, rfl, hb, hcell⟩ := h (by omega)
  rw [if_neg (by omega)]
  refine ⟨b, off + k * 2, by simp [Addr.add_lit], hb, fun j u hu => ?_⟩
  rw [Nat.add_assoc]
  exact hcell _ u (by rw [← hu, rc_drop, List.getElem?_drop])
theorem Rs.src (h : Rs w A l) : ∀ ad, A = some ad → ∀ j u, (rc l)[j]? = some u → w.cell? (ad.add j) = some u := by
  intro ad e j u hu
  have hj : j < (rc l).length := (List.getElem?_eq_some_iff.1 hu).1
  rw [rc_length] at hj
  obtain ⟨b, off, e', _, hc⟩ := h (by omega)
  rw [e] at e'
  cases e'
  rw [Addr.add_lit]
  exact hc j u hu
theorem Rs.blk {g : Nat} {t : TypeId} {rest : List Value} (h : Blk w g t (rc l ++ rest)) : Rs w (some ⟨g, 0, none⟩) l := fun hn => by
  refine ⟨_, _, rfl, h.lt, fun j u hu => ?_⟩
  have hj := (List.getElem?_eq_some_iff.1 hu).1
  rw [h.cell, Nat.zero_add, List.getElem?_append_left hj]
  exact hu
end

/-- A slice value that holds these runs. -/
def Row (w : World) (v : Value) (l : List R) : Prop := ∃ A c, v = .slice A l.length c ∧ Rs w A l ∧ (A = none → c = 0) ∧ l.length ≤ c ∧ c ≤ 9223372036854775807
theorem Row.later {w w' : World} {v : Value} {l : List R} (h : Row w v l) (ho : Only (w.heap.size ≤ ·) w w') : Row w' v l := by
  obtain ⟨A, c, h1, h2, h3⟩ := h
  exact ⟨A, c, h1, h2.later ho, h3⟩
theorem Row.nil_ (w : World) : Row w (.slice none 0 0) [] := ⟨none, 0, rfl, Rs.nil_ _ _, fun _ => rfl, Nat.le_refl _, by omega⟩
theorem Row.drew {w : World} {v : Value} {l : List R} (h : Row w v l) : Row w.drew v l := h
theorem Row.drewN {w : World} {v : Value} {l : List R} (h : Row w v l) (n : Nat) : Row (w.drewN n) v l := h
/-- A row of one's own. -/
def Own (w : World) (B : Nat) (t : TypeId) (v : Value) (l : List R) : Prop := w.ownsRow B t 2 v l.length (rc l)
theorem Own.row {w : World} {B : Nat} {t : TypeId} {v : Value} {l : List R} (h : Own w B t v l) : Row w v l := by
  have h' := h
  unfold Own at h'
  rcases h'.2 with ⟨rfl, hz⟩ | ⟨g, cap, cur, rfl, hb, hg, hc, hm, _, _⟩
  · obtain rfl : l = [] := List.eq_nil_of_length_eq_zero hz
    exact Row.nil_ w
  · refine ⟨some ⟨g, 0, none⟩, cap, rfl, fun _ => ⟨_, _, rfl, (Array.getElem?_eq_some_iff.1 hg).1, fun j u hu => by have := h'.cells (g := g) rfl j u hu; rwa [Addr.add_lit] at this⟩, (fun e => by cases e), hc, by simpa only [maxLen] using hm⟩
theorem Own.nil_ (w : World) (B : Nat) (t : TypeId) : Own w B t (.slice none 0 0) [] := World.ownsRow_nil _ _ _ _
end Go.Proofs.YtmadlckladohbaaGreat
