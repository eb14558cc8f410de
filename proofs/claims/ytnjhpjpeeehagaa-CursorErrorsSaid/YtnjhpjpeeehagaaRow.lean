/-
  Rows of elements that take several cells: what a slice's address holds, cell by cell and by its meaning; items, kids, nodes, pieces.
-/
import Derived.Test.YtnjhpjpeeehagaaSrc
import Derived.Test.YtnjhpjpeeehagaaItm
import Derived.Laws.OwnMore
set_option linter.unusedVariables false
namespace Go.Proofs.Ytnjhpjpeeehagaa
open Go.RowKit

/-- The address holds these cells. -/
def Raw (w : World) (A : Option Addr) (C : List Value) : Prop := 0 < C.length → ∃ b off, A = some ⟨b, off, none⟩ ∧ b < w.heap.size ∧ ∀ j u, C[j]? = some u → w.cell? ⟨b, off + j, none⟩ = some u
section
variable {w w' : World} {A : Option Addr} {C : List Value}
theorem Raw.nil_ (w : World) (A : Option Addr) : Raw w A [] := fun h => absurd h (by decide)
theorem Raw.later (h : Raw w A C) (ho : Only (w.heap.size ≤ ·) w w') : Raw w' A C := fun hn => by
  obtain ⟨b, off, e, hb, hc⟩ := h hn
  exact ⟨b, off, e, Nat.lt_of_lt_of_le hb ho.size, fun j u hu => (ho.cell (p := ⟨b, off + j, none⟩) (Nat.not_le.2 hb)).trans (hc j u hu)⟩
theorem Raw.on (h : Raw w A C) {F : Nat → Prop} (ho : Only F w w') (hF : ∀ b off, 0 < C.length → A = some ⟨b, off, none⟩ → ¬ F b) : Raw w' A C := fun hn => by
  obtain ⟨b, off, e, hb, hc⟩ := h hn
  exact ⟨b, off, e, Nat.lt_of_lt_of_le hb ho.size, fun j u hu => (ho.cell (p := ⟨b, off + j, none⟩) (hF b off hn e)).trans (hc j u hu)⟩
theorem Raw.take (h : Raw w A C) (k : Nat) : Raw w A (C.take k) := fun hn => by
  obtain ⟨b, off, e, hb, hc⟩ := h (by simp at hn; omega)
  refine ⟨b, off, e, hb, fun j u hu => hc j u ?_⟩
  rw [List.getElem?_take] at hu
  split at hu
  · exact hu
  · cases hu
theorem Raw.src (h : Raw w A C) : ∀ ad, A = some ad → ∀ j u, C[j]? = some u → w.cell? (ad.add j) = some u := by
  intro ad e j u hu
  have hj : j < C.length := (List.getElem?_eq_some_iff.1 hu).1
  obtain ⟨b, off, e', _, hc⟩ := h (by omega)
  rw [e] at e'
  cases e'
  rw [Addr.add_lit]
  exact hc j u hu
theorem Raw.blk {g : Nat} {t : TypeId} {rest : List Value} (h : Blk w g t (C ++ rest)) : Raw w (some ⟨g, 0, none⟩) C := fun hn => by
  refine ⟨_, _, rfl, h.lt, fun j u hu => ?_⟩
  have hj := (List.getElem?_eq_some_iff.1 hu).1
  rw [h.cell, Nat.zero_add, List.getElem?_append_left hj]
  exact hu
end

/-- A kind of element: how many cells; which cells mean which element. -/
structure El (α : Type) where
  z : Nat
  At : World → α → List Value → Prop
  len : ∀ {w x cs}, At w x cs → cs.length = z
  one : ∀ {w x cs}, At w x cs → ∀ u ∈ cs, u.oneCell' = true
  later : ∀ {w w' x cs}, At w x cs → Only (w.heap.size ≤ ·) w w' → At w' x cs

/-- These cells are these elements, one behind the other. -/
def Den {α : Type} (At : α → List Value → Prop) : List α → List Value → Prop
  | [], C => C = []
  | x :: l, C => ∃ cs D, C = cs ++ D ∧ At x cs ∧ Den At l D
section
variable {α : Type} {At At' : α → List Value → Prop}
theorem Den.mono (hA : ∀ x cs, At x cs → At' x cs) : ∀ {l : List α} {C : List Value}, Den At l C → Den At' l C
  | [], _, h => h
  | _ :: _, _, ⟨cs, D, e, h1, h2⟩ => ⟨cs, D, e, hA _ _ h1, Den.mono hA h2⟩
theorem Den.append : ∀ {l m : List α} {C D : List Value}, Den At l C → Den At m D → Den At (l ++ m) (C ++ D)
  | [], _, _, _, h, k => by
    obtain rfl : _ = [] := h
    exact k
  | _ :: _, _, _, _, ⟨cs, E, e, h1, h2⟩, k => ⟨cs, E ++ _, by rw [e, List.append_assoc], h1, Den.append h2 k⟩
theorem Den.single {x : α} {cs : List Value} (h : At x cs) : Den At [x] cs := ⟨cs, [], by simp, h, rfl⟩
theorem Den.length {z : Nat} (hz : ∀ x cs, At x cs → cs.length = z) : ∀ {l : List α} {C : List Value}, Den At l C → C.length = l.length * z
  | [], _, h => by
    obtain rfl : _ = [] := h
    simp
  | _ :: _, _, ⟨cs, D, e, h1, h2⟩ => by
    have := Den.length hz h2
    have := hz _ _ h1
    rw [e, List.length_append, List.length_cons, Nat.succ_mul]
    omega
theorem Den.one (h1 : ∀ x cs, At x cs → ∀ u ∈ cs, u.oneCell' = true) : ∀ {l : List α} {C : List Value}, Den At l C → ∀ u ∈ C, u.oneCell' = true
  | [], _, h => by
    obtain rfl : _ = [] := h
    simp
  | _ :: _, _, ⟨cs, D, e, hx, h2⟩ => by
    intro u hu
    rw [e, List.mem_append] at hu
    rcases hu with hu | hu
    · exact h1 _ _ hx u hu
    · exact Den.one h1 h2 u hu
theorem Den.drop {z : Nat} (hz : ∀ x cs, At x cs → cs.length = z) : ∀ (k : Nat) {l : List α} {C : List Value}, Den At l C → Den At (l.drop k) (C.drop (k * z))
  | 0, _, _, h => by simpa using h
  | k + 1, [], _, h => by
    obtain rfl : _ = [] := h
    simp [Den]
  | k + 1, _ :: _, _, ⟨cs, D, e, h1, h2⟩ => by
    have hl := hz _ _ h1
    rw [e, List.drop_succ_cons, show (k + 1) * z = cs.length + k * z by rw [Nat.succ_mul]; omega, ← List.drop_drop, List.drop_left]
    exact Den.drop hz k h2
theorem Den.take {z : Nat} (hz : ∀ x cs, At x cs → cs.length = z) : ∀ (k : Nat) {l : List α} {C : List Value}, Den At l C → Den At (l.take k) (C.take (k * z))
  | 0, _, _, h => by simp [Den]
  | k + 1, [], _, h => by
    obtain rfl : _ = [] := h
    simp [Den]
  | k + 1, _ :: _, _, ⟨cs, D, e, h1, h2⟩ => by
    have hl := hz _ _ h1
    refine ⟨cs, D.take (k * z), ?_, h1, Den.take hz k h2⟩
    rw [e, show (k + 1) * z = cs.length + k * z by rw [Nat.succ_mul]; omega, List.take_length_add_append]
theorem Den.get {z : Nat} (hz : ∀ x cs, At x cs → cs.length = z) : ∀ {k : Nat} {l : List α} {C : List Value} {x : α}, Den At l C → l[k]? = some x → ∃ cs, At x cs ∧ ∀ j u, cs[j]? = some u → C[k * z + j]? = some u
  | _, [], _, _, _, hx => by simp at hx
  | 0, y :: l, C, x, ⟨cs, D, e, h1, h2⟩, hx => by
    simp at hx
    subst hx
    exact ⟨cs, h1, fun j u hu => by rw [e, Nat.zero_mul, Nat.zero_add, List.getElem?_append_left (List.getElem?_eq_some_iff.1 hu).1]; exact hu⟩
  | k + 1, y :: l, C, x, ⟨cs, D, e, h1, h2⟩, hx => by
    simp at hx
    obtain ⟨ds, hd, hg⟩ := Den.get hz h2 hx
    refine ⟨ds, hd, fun j u hu => ?_⟩
    have hl := hz _ _ h1
    rw [e, List.getElem?_append_right (by rw [Nat.succ_mul]; omega), ← hg j u hu]
    congr 1
    rw [Nat.succ_mul]
    omega
end

/-- A slice value that holds these elements. -/
def Rw {α : Type} (E : El α) (w : World) (v : Value) (l : List α) : Prop := ∃ A c C, v = .slice A l.length c ∧ Den (E.At w) l C ∧ Raw w A C ∧ (A = none → c = 0) ∧ l.length ≤ c ∧ c ≤ 9223372036854775807
section
variable {α : Type} {E : El α} {w w' : World} {v : Value} {l : List α}
theorem Rw.later (h : Rw E w v l) (ho : Only (w.heap.size ≤ ·) w w') : Rw E w' v l := by
  obtain ⟨A, c, C, h1, h2, h3, h4⟩ := h
  exact ⟨A, c, C, h1, h2.mono fun x cs hx => E.later hx ho, h3.later ho, h4⟩
theorem Rw.nil_ (w : World) : Rw E w (.slice none 0 0) ([] : List α) := ⟨none, 0, [], rfl, rfl, Raw.nil_ _ _, fun _ => rfl, Nat.le_refl _, by omega⟩
theorem Rw.len {A : Option Addr} {n c : Nat} (h : Rw E w (.slice A n c) l) : n = l.length := by
  obtain ⟨A', c', C, e, _⟩ := h
  simp only [Value.slice.injEq] at e
  exact e.2.1
theorem Rw.cap {A : Option Addr} {n c : Nat} (h : Rw E w (.slice A n c) l) : n ≤ c ∧ c ≤ 9223372036854775807 ∧ (A = none → c = 0) := by
  obtain ⟨A', c', C, e, _, _, h1, h2, h3⟩ := h
  simp only [Value.slice.injEq] at e
  obtain ⟨rfl, rfl, rfl⟩ := e
  exact ⟨h2, h3, h1⟩
theorem Rw.at_ {A : Option Addr} {n c k : Nat} (hz : 0 < E.z) (h : Rw E w (.slice A n c) l) (hk : k < n) : ∃ b off x cs, A = some ⟨b, off, none⟩ ∧ b < w.heap.size ∧ l[k]? = some x ∧ E.At w x cs ∧ ∀ j u, cs[j]? = some u → w.cell? ⟨b, off + (k * E.z + j), none⟩ = some u := by
  have hn := h.len
  obtain ⟨A', c', C, e, hd, hr, _⟩ := h
  simp only [Value.slice.injEq] at e
  obtain ⟨rfl, _, rfl⟩ := e
  have hx : l[k]? = some l[k] := List.getElem?_eq_getElem (by omega)
  obtain ⟨cs, hcs, hg⟩ := hd.get (fun _ _ => E.len) hx
  have hl := Den.length (fun _ _ => E.len) hd
  obtain ⟨b, off, e2, hb, hc⟩ := hr (by rw [hl]; exact Nat.mul_pos (by omega) hz)
  exact ⟨b, off, _, cs, e2, hb, hx, hcs, fun j u hu => hc _ _ (hg j u hu)⟩
end
/-- A row of the call's own, of n elements. -/
def Own {α : Type} (E : El α) (t : TypeId) (w : World) (B : Nat) (v : Value) (n : Nat) (l : List α) : Prop := n = l.length ∧ ∃ C, Den (E.At w) l C ∧ w.ownsRow B t E.z v n C
theorem own_later {w W : World} {B s n : Nat} {t : TypeId} {v : Value} {xs : List Value} (h : w.ownsRow B t s v n xs) (ho : Only (w.heap.size ≤ ·) w W) : W.ownsRow B t s v n xs :=
  World.ownsRow.kept h (row := none) ⟨ho.os, ho.tape, ho.output, ho.size, fun k hk _ => ho.block k (Nat.not_le.2 hk)⟩ (by cases hv : v.ownBlock <;> simp)
theorem raw_of_own {w : World} {B s n : Nat} {t : TypeId} {v : Value} {xs : List Value} (h : w.ownsRow B t s v n xs) : ∃ A c, v = .slice A n c ∧ Raw w A xs ∧ (A = none → c = 0) ∧ n ≤ c ∧ c ≤ 9223372036854775807 ∧ (∀ ad, A = some ad → ∃ g, ad = ⟨g, 0, none⟩ ∧ v.ownBlock = some g ∧ B ≤ g ∧ g < w.heap.size) := by
  have h' := h
  rcases h'.2 with ⟨rfl, hz⟩ | ⟨g, cap, cur, rfl, hb, hg, hc, hm, _, _⟩
  · subst hz
    obtain rfl : xs = [] := List.eq_nil_of_length_eq_zero (by simpa using h'.1)
    exact ⟨none, 0, rfl, Raw.nil_ _ _, fun _ => rfl, Nat.le_refl _, by omega, fun ad e => by cases e⟩
  · have hlt := (Array.getElem?_eq_some_iff.1 hg).1
    exact ⟨some ⟨g, 0, none⟩, cap, rfl, fun hn => ⟨_, _, rfl, hlt, fun j u hu => by have := h'.cells (g := g) rfl j u hu; rwa [Addr.add_lit] at this⟩, (fun e => by cases e), hc, by simpa only [maxLen] using hm, fun ad e => by cases e; exact ⟨g, rfl, rfl, hb, hlt⟩⟩
section
variable {α : Type} {E : El α} {w w' : World} {v : Value} {l : List α} {t : TypeId} {B n : Nat}
theorem Own.later (h : Own E t w B v n l) (ho : Only (w.heap.size ≤ ·) w w') : Own E t w' B v n l := by
  obtain ⟨h1, C, h2, h3⟩ := h
  exact ⟨h1, C, h2.mono fun x cs hx => E.later hx ho, own_later h3 ho⟩
theorem Own.rw_ (h : Own E t w B v n l) : Rw E w v l := by
  obtain ⟨rfl, C, h2, h3⟩ := h
  obtain ⟨A, c, rfl, hr, h4, h5, h6, _⟩ := raw_of_own h3
  exact ⟨A, c, C, rfl, h2, hr, h4, h5, h6⟩
theorem Own.nil_ (w : World) (B : Nat) : Own E t w B (.slice none 0 0) 0 ([] : List α) := ⟨rfl, [], rfl, World.ownsRow_nil _ _ _ _⟩
end

abbrev It := Bytes × Bytes × Int × Int
abbrev Kd := Bytes × Int
theorem Src.one {w : World} {v : Value} {xs : Bytes} (h : Src w v xs) : v.oneCell' = true := by
  obtain ⟨A, c, rfl, _⟩ := h
  rfl
def itE : El It where
  z := 4
  At w x cs := ∃ A c B d, cs = [.slice A x.1.length c, .slice B x.2.1.length d, .int .i64 x.2.2.1, .int .i64 x.2.2.2] ∧ Src w (.slice A x.1.length c) x.1 ∧ Src w (.slice B x.2.1.length d) x.2.1
  len := fun ⟨A, c, B, d, e, _⟩ => by rw [e]; rfl
  one := fun ⟨A, c, B, d, e, _⟩ u hu => by
    rw [e] at hu
    simp at hu
    rcases hu with rfl | rfl | rfl | rfl <;> rfl
  later := fun ⟨A, c, B, d, e, h1, h2⟩ ho => ⟨A, c, B, d, e, h1.later ho, h2.later ho⟩
def kdE : El Kd where
  z := 2
  At w x cs := ∃ A c, cs = [.slice A x.1.length c, .int .i64 x.2] ∧ Src w (.slice A x.1.length c) x.1
  len := fun ⟨A, c, e, _⟩ => by rw [e]; rfl
  one := fun ⟨A, c, e, _⟩ u hu => by
    rw [e] at hu
    simp at hu
    rcases hu with rfl | rfl <;> rfl
  later := fun ⟨A, c, e, h1⟩ ho => ⟨A, c, e, h1.later ho⟩
abbrev Its := Rw itE
abbrev Kds := Rw kdE

section
variable {w : World} {A : Option Addr} {n c k : Nat}
/-- An item in a row. -/
theorem its_at {l : List It} (h : Its w (.slice A n c) l) (hk : k < n) : ∃ (b off : Nat) (x : It) (P Q : Option Addr) (p q : Nat), A = some ⟨b, off, none⟩ ∧ b < w.heap.size ∧ l[k]? = some x ∧ w.cell? ⟨b, off + k * 4, none⟩ = some (.slice P x.1.length p) ∧ w.cell? ⟨b, off + k * 4 + 1, none⟩ = some (.slice Q x.2.1.length q) ∧ w.cell? ⟨b, off + k * 4 + 2, none⟩ = some (.int .i64 x.2.2.1) ∧ w.cell? ⟨b, off + k * 4 + 3, none⟩ = some (.int .i64 x.2.2.2) ∧ Src w (.slice P x.1.length p) x.1 ∧ Src w (.slice Q x.2.1.length q) x.2.1 := by
  obtain ⟨b, off, x, cs, e, hb, hx, ⟨P, p, Q, q, rfl, h1, h2⟩, hc⟩ := Rw.at_ (E := itE) (by decide) h hk
  exact ⟨b, off, x, P, Q, p, q, e, hb, hx, hc 0 _ rfl, hc 1 _ rfl, hc 2 _ rfl, hc 3 _ rfl, h1, h2⟩
theorem kds_at {l : List Kd} (h : Kds w (.slice A n c) l) (hk : k < n) : ∃ (b off : Nat) (x : Kd) (P : Option Addr) (p : Nat), A = some ⟨b, off, none⟩ ∧ b < w.heap.size ∧ l[k]? = some x ∧ w.cell? ⟨b, off + k * 2, none⟩ = some (.slice P x.1.length p) ∧ w.cell? ⟨b, off + k * 2 + 1, none⟩ = some (.int .i64 x.2) ∧ Src w (.slice P x.1.length p) x.1 := by
  obtain ⟨b, off, x, cs, e, hb, hx, ⟨P, p, rfl, h1⟩, hc⟩ := Rw.at_ (E := kdE) (by decide) h hk
  exact ⟨b, off, x, P, p, e, hb, hx, hc 0 _ rfl, hc 1 _ rfl, h1⟩
end

/-- A node: a leaf, or not; its items; its kids. -/
structure Nd where
  leaf : Bool
  its : List It
  kds : List Kd
/-- The three parts of a node's value. -/
def Nod (w : World) (x : Nd) (f : Bool) (v u : Value) : Prop := f = x.leaf ∧ Its w v x.its ∧ Kds w u x.kds
theorem Nod.later {w w' : World} {x : Nd} {f : Bool} {v u : Value} (h : Nod w x f v u) (ho : Only (w.heap.size ≤ ·) w w') : Nod w' x f v u := ⟨h.1, h.2.1.later ho, h.2.2.later ho⟩
theorem Nod.out {w : World} {x : Nd} {f : Bool} {v u : Value} (h : Nod w x f v u) : ∃ A c B d, v = .slice A x.its.length c ∧ u = .slice B x.kds.length d := by
  obtain ⟨_, ⟨A, c, _, h1, _⟩, ⟨B, d, _, h2, _⟩⟩ := h
  exact ⟨A, c, B, d, h1, h2⟩
abbrev Pt := Bytes × Nd
/-- A piece: its key, then the node. -/
def ptE : El Pt where
  z := 4
  At w x cs := ∃ A c f v u, cs = [.slice A x.1.length c, .bool f, v, u] ∧ Src w (.slice A x.1.length c) x.1 ∧ Nod w x.2 f v u
  len := fun ⟨A, c, f, v, u, e, _⟩ => by rw [e]; rfl
  one := fun ⟨A, c, f, v, u, e, _, h⟩ y hy => by
    obtain ⟨P, p, Q, q, rfl, rfl⟩ := h.out
    rw [e] at hy
    simp at hy
    rcases hy with rfl | rfl | rfl | rfl <;> rfl
  later := fun ⟨A, c, f, v, u, e, h1, h2⟩ ho => ⟨A, c, f, v, u, e, h1.later ho, h2.later ho⟩
abbrev Pts := Rw ptE
theorem pts_at {w : World} {A : Option Addr} {n c k : Nat} {l : List Pt} (h : Pts w (.slice A n c) l) (hk : k < n) : ∃ (b off : Nat) (x : Pt) (P Q R : Option Addr) (p q r : Nat), A = some ⟨b, off, none⟩ ∧ b < w.heap.size ∧ l[k]? = some x ∧ w.cell? ⟨b, off + k * 4, none⟩ = some (.slice P x.1.length p) ∧ w.cell? ⟨b, off + k * 4 + 1, none⟩ = some (.bool x.2.leaf) ∧ w.cell? ⟨b, off + k * 4 + 2, none⟩ = some (.slice Q x.2.its.length q) ∧ w.cell? ⟨b, off + k * 4 + 3, none⟩ = some (.slice R x.2.kds.length r) ∧ Src w (.slice P x.1.length p) x.1 ∧ Nod w x.2 x.2.leaf (.slice Q x.2.its.length q) (.slice R x.2.kds.length r) := by
  obtain ⟨b, off, x, cs, e, hb, hx, ⟨P, p, f, v, u, rfl, h1, h2⟩, hc⟩ := Rw.at_ (E := ptE) (by decide) h hk
  obtain rfl := h2.1
  obtain ⟨Q, q, R, r, rfl, rfl⟩ := h2.out
  exact ⟨b, off, x, P, Q, R, p, q, r, e, hb, hx, hc 0 _ rfl, hc 1 _ rfl, hc 2 _ rfl, hc 3 _ rfl, h1, h2⟩
end Go.Proofs.Ytnjhpjpeeehagaa
