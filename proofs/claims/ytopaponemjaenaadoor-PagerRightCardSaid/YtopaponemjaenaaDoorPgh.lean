/-
  Rows of writes that grow.
-/
import Derived.Test.YtopaponemjaenaaDoorPgl
import Derived.Test.YtopaponemjaenaaDoorPgo
import Derived.Test.YtopaponemjaenaaDoorPgfx
import Derived.Test.YtopaponemjaenaaDoorPgt
import Derived.Test.YtopaponemjaenaaDoorPgy
import Derived.RegionTactic
import Derived.BigRegion
import Derived.Maps.AppendAt
import Derived.Lib.OwnKind
set_option linter.unusedVariables false
namespace Go.Proofs.YtopaponemjaenaaDoor
open Go.RowKit

section
variable {P : Program} {w : World}
theorem wp_append_at {o : Oper} {a : Act} {K : Act → World → Prop} {Q : Exit → Act → World → Prop} (s x : Operand) (t : TypeId)
    (ho : o.op = .call { callee := .builtin .append, args := #[s, x], argTypes := #[t, t] })
    (base : Nat) (e : TypeId) (i : TypeInfo) (z : Value) (size bytes : Nat) (ht : P.underlying t = some (.slice e)) (hi : P.info? e = some i) (hz : i.zero = some z)
    (hsize : i.size = size) (hby : i.bytes = bytes) (hzs : z.cells.size = size) (hsz : 0 < size)
    (v : Value) (n : Nat) (xs : List Value) (hs : a.eval s = v) (hown : w.ownsRow base e size v n xs)
    (ad : Addr) (m c : Nat) (news : List Value) (hx : a.eval x = .slice (some ad) m c) (hl : news.length = m * size) (hnews : ∀ j u, news[j]? = some u → w.cell? (ad.add j) = some u) (h1 : ∀ u ∈ news, u.oneCell' = true)
    (h63 : n + m ≤ maxLen) (hbytes : (n + m) * bytes ≤ 140737488355328) (hbase : base ≤ w.heap.size)
    (h : ∀ v' w', w'.ownsRow base e size v' (n + m) (xs ++ news) → w.grownBy w' v.ownBlock → (v'.ownBlock = v.ownBlock ∨ v'.ownBlock = some w.heap.size) → K (a.put o.dst v') w') : o.wp P a w K Q := by
  obtain ⟨v', w', hr, h2, h3, h4, h5⟩ := run_append_own_at (P := P) w base t o.type e i z size bytes ht hi hz hsize hby hzs hsz v n xs hown ad m c news hl hnews h1 h63 hbytes hbase
  unfold Oper.wp execOp
  simp only [ho, resolve, invoke, builtin, Sem.run_bind, Sem.run_pure, Result.andThen_ok, List.map_toArray, List.map_cons, List.map_nil, hs, hx, hr]
  exact h v' w' h2 h3 h5
theorem wp_append_none {o : Oper} {a : Act} {K : Act → World → Prop} {Q : Exit → Act → World → Prop} (s x : Operand) (t : TypeId)
    (ho : o.op = .call { callee := .builtin .append, args := #[s, x], argTypes := #[t, t] })
    (base : Nat) (e : TypeId) (i : TypeInfo) (size : Nat) (ht : P.underlying t = some (.slice e)) (hi : P.info? e = some i)
    (v : Value) (n : Nat) (xs : List Value) (hs : a.eval s = v) (hown : w.ownsRow base e size v n xs) (hx : a.eval x = .slice none 0 0)
    (h : K (a.put o.dst v) w) : o.wp P a w K Q := by
  have hrun := run_append_owned_none (P := P) (w := w) base t o.type e i size ht hi v n xs hown
  unfold Oper.wp
  simp [execOp, ho, resolve, invoke, builtin, hs, hx, hrun, Result.andThen]
  exact h
theorem wp_append_row {o : Oper} {a : Act} {K : Act → World → Prop} {Q : Exit → Act → World → Prop} (s x : Operand) (t : TypeId)
    (ho : o.op = .call { callee := .builtin .append, args := #[s, x], argTypes := #[t, t] })
    (base : Nat) (e : TypeId) (i : TypeInfo) (z : Value) (size bytes : Nat) (ht : P.underlying t = some (.slice e)) (hi : P.info? e = some i) (hz : i.zero = some z)
    (hsize : i.size = size) (hby : i.bytes = bytes) (hzs : z.cells.size = size) (hsz : 0 < size)
    (v : Value) (n : Nat) (xs : List Value) (hs : a.eval s = v) (hown : w.ownsRow base e size v n xs)
    (A : Option Addr) (m c : Nat) (news : List Value) (hx : a.eval x = .slice A m c) (hA : A = none → m = 0 ∧ c = 0) (hl : news.length = m * size) (hnews : ∀ ad, A = some ad → ∀ j u, news[j]? = some u → w.cell? (ad.add j) = some u) (h1 : ∀ u ∈ news, u.oneCell' = true)
    (h63 : n + m ≤ maxLen) (hbytes : (n + m) * bytes ≤ 140737488355328) (hbase : base ≤ w.heap.size)
    (h : ∀ v' w', w'.ownsRow base e size v' (n + m) (xs ++ news) → w.grownBy w' v.ownBlock → (v'.ownBlock = v.ownBlock ∨ v'.ownBlock = some w.heap.size) → K (a.put o.dst v') w') : o.wp P a w K Q := by
  cases A with
  | some ad => exact wp_append_at s x t ho base e i z size bytes ht hi hz hsize hby hzs hsz v n xs hs hown ad m c news hx hl (hnews ad rfl) h1 h63 hbytes hbase h
  | none =>
    obtain ⟨rfl, rfl⟩ := hA rfl
    obtain rfl : news = [] := List.eq_nil_of_length_eq_zero (by omega)
    refine wp_append_none s x t ho base e i size ht hi v n xs hs hown hx (h v w (by rw [List.append_nil]; exact hown) ⟨rfl, rfl, rfl, Nat.le_refl _, fun _ _ _ => rfl⟩ (.inl rfl))
end
theorem own_none (w : World) (t : TypeId) (z : Nat) : (w.alloc (.cells #[] t)).ownsRow w.heap.size t z (.slice (some ⟨w.heap.size, 0, none⟩) 0 0) 0 [] :=
  ⟨by simp, .inr ⟨w.heap.size, 0, #[], rfl, Nat.le_refl _, heap_alloc_new w _, Nat.le_refl _, by decide, by simp, by simp⟩⟩
theorem own_le {w : World} {B B' z n : Nat} {t : TypeId} {v : Value} {C : List Value} (h : w.ownsRow B t z v n C) (hB : B' ≤ B) : w.ownsRow B' t z v n C := by
  refine ⟨h.1, ?_⟩
  rcases h.2 with h | ⟨g, cap, cur, e, hb, r⟩
  · exact .inl h
  · exact .inr ⟨g, cap, cur, e, Nat.le_trans hB hb, r⟩
theorem own_src {w : World} {B z n m c : Nat} {t : TypeId} {A : Option Addr} {C : List Value} (h : w.ownsRow B t z (.slice A m c) n C) : m = n ∧ (A = none → m = 0 ∧ c = 0) ∧ C.length = m * z ∧ ∀ ad, A = some ad → ∀ j u, C[j]? = some u → w.cell? (ad.add j) = some u := by
  obtain ⟨A', c', e, hr, h1, h2, h3, _⟩ := raw_of_own h
  cases e
  exact ⟨rfl, fun e => ⟨by have := h1 e; omega, h1 e⟩, h.1, hr.src⟩
theorem wp_append_w {w : World} {o : Oper} {a : Act} {K : Act → World → Prop} {Q : Exit → Act → World → Prop} (s x : Operand)
    (ho : o.op = .call { callee := .builtin .append, args := #[s, x], argTypes := #[34, 34] })
    (base : Nat) (g n t : Nat) (C : List Value) (hs : a.eval s = .slice (some ⟨g, 0, none⟩) n t) (hown : w.ownsRow base 41 2 (.slice (some ⟨g, 0, none⟩) n t) n C)
    (A : Option Addr) (m c : Nat) (news : List Value) (hx : a.eval x = .slice A m c) (hA : A = none → m = 0 ∧ c = 0) (hl : news.length = m * 2) (hnews : ∀ ad, A = some ad → ∀ j u, news[j]? = some u → w.cell? (ad.add j) = some u) (h1 : ∀ u ∈ news, u.oneCell' = true)
    (hn : n + m ≤ 100000) (hp : 0 < n + m) (hbase : base ≤ w.heap.size)
    (h : ∀ g' t' w', w'.ownsRow base 41 2 (.slice (some ⟨g', 0, none⟩) (n + m) t') (n + m) (C ++ news) → (g' = g ∨ w.heap.size ≤ g') → base ≤ g → Only (fun k => k = g ∨ w.heap.size ≤ k) w w' → K (a.put o.dst (.slice (some ⟨g', 0, none⟩) (n + m) t')) w') : o.wp Tryd.prog a w K Q := by
  obtain ⟨i1, hi0, hz0, hz1, hz2⟩ := info_parts info_W
  refine wp_append_row s x 34 ho base 41 i1 zW 2 32 Tryd.underlying34 hi0 hz0 hz1 hz2 (by rfl) (by omega) (.slice (some ⟨g, 0, none⟩) n t) n C hs hown A m c news hx hA hl hnews h1 (by simp only [maxLen]; omega) (by omega) hbase (fun v' w' hr hg hb => ?_)
  obtain ⟨g', t', rfl, _⟩ := own_form hr hp
  refine h g' t' w' hr ?_ (World.ownsRow.lt hown g rfl).1 (((Only.refl (fun k => (Value.slice (some ⟨g, 0, none⟩) n t).ownBlock = some k ∨ w.heap.size ≤ k) w).grown hg (fun _ h => .inr h) (fun _ e => .inl e)).mono fun j hj => hj.imp (fun e => (Option.some.inj e).symm) id)
  rcases hb with e | e
  · exact .inl (Option.some.inj e)
  · exact .inr (Nat.le_of_eq (Option.some.inj e).symm)
theorem cell_later {w W : World} {a : Addr} {x : Value} (h : w.cell? a = some x) (ho : Only (w.heap.size ≤ ·) w W) : W.cell? a = some x := (ho.cell (p := a) (Nat.not_le.2 (World.block_lt_of_cell? w _ h))).trans h
theorem wts_own {w : World} {B m t : Nat} {R : Option Addr} {C : List Value} {l : List Wt} (h : w.ownsRow B 41 2 (.slice R m t) m C) (hd : Den (wrE.At w) l C) (hl : l.length = m) : Wts w (.slice R m t) l := by
  subst hl
  obtain ⟨A', c', e, hr, h2, h3, h4, _⟩ := raw_of_own h
  cases e
  exact RawV.rw_ rfl hd ⟨R, t, rfl, h.1, hr, h2, h3, h4, Den.one (fun _ _ => wrE.one) hd⟩
end Go.Proofs.YtopaponemjaenaaDoor
