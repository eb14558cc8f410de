/-
  Three rows that grow side by side: pages, numbers, bytes.
-/
import Derived.Test.YtbgnfocfnjlabaaDoorOeq
import Derived.Test.YtbgnfocfnjlabaaDoorObo
set_option linter.unusedVariables false
namespace Go.Proofs.YtbgnfocfnjlabaaDoor
open Go.RowKit

section
variable {P : Program} {w : World}
theorem wpList_append_at {ops : Array Oper} {rest : List Oper} {o : Oper} {a : Act} {Q : Exit → Act → World → Prop} (hgd : o.guard = none) (s x : Operand) (t : TypeId)
    (ho : o.op = .call { callee := .builtin .append, args := #[s, x], argTypes := #[t, t] })
    (base : Nat) (e : TypeId) (i : TypeInfo) (z : Value) (size bytes : Nat) (ht : P.underlying t = some (.slice e)) (hi : P.info? e = some i) (hz : i.zero = some z)
    (hsize : i.size = size) (hby : i.bytes = bytes) (hzs : z.cells.size = size) (hsz : 0 < size)
    (v : Value) (n : Nat) (xs : List Value) (hs : a.eval s = v) (hown : w.ownsRow base e size v n xs)
    (ad : Addr) (m c : Nat) (news : List Value) (hx : a.eval x = .slice (some ad) m c) (hl : news.length = m * size) (hnews : ∀ j u, news[j]? = some u → w.cell? (ad.add j) = some u) (h1 : ∀ u ∈ news, u.oneCell' = true)
    (h63 : n + m ≤ maxLen) (hbytes : (n + m) * bytes ≤ 140737488355328) (hbase : base ≤ w.heap.size)
    (h : ∀ v' w', w'.ownsRow base e size v' (n + m) (xs ++ news) → w.grownBy w' v.ownBlock → (v'.ownBlock = v.ownBlock ∨ v'.ownBlock = some w.heap.size) → wpList P ops Q rest (a.put o.dst v') w') : wpList P ops Q (o :: rest) a w :=
  wpList_plain hgd fun K hK => wp_append_at s x t ho base e i z size bytes ht hi hz hsize hby hzs hsz v n xs hs hown ad m c news hx hl hnews h1 h63 hbytes hbase fun v' w' h2 h3 h5 => hK _ _ (h v' w' h2 h3 h5)
end

theorem wpList_bytes {w : World} {ops : Array Oper} {rest : List Oper} {o : Oper} {a : Act} {Q : Exit → Act → World → Prop} (hgd : o.guard = none) (s x : Operand)
    (ho : o.op = .call { callee := .builtin .append, args := #[s, x], argTypes := #[27, 27] }) (base : Nat) (v u : Value) (xs ys : Bytes) (hs : a.eval s = v) (hown : w.ownsRow base 5 1 v xs.length (cb xs)) (hx : a.eval x = u) (hy : Src w u ys) (hl : xs.length + ys.length ≤ 100000000) (hbase : base ≤ w.heap.size)
    (h : ∀ v' w', w'.ownsRow base 5 1 v' (xs.length + ys.length) (cb xs ++ cb ys) → w.grownBy w' v.ownBlock → (v'.ownBlock = v.ownBlock ∨ v'.ownBlock = some w.heap.size) → wpList Tryd.prog ops Q rest (a.put o.dst v') w') : wpList Tryd.prog ops Q (o :: rest) a w := by
  obtain ⟨i0, hi0, hz0, hz1, hz2⟩ := info_parts info8
  obtain ⟨A, c, rfl, ht, hA, hc, hm⟩ := hy
  cases A with
  | some ad =>
    exact wpList_append_at hgd s x 27 ho base 5 i0 _ 1 1 Tryd.underlying27 hi0 hz0 hz1 hz2 (by rfl) (by omega) v xs.length (cb xs) hs hown ad ys.length c (cb ys) hx (by rw [cb_length, Nat.mul_one]) (fun j y hy => ht.src ad rfl j y hy) (cb_one _) (by simp only [maxLen]; omega) (by omega) hbase h
  | none =>
    have hy0 : ys = [] := by
      rcases Nat.eq_zero_or_pos ys.length with h0 | h0
      · exact List.eq_nil_of_length_eq_zero h0
      · obtain ⟨ad, ea, _⟩ := ht.2 h0
        cases ea
    subst hy0
    obtain rfl := hA rfl
    refine wpList_append_own_none hgd s x 27 ho base 5 i0 1 Tryd.underlying27 hi0 v xs.length (cb xs) hs hown hx ?_
    exact h v w (by simpa [cb] using hown) (World.grownBy.refl w _) (.inl rfl)

/-- Bytes from block b on, in none of these three rows. -/
def triAt (b : Nat) (P I V : Value) (w : World) (x : Bytes) (cs : List Value) : Prop := ∃ A c, cs = [.slice A x.length c] ∧ New w b (.slice A x.length c) x ∧ ∀ ad, A = some ad → some ad.block ≠ P.ownBlock ∧ some ad.block ≠ I.ownBlock ∧ some ad.block ≠ V.ownBlock
structure Tri (b0 b : Nat) (W : World) (P I V : Value) (ps : List Bytes) (is : List Int) (vs : Bytes) (C : List Value) : Prop where
  le : b0 ≤ b
  pg : W.ownsRow b 27 1 P ps.length C
  den : Den (triAt b0 P I V W) ps C
  id : W.ownsRow b 3 1 I is.length (ci is)
  vl : W.ownsRow b 5 1 V vs.length (cb vs)
/-- The same row, or a new one. -/
def Grew (W : World) (v v' : Value) : Prop := v'.ownBlock = v.ownBlock ∨ ∃ k, v'.ownBlock = some k ∧ W.heap.size ≤ k
theorem Grew.refl (W : World) (v : Value) : Grew W v v := .inl rfl
section
variable {b0 b : Nat} {W W' : World} {P I V P' I' V' : Value} {ps : List Bytes} {is : List Int} {vs : Bytes} {C : List Value}
theorem own_step {G : Nat → Prop} {z n : Nat} {t : TypeId} {v : Value} {xs : List Value} (h : W.ownsRow b t z v n xs) (ho : Only G W W') (hG : ∀ k, v.ownBlock = some k → ¬ G k) : W'.ownsRow b t z v n xs := by
  refine ⟨h.1, ?_⟩
  rcases h.2 with h2 | ⟨g, cap, cur, rfl, h3, h4, h5⟩
  · exact .inl h2
  · exact .inr ⟨g, cap, cur, rfl, h3, (ho.block g (hG g rfl)).trans h4, h5⟩
theorem New.in_ {w : World} {n c : Nat} {A : Option Addr} {x : Bytes} (h : New w b (.slice A n c) x) (ad : Addr) (e : A = some ad) : b ≤ ad.block ∧ ad.block < w.heap.size := by
  obtain ⟨A', c', e', _, _, _, _, h6⟩ := h
  simp only [Value.slice.injEq] at e'
  obtain ⟨rfl, _, rfl⟩ := e'
  exact h6 ad e
theorem Tri.step {G : Nat → Prop} (h : Tri b0 b W P I V ps is vs C) (ho : Only G W W') (hG : ∀ k, b0 ≤ k → k < W.heap.size → ¬ G k) : Tri b0 b W' P I V ps is vs C := by
  have hle := h.le
  refine ⟨hle, own_step h.pg ho fun k e => ?_, h.den.mono fun x cs ⟨A, c, e, hn, hD⟩ => ⟨A, c, e, hn.keep ho hG, hD⟩, own_step h.id ho fun k e => ?_, own_step h.vl ho fun k e => ?_⟩
  · have := World.ownsRow.lt h.pg k e; exact hG k (by omega) this.2
  · have := World.ownsRow.lt h.id k e; exact hG k (by omega) this.2
  · have := World.ownsRow.lt h.vl k e; exact hG k (by omega) this.2
theorem tri_den {U : Option Nat} (hd : Den (triAt b P I V W) ps C) (ho : Only (fun k => some k = U ∨ W.heap.size ≤ k) W W') (hU : U = P.ownBlock ∨ U = I.ownBlock ∨ U = V.ownBlock) (hP : Grew W P P') (hI : Grew W I I') (hV : Grew W V V') : Den (triAt b P' I' V' W') ps C := hd.mono fun x cs h => by
  obtain ⟨A, c, e, hn, hD⟩ := h
  have hg : ∀ {v v' : Value}, Grew W v v' → ∀ ad, A = some ad → some ad.block ≠ v.ownBlock → some ad.block ≠ v'.ownBlock := fun hv ad ea hne hh => by
    rcases hv with hv | ⟨k, hv, hk⟩
    · exact hne (hh.trans hv)
    · have h1 := (hn.in_ ad ea).2
      have h2 := Option.some.inj (hh.trans hv)
      omega
  refine ⟨A, c, e, hn.keepAt ho fun ad ea hk => ?_, fun ad ea => ⟨hg hP ad ea (hD ad ea).1, hg hI ad ea (hD ad ea).2.1, hg hV ad ea (hD ad ea).2.2⟩⟩
  have h3 := hD ad ea
  rcases hk with hk | hk
  · rcases hU with rfl | rfl | rfl
    · exact h3.1 hk
    · exact h3.2.1 hk
    · exact h3.2.2 hk
  · have := (hn.in_ ad ea).2
    omega
theorem own_ne {z z' n n' : Nat} {t t' : TypeId} {v v' : Value} {xs xs' : List Value} (h : W.ownsRow b t z v n xs) (h' : W.ownsRow b t' z' v' n' xs') (ht : t ≠ t') (k : Nat) (e : v.ownBlock = some k) : some k ≠ v'.ownBlock := fun e' => by
  rcases h.2 with ⟨rfl, _⟩ | ⟨g, cap, cur, rfl, _, hg, _⟩
  · cases e
  rcases h'.2 with ⟨rfl, _⟩ | ⟨g', cap', cur', rfl, _, hg', _⟩
  · cases e'
  have e1 : g = k := Option.some.inj e
  have e2 : k = g' := Option.some.inj e'
  subst e1
  subst e2
  rw [hg] at hg'
  simp only [Option.some.injEq, Obj.cells.injEq] at hg'
  exact ht hg'.2.1
theorem grew_of {o : Obj} {v v' : Value} (h : v'.ownBlock = v.ownBlock ∨ v'.ownBlock = some (W.alloc o).heap.size) : Grew W v v' := h.imp (fun h => h) fun h => ⟨_, h, by simp⟩
/-- A page more. -/
theorem Tri.page {o : Obj} {UA : Option Addr} {uc : Nat} {x : Bytes} (h : Tri b0 b W P I V ps is vs C) (hn : New W b0 (.slice UA x.length uc) x) (hu : ∀ ad, UA = some ad → some ad.block ≠ P.ownBlock ∧ some ad.block ≠ I.ownBlock ∧ some ad.block ≠ V.ownBlock) (hg : (W.alloc o).grownBy W' P.ownBlock)
    (ho : W'.ownsRow b 27 1 P' (ps.length + 1) (C ++ [.slice UA x.length uc])) (hat : P'.ownBlock = P.ownBlock ∨ P'.ownBlock = some (W.alloc o).heap.size) : Tri b0 b W' P' I V (ps ++ [x]) is vs (C ++ [.slice UA x.length uc]) ∧ Only (fun k => some k = P.ownBlock ∨ W.heap.size ≤ k) W W' := by
  have hO : Only (fun k => some k = P.ownBlock ∨ W.heap.size ≤ k) W W' := Only.grown (((Only.refl (W.heap.size ≤ ·) W).alloc (fun _ h => h) o).mono fun _ h => .inr h) hg (fun _ h => .inr h) (fun g e => .inl e.symm)
  have hlt : ∀ {z n : Nat} {t : TypeId} {v : Value} {xs : List Value}, W.ownsRow b t z v n xs → ∀ k, v.ownBlock = some k → ¬ W.heap.size ≤ k := fun h k e => by have := (World.ownsRow.lt h k e).2; omega
  refine ⟨⟨h.le, by simpa using ho, Den.append (tri_den h.den hO (.inl rfl) (grew_of hat) (Grew.refl _ _) (Grew.refl _ _)) (tri_den (Den.single ⟨UA, uc, rfl, hn, hu⟩) hO (.inl rfl) (grew_of hat) (Grew.refl _ _) (Grew.refl _ _)), own_step h.id hO fun k e hk => ?_, own_step h.vl hO fun k e hk => ?_⟩, hO⟩
  · exact hk.elim (own_ne h.id h.pg (by decide) k e) (hlt h.id k e)
  · exact hk.elim (own_ne h.vl h.pg (by decide) k e) (hlt h.vl k e)
/-- A number more. -/
theorem Tri.num {o : Obj} {i : Int} (h : Tri b0 b W P I V ps is vs C) (hg : (W.alloc o).grownBy W' I.ownBlock)
    (ho : W'.ownsRow b 3 1 I' (is.length + 1) (ci is ++ [.int .i64 i])) (hat : I'.ownBlock = I.ownBlock ∨ I'.ownBlock = some (W.alloc o).heap.size) : Tri b0 b W' P I' V ps (is ++ [i]) vs C ∧ Only (fun k => some k = I.ownBlock ∨ W.heap.size ≤ k) W W' := by
  have hO : Only (fun k => some k = I.ownBlock ∨ W.heap.size ≤ k) W W' := Only.grown (((Only.refl (W.heap.size ≤ ·) W).alloc (fun _ h => h) o).mono fun _ h => .inr h) hg (fun _ h => .inr h) (fun g e => .inl e.symm)
  have hlt : ∀ {z n : Nat} {t : TypeId} {v : Value} {xs : List Value}, W.ownsRow b t z v n xs → ∀ k, v.ownBlock = some k → ¬ W.heap.size ≤ k := fun h k e => by have := (World.ownsRow.lt h k e).2; omega
  refine ⟨⟨h.le, own_step h.pg hO fun k e hk => ?_, tri_den h.den hO (.inr (.inl rfl)) (Grew.refl _ _) (grew_of hat) (Grew.refl _ _), by simpa [ci] using ho, own_step h.vl hO fun k e hk => ?_⟩, hO⟩
  · exact hk.elim (own_ne h.pg h.id (by decide) k e) (hlt h.pg k e)
  · exact hk.elim (own_ne h.vl h.id (by decide) k e) (hlt h.vl k e)
/-- Bytes more. -/
theorem Tri.bytes {ys : Bytes} (h : Tri b0 b W P I V ps is vs C) (hg : W.grownBy W' V.ownBlock)
    (ho : W'.ownsRow b 5 1 V' (vs.length + ys.length) (cb vs ++ cb ys)) (hat : V'.ownBlock = V.ownBlock ∨ V'.ownBlock = some W.heap.size) : Tri b0 b W' P I V' ps is (vs ++ ys) C ∧ Only (fun k => some k = V.ownBlock ∨ W.heap.size ≤ k) W W' := by
  have hO : Only (fun k => some k = V.ownBlock ∨ W.heap.size ≤ k) W W' := Only.grown ((Only.refl (W.heap.size ≤ ·) W).mono fun _ h => .inr h) hg (fun _ h => .inr h) (fun g e => .inl e.symm)
  have hlt : ∀ {z n : Nat} {t : TypeId} {v : Value} {xs : List Value}, W.ownsRow b t z v n xs → ∀ k, v.ownBlock = some k → ¬ W.heap.size ≤ k := fun h k e => by have := (World.ownsRow.lt h k e).2; omega
  refine ⟨⟨h.le, own_step h.pg hO fun k e hk => ?_, tri_den h.den hO (.inr (.inr rfl)) (Grew.refl _ _) (Grew.refl _ _) (hat.imp (fun h => h) fun h => ⟨_, h, Nat.le_refl _⟩), own_step h.id hO fun k e hk => ?_, by rw [List.length_append, cb_append]; exact ho⟩, hO⟩
  · exact hk.elim (own_ne h.pg h.vl (by decide) k e) (hlt h.pg k e)
  · exact hk.elim (own_ne h.id h.vl (by decide) k e) (hlt h.id k e)
theorem blk_row {q z n : Nat} {t t' : TypeId} {cs xs : List Value} {v : Value} (hb : Blk W q t cs) (h : W.ownsRow b t' z v n xs) (ht : t ≠ t') (ho : Only (fun k => some k = v.ownBlock ∨ W.heap.size ≤ k) W W') : Blk W' q t cs := hb.only ho fun hk => by
  rcases hk with hk | hk
  · rcases h.2 with ⟨rfl, _⟩ | ⟨g, cap, cur, rfl, _, hg, _⟩
    · cases hk
    · have e : q = g := Option.some.inj hk
      subst e
      have hb' : W.heap[q]? = _ := hb
      rw [hg] at hb'
      simp only [Option.some.injEq, Obj.cells.injEq] at hb'
      exact ht hb'.2.1.symm
  · have := hb.lt; omega
/-- All that is done lies from block b on. -/
theorem only_own {t : TypeId} {z n : Nat} {v : Value} {xs : List Value} (h : W.ownsRow b t z v n xs) (ho : Only (fun k => some k = v.ownBlock ∨ W.heap.size ≤ k) W W') (hb : b ≤ W.heap.size) : Only (b ≤ ·) W W' := ho.mono fun k hk => hk.elim (fun e => (World.ownsRow.lt h k e.symm).1) fun h => Nat.le_trans hb h
end
end Go.Proofs.YtbgnfocfnjlabaaDoor
