/-
  Parts of the document: plain lemmas.
-/
import Derived.Test.YtjbbljnfgpggkaaDoorDoc
import Derived.Test.YtjbbljnfgpggkaaDoorSlc
import Derived.Test.YtjbbljnfgpggkaaDoorPrl
import Derived.Maps.AppendAt
set_option linter.unusedVariables false
namespace Go.Proofs.YtjbbljnfgpggkaaDoor
open Go.RowKit

theorem info_RP : (Tryd.prog.info? 44).map (fun i => (i.zero, i.size, i.bytes)) = some (some zP, 4, 80) := by kernel_rfl
/-- The pieces come back, in a row of the call's own, for good but for that row. -/
def DPieces (F : Nat → Prop) (w : World) (g : Int) (ks : Bytes) (x : Nd) (e : Ending) (w' : World) : Prop :=
  ∃ A1 n1 c1 l C, e = .returned (.slice A1 n1 c1) ∧ Cuts g ks x l ∧ n1 = l.length ∧ w'.ownsRow w.heap.size 44 4 (.slice A1 n1 c1) n1 C ∧
    Stab (fun k => F k ∨ (Value.slice A1 n1 c1).ownBlock = some k) w' (fun W => Den (ptE.At W) l C) ∧ Only (w.heap.size ≤ ·) w w'

section
variable {P : Program} {w : World}
theorem wp_append_at {o : Oper} {a : Act} {K : Act → World → Prop} {Q : Exit → Act → World → Prop} (s x : Operand) (t : TypeId)
    (ho : o.op = .call { callee := .builtin .append, args := #[s, x], argTypes := #[t, t] })
    (base : Nat) (e : TypeId) (i : TypeInfo) (z : Value) (size bytes : Nat) (ht : P.underlying t = some (.slice e)) (hi : P.info? e = some i) (hz : i.zero = some z)
    (hsize : i.size = size) (hby : i.bytes = bytes) (hzs : z.cells.size = size) (hsz : 0 < size)
    (v : Value) (n : Nat) (xs : List Value) (hs : a.eval s = v) (hown : w.ownsRow base e size v n xs)
    (ad : Addr) (m c : Nat) (news : List Value) (hx : a.eval x = .slice (some ad) m c) (hl : news.length = m * size) (hnews : ∀ j u, news[j]? = some u → w.cell? (ad.add j) = some u) (h1 : ∀ u ∈ news, u.oneCell' = true)
    (h63 : n + m ≤ maxLen) (hbytes : (n + m) * bytes ≤ 140737488355328) (hbase : base ≤ w.heap.size)
    (h : ∀ v' w', w'.ownsRow base e size v' (n + m) (xs ++ news) → w.grownBy w' v.ownBlock → (v'.ownBlock = v.ownBlock ∨ v'.ownBlock = some w.heap.size) → K (a.put o.dst v') w') : o.wp P a w K Q := by
  obtain ⟨v', w', hr, h2, h3, h4, h5⟩ := run_append_own_at (P := P) w base t o.type e i z size bytes ht hi hz hsize hby hzs hsz v n xs hown ad m c news hl hnews h1 h63 hbytes hbase
  unfold Oper.wp execOp
  simp only [ho, resolve, invoke, builtin, Sem.run_bind, Sem.run_pure, Result.andThen_ok, List.map_toArray, List.map_cons, List.map_nil, hs, hx, hr]
  exact h v' w' h2 h3 h5
end

/-- The key of one element of a row, for good. -/
theorem its_key {F : Nat → Prop} {w : World} {A : Option Addr} {n c k : Nat} {l : List It} (h : SRw itE F w (.slice A n c) l) (hk : k < n) : ∃ (b off : Nat) (i : It) (P : Option Addr) (p : Nat), A = some ⟨b, off, none⟩ ∧ b < w.heap.size ∧ n ≤ c ∧ l[k]? = some i ∧ w.cell? ⟨b, off + k * 4, none⟩ = some (.slice P i.1.length p) ∧ Stab F w (fun W => Src W (.slice P i.1.length p) i.1) := by
  have hn := h.len
  obtain ⟨C, hC⟩ := h
  obtain ⟨i, hi⟩ : ∃ i, l[k]? = some i := ⟨_, List.getElem?_eq_getElem (by omega)⟩
  have hw := hC.now
  obtain ⟨A', c', e, hl, hraw, _, hc, _⟩ := hw.2
  simp only [Value.slice.injEq] at e
  obtain ⟨rfl, _, rfl⟩ := e
  obtain ⟨cs, ⟨P, p, Q, q, e2, _⟩, hg⟩ := hw.1.get (z := 4) (fun _ _ => itE.len) hi
  have h0 := hg 0 (.slice P i.1.length p) (by rw [e2]; rfl)
  have hz : itE.z = 4 := rfl
  obtain ⟨b, off, e3, hb, hcell⟩ := hraw (by rw [hl, hz]; omega)
  refine ⟨b, off, i, P, p, e3, hb, by omega, hi, hcell _ _ h0, fun W hW => ?_⟩
  obtain ⟨ds, ⟨P', p', Q', q', e4, hs, _⟩, hg'⟩ := (hC W hW).1.get (z := 4) (fun _ _ => itE.len) hi
  have h0' := hg' 0 (.slice P' i.1.length p') (by rw [e4]; rfl)
  rw [h0] at h0'
  simp only [Option.some.injEq] at h0'
  rw [h0']
  exact hs
theorem kds_key {F : Nat → Prop} {w : World} {A : Option Addr} {n c k : Nat} {l : List Kd} (h : SRw kdE F w (.slice A n c) l) (hk : k < n) : ∃ (b off : Nat) (i : Kd) (P : Option Addr) (p : Nat), A = some ⟨b, off, none⟩ ∧ b < w.heap.size ∧ n ≤ c ∧ l[k]? = some i ∧ w.cell? ⟨b, off + k * 2, none⟩ = some (.slice P i.1.length p) ∧ Stab F w (fun W => Src W (.slice P i.1.length p) i.1) := by
  have hn := h.len
  obtain ⟨C, hC⟩ := h
  obtain ⟨i, hi⟩ : ∃ i, l[k]? = some i := ⟨_, List.getElem?_eq_getElem (by omega)⟩
  have hw := hC.now
  obtain ⟨A', c', e, hl, hraw, _, hc, _⟩ := hw.2
  simp only [Value.slice.injEq] at e
  obtain ⟨rfl, _, rfl⟩ := e
  obtain ⟨cs, ⟨P, p, e2, _⟩, hg⟩ := hw.1.get (z := 2) (fun _ _ => kdE.len) hi
  have h0 := hg 0 (.slice P i.1.length p) (by rw [e2]; rfl)
  have hz : kdE.z = 2 := rfl
  obtain ⟨b, off, e3, hb, hcell⟩ := hraw (by rw [hl, hz]; omega)
  refine ⟨b, off, i, P, p, e3, hb, by omega, hi, hcell _ _ h0, fun W hW => ?_⟩
  obtain ⟨ds, ⟨P', p', e4, hs⟩, hg'⟩ := (hC W hW).1.get (z := 2) (fun _ _ => kdE.len) hi
  have h0' := hg' 0 (.slice P' i.1.length p') (by rw [e4]; rfl)
  rw [h0] at h0'
  simp only [Option.some.injEq] at h0'
  rw [h0']
  exact hs

/-- The two halves' pieces, one row behind the other. -/
theorem dparts_two {w v1 v2 v4 w5 : World} {F : Nat → Prop} {g : Int} {ks : Bytes} {x : Nd} {k n1 c1 n2 c2 : Nat} {A1 A2 : Option Addr} {l1 l2 : List Pt} {C1 C2 : List Value} {v' : Value}
    (hf : nfit g x = false) (hm : 2 ≤ many x) (hmid : IsMid (rms g x) k) (hc1 : Cuts g ks (fstN k x) l1) (hc2 : Cuts g (keyN k x) (sndN k x) l2) (h1 : n1 = l1.length) (h2 : n2 = l2.length)
    (ho1 : v2.ownsRow v1.heap.size 44 4 (.slice A1 n1 c1) n1 C1) (s1 : Stab (fun k => F k ∨ (Value.slice A1 n1 c1).ownBlock = some k) v2 (fun W => Den (ptE.At W) l1 C1))
    (s2 : Stab (fun k => (F k ∨ (Value.slice A1 n1 c1).ownBlock = some k) ∨ (Value.slice A2 n2 c2).ownBlock = some k) v4 (fun W => Den (ptE.At W) l2 C2))
    (hO1 : Only (w.heap.size ≤ ·) w v1) (hO12 : Only (v1.heap.size ≤ ·) v1 v2) (hO2 : Only (v2.heap.size ≤ ·) v2 v4)
    (hg : v4.grownBy w5 (Value.slice A1 n1 c1).ownBlock) (ho5 : w5.ownsRow w.heap.size 44 4 v' (n1 + n2) (C1 ++ C2)) (hat : v'.ownBlock = (Value.slice A1 n1 c1).ownBlock ∨ v'.ownBlock = some v4.heap.size) :
    DPieces F w g ks x (.returned v') w5 := by
  obtain ⟨A', c', rfl, _⟩ := raw_of_own ho5
  have z1 := hO1.size
  have z2 := hO12.size
  have z3 := hO2.size
  have hl1 := World.ownsRow.lt ho1
  have hO5 : Only (fun k => (Value.slice A1 n1 c1).ownBlock = some k ∨ v4.heap.size ≤ k) v4 w5 := Only.grown (Only.refl _ v4) hg (fun k hk => .inr hk) (fun k hk => .inl hk)
  have z5 := hO5.size
  refine ⟨A', n1 + n2, c', l1 ++ l2, C1 ++ C2, rfl, Cuts.cut ks x k l1 l2 hf hm hmid hc1 hc2, by rw [List.length_append]; omega, ho5, fun W hW => ?_, ?_⟩
  · have hat2 : ∀ k, (Value.slice A' (n1 + n2) c').ownBlock = some k → (Value.slice A1 n1 c1).ownBlock = some k ∨ v4.heap.size ≤ k := fun k hk => by
      rcases hat with h | h
      · exact .inl (by rw [← h]; exact hk)
      · rw [h] at hk
        cases hk
        exact .inr (Nat.le_refl _)
    refine (s1 W ((hO2.mono fun k hk => .inr hk).trans ((hO5.mono fun k hk => ?_).trans (hW.mono fun k hk => ?_)))).append (s2 W ((hO5.mono fun k hk => ?_).trans (hW.mono fun k hk => ?_)))
    · rcases hk with hk | hk
      · exact .inl (.inr hk)
      · exact .inr (by omega)
    · rcases hk with (hk | hk) | hk
      · exact .inl (.inl hk)
      · exact (hat2 k hk).elim (fun h => .inl (.inr h)) fun h => .inr (by omega)
      · exact .inr (by omega)
    · rcases hk with hk | hk
      · exact .inl (.inl (.inr hk))
      · exact .inr hk
    · rcases hk with (hk | hk) | hk
      · exact .inl (.inl (.inl hk))
      · exact (hat2 k hk).elim (fun h => .inl (.inl (.inr h))) .inr
      · exact .inr (by omega)
  · exact hO1.trans ((hO12.mono fun k hk => by omega).trans ((hO2.mono fun k hk => by omega).trans (hO5.mono fun k hk => by
      rcases hk with hk | hk
      · have := (hl1 k hk).1
        omega
      · omega)))
theorem slice_fst (w : World) (F : Nat → Prop) (A B : Option Addr) (f : Bool) (n c m d k : Nat) (x : Nd) (hF : ∀ k, F k → k < w.heap.size) (h : SNod F w x f (.slice A n c) (.slice B m d)) (hs : Small x) (h1 : 0 < k) (h2 : k < many x) :
    Calls Tryd.prog 35 #[.agg #[.bool f, .slice A n c, .slice B m d], .int .i64 0, .int .i64 k] w (GaveS F w (fstN k x)) := by
  have hf := h.1
  cases f
  · rw [fst_kids hf.symm]
    rw [many_kids hf.symm, ← h.nod.now.2.2.len] at h2
    exact slice_low w F A B n c m d 0 k x hF h hs h1 (by omega) rfl
  · rw [fst_leaf hf.symm]
    rw [many_leaf hf.symm, ← h.nod.now.2.1.len] at h2
    exact slice_leaf w F A B n c m d 0 k x hF h hs h1 (by omega)
theorem slice_snd (w : World) (F : Nat → Prop) (A B : Option Addr) (f : Bool) (n c m d k : Nat) (x : Nd) (hF : ∀ k, F k → k < w.heap.size) (h : SNod F w x f (.slice A n c) (.slice B m d)) (hs : Small x) (h1 : 0 < k) (h2 : k < many x) :
    Calls Tryd.prog 35 #[.agg #[.bool f, .slice A n c, .slice B m d], .int .i64 k, .int .i64 (many x : Nat)] w (GaveS F w (sndN k x)) := by
  have hf := h.1
  cases f
  · rw [snd_kids hf.symm]
    have hm := h.nod.now.2.2.len
    rw [many_kids hf.symm] at h2 ⊢
    have e : (x.kds.drop k).take (x.kds.length - k) = x.kds.drop k := List.take_of_length_le (by simp)
    have := slice_kids w F A B n c m d k x.kds.length x hF h hs h2 (by omega) h1
    rwa [e] at this
  · rw [snd_leaf hf.symm]
    have hm := h.nod.now.2.1.len
    rw [many_leaf hf.symm] at h2 ⊢
    have e : (x.its.drop k).take (x.its.length - k) = x.its.drop k := List.take_of_length_le (by simp)
    have := slice_leaf w F A B n c m d k x.its.length x hF h hs h2 (by omega)
    rwa [e] at this
end Go.Proofs.YtjbbljnfgpggkaaDoor
