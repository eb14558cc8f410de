/-
  What All has found, in memory; what meet leaves.
-/
import Derived.Test.YtnjhpjpeeehagaaTev
import Derived.Maps.AppendAt
set_option linter.unusedVariables false
namespace Go.Proofs.Ytnjhpjpeeehagaa
open Go.RowKit

theorem keyed : Maps.Keyed Try.prog 3 := Maps.int_keyed Try.underlying3
def Rv (v : Value) : Option (DataW Value × List MemPlace) := some (.held v, [])
def MapB (w : World) (mb n : Nat) (D : DataW Value) : Prop := w.ownsMap Try.prog 3 Rv mb n D
theorem MapB.block {w : World} {mb n : Nat} {D : DataW Value} (h : MapB w mb n D) : ∃ es c, w.heap[mb]? = some (.map es c) := by
  obtain ⟨es, c, hb, _⟩ := h
  exact ⟨es, c, hb⟩
theorem MapB.on {w w' : World} {mb n : Nat} {D : DataW Value} {F : Nat → Prop} (h : MapB w mb n D) (ho : Only F w w') (hF : ¬ F mb) : MapB w' mb n D := by
  obtain ⟨es, c, hb, rest⟩ := h
  exact ⟨es, c, (ho.block mb hF).trans hb, rest⟩
def ic2 (l : List Int) : List Value := l.map (Value.int .i64)
theorem ic2_one (l : List Int) : ∀ u ∈ ic2 l, u.oneCell' = true := by
  intro u hu
  obtain ⟨x, _, rfl⟩ := List.mem_map.1 hu
  rfl
/-- What All's calls write that is not new. -/
def FrM (bs mb : Nat) (vI vR : Value) (j : Nat) : Prop := j = bs ∨ j = mb ∨ vI.ownBlock = some j ∨ vR.ownBlock = some j
theorem frm_of {bs mb n j : Nat} {vI vR : Value} (h : j = bs ∨ j = mb ∨ n ≤ j) : FrM bs mb vI vR j ∨ n ≤ j := by
  rcases h with h | h | h
  · exact .inl (.inl h)
  · exact .inl (.inr (.inl h))
  · exact .inr h
/-- The survey, in memory. -/
def Sur (w : World) (B bs mb bl : Nat) (l : List Nm) (S : Sv) (vI vR : Value) : Prop :=
  bs < B ∧ mb < B ∧ B ≤ w.heap.size ∧ Blk w bs 90 [srcV bl, .map (some mb), vI, vR, .int .i64 ((S.dep : Int) : Int)] ∧
  (∃ C, w.ownsRow B 39 4 vI S.its.length C ∧ Den (fun y cs => Stab (FrM bs mb vI vR) w (fun W => itE.At W y cs)) S.its C) ∧
  w.ownsRow B 3 1 vR S.refs.length (ic2 S.refs) ∧
  (∃ D, MapB w mb S.refs.length D ∧ ∀ r : Int, (Lit.int .i64 r).wf = true → D.atKey (.int .i64 r) (.held (.int .i64 0)) = .held (.int .i64 (if r ∈ S.refs then 1 else 0))) ∧
  S.refs.Nodup ∧ (∀ r ∈ S.refs, ∃ x, nodeP l r = some x) ∧ S.its.length ≤ 1000 * S.refs.length
/-- The same block, or a new one. -/
def NB (w : World) (v v' : Value) : Prop := v'.ownBlock = v.ownBlock ∨ ∃ g, v'.ownBlock = some g ∧ w.heap.size ≤ g
def MeetSays (w : World) (B bs mb bl : Nat) (l : List Nm) (vI vR : Value) (r : Int × Option (Nd × Sv)) (e : Ending) (w' : World) : Prop :=
  Only (fun j => FrM bs mb vI vR j ∨ w.heap.size ≤ j) w w' ∧ ∃ f P p pc Q q qc, e = .returned (.tuple #[.agg #[.bool f, .slice P p pc, .slice Q q qc], .int .i64 r.1]) ∧
    ∀ x S', r.2 = some (x, S') → ∃ vI' vR', Sur w' B bs mb bl l S' vI' vR' ∧ SNod (FrM bs mb vI' vR') w' x f (.slice P p pc) (.slice Q q qc) ∧ NB w vI vI' ∧ NB w vR vR'
theorem refs_few {l : List Nm} : ∀ {r : List Int}, r.Nodup → (∀ z ∈ r, ∃ x, nodeP l z = some x) → r.length ≤ l.length := by
  intro r hn hr
  have h1 : ∀ z ∈ r, z ∈ l.map (·.1) := fun z hz => by
    obtain ⟨x, hx⟩ := hr z hz
    clear hn hr hz
    induction l with
    | nil => cases hx
    | cons y l ih =>
      rw [nodeP] at hx
      by_cases hy : y.1 = z
      · exact List.mem_map.2 ⟨y, List.mem_cons_self, hy⟩
      · rw [if_neg hy] at hx
        exact List.mem_cons_of_mem _ (ih hx)
  have h2 : ∀ (r m : List Int), r.Nodup → (∀ z ∈ r, z ∈ m) → r.length ≤ m.length := by
    intro r
    induction r with
    | nil => intro m _ _; simp
    | cons z r ih =>
      intro m hn hm
      have hz := hm z List.mem_cons_self
      have := ih (m.erase z) (List.nodup_cons.1 hn).2 fun y hy => by
        have hne : y ≠ z := fun e => (List.nodup_cons.1 hn).1 (e ▸ hy)
        exact (List.mem_erase_of_ne hne).2 (hm y (List.mem_cons_of_mem _ hy))
      rw [List.length_erase_of_mem hz] at this
      have hp := List.length_pos_of_mem hz
      simp only [List.length_cons]
      omega
  have := h2 r _ hn h1
  rwa [List.length_map] at this
theorem own_apart {w : World} {B B' s s' n n' : Nat} {e e' : TypeId} {v u : Value} {xs ys : List Value} (h : w.ownsRow B e s v n xs) (k : w.ownsRow B' e' s' u n' ys) (hne : e ≠ e') {g : Nat} (hv : v.ownBlock = some g) : u.ownBlock ≠ some g := fun hu => by
  obtain ⟨c, fz, hc⟩ := Lib.ownsRow_kind h g hv
  obtain ⟨c', fz', hc'⟩ := Lib.ownsRow_kind k g hu
  rw [hc] at hc'
  injection hc' with hc'
  injection hc' with _ h2
  exact hne h2
section
variable {P : Program} {w : World}
theorem wp_append_none {o : Oper} {a : Act} {K : Act → World → Prop} {Q : Exit → Act → World → Prop} (s x : Operand) (t : TypeId)
    (ho : o.op = .call { callee := .builtin .append, args := #[s, x], argTypes := #[t, t] })
    (base : Nat) (e : TypeId) (i : TypeInfo) (size : Nat) (ht : P.underlying t = some (.slice e)) (hi : P.info? e = some i)
    (v : Value) (n : Nat) (xs : List Value) (hs : a.eval s = v) (hown : w.ownsRow base e size v n xs) (hx : a.eval x = .slice none 0 0)
    (h : K (a.put o.dst v) w) : o.wp P a w K Q := by
  have hrun := run_append_owned_none (P := P) (w := w) base t o.type e i size ht hi v n xs hown
  unfold Oper.wp
  simp [execOp, ho, resolve, invoke, builtin, hs, hx, hrun, Result.andThen]
  exact h
end
/-- A row's cells, each of them for good. -/
theorem den_stab {α : Type} {E : El α} {G : World → Prop} {w : World} (hw : G w) : ∀ {l : List α} {C : List Value}, (∀ W, G W → Den (E.At W) l C) → Den (fun y cs => ∀ W, G W → E.At W y cs) l C
  | [], C, h => h w hw
  | x :: l, C, h => by
    obtain ⟨cs, D, hC, hx, hD⟩ := h w hw
    have hz := E.len hx
    have key : ∀ W, G W → E.At W x cs ∧ Den (E.At W) l D := fun W hW => by
      obtain ⟨cs', D', hC', hx', hD'⟩ := h W hW
      rw [hC] at hC'
      obtain ⟨rfl, rfl⟩ := List.append_inj hC' (hz.trans (E.len hx').symm)
      exact ⟨hx', hD'⟩
    exact ⟨cs, D, hC, fun W hW => (key W hW).1, den_stab hw fun W hW => (key W hW).2⟩

theorem look13 {W : World} {mb N : Nat} {D : DataW Value} (h : MapB W mb N D) {ref : Int} (ht : (Lit.int .i64 ref).wf = true) {c : Int} (hc : D.atKey (.int .i64 ref) (.held (.int .i64 0)) = .held (.int .i64 c)) :
    (Instr.lookup 88 (.map (some mb)) (.int .i64 ref) false).run Try.prog W = .ok (.int .i64 c) W := by
  obtain ⟨v, ps, hrun, hv⟩ := World.ownsMap.lookup h keyed Try.underlying88 (z := .int .i64 0) (Try.zeroValue3 W) (zd := .held (.int .i64 0)) (zp := []) rfl (Maps.keyOf_int_mk Try.underlying3 ht)
  have h1 : DataW.held v = D.atKey (.int .i64 ref) (.held (.int .i64 0)) := congrArg Prod.fst (Option.some.inj hv)
  rw [hc] at h1
  obtain rfl : v = .int .i64 c := by injection h1
  exact hrun
theorem map_is {w : World} {mb n : Nat} {D : DataW Value} (h : MapB w mb n D) : Maps.IsMap D := by
  obtain ⟨es, e, _⟩ := World.ownsMap.entries h keyed
  exact ⟨es, e⟩
theorem put13 {W : World} {mb N : Nat} {D : DataW Value} (h : MapB W mb N D) (hN : N < 9223372036854775807) {ref : Int} (ht : (Lit.int .i64 ref).wf = true) (z : Int) :
    ∃ W', (Instr.mapUpdate 88 (.map (some mb)) (.int .i64 ref) (.int .i64 z)).run Try.prog W = .ok () W' ∧ MapB W' mb (N + 1) (D.put (.int .i64 ref) (.held (.int .i64 z))) ∧ W.grownBy W' (some mb) := by
  obtain ⟨w6, hup, hm6, hg6⟩ := World.ownsMap.update h keyed Try.underlying88 (by simp only [maxLen]; omega) (Maps.keyOf_int_mk Try.underlying3 ht) (val := .int .i64 z) rfl
  exact ⟨w6, hup, hm6, hg6⟩
theorem meet_fin {w w2 w3 wf : World} {B bs mb bl n m : Nat} {l : List Nm} {S : Sv} {vI vR vI' vR' : Value} {x : Nd} {lf : Bool} {v u : Value} {ref : Int} {d : Nat} {C C1 C2 : List Value} {D' : DataW Value}
    (hB : bs < B ∧ mb < B ∧ B ≤ w.heap.size) (h2 : w.heap.size ≤ w2.heap.size) (h3 : w2.heap.size ≤ w3.heap.size) (hno : nodeP l ref = some x) (hsm : x.its.length ≤ 1000) (hm : ref ∉ S.refs) (hnd : S.refs.Nodup) (hrn : ∀ r ∈ S.refs, ∃ x, nodeP l r = some x) (hil : S.its.length ≤ 1000 * S.refs.length)
    (hcd : Den (fun y cs => Stab (FrM bs mb vI vR) w (fun W => itE.At W y cs)) S.its C) (hco : w.ownsRow B 39 4 vI n C) (hro : w.ownsRow B 3 1 vR m C2)
    (hC1 : Stab (fun j => j < w2.heap.size ∨ none = some j) w3 (fun W => RwC itE W v x.its C1)) (hsn : SNod (fun j => j < w2.heap.size ∨ none = some j) w3 x lf v u)
    (f1 : Blk wf bs 90 [srcV bl, .map (some mb), vI', vR', .int .i64 (d : Int)]) (f2 : wf.ownsRow B 39 4 vI' (S.its.length + x.its.length) (C ++ C1)) (f3 : wf.ownsRow B 3 1 vR' (S.refs.length + 1) (ic2 S.refs ++ [.int .i64 ref])) (f4 : MapB wf mb (S.refs.length + 1) D')
    (hdk : ∀ r : Int, (Lit.int .i64 r).wf = true → D'.atKey (.int .i64 r) (.held (.int .i64 0)) = .held (.int .i64 (if r ∈ S.refs ++ [ref] then 1 else 0)))
    (f5 : Only (fun j => FrM bs mb vI vR j ∨ w.heap.size ≤ j) w wf) (f6 : Only (fun j => j < w2.heap.size ∨ w3.heap.size ≤ j) w3 wf)
    (nI : vI'.ownBlock = vI.ownBlock ∨ ∃ g, vI'.ownBlock = some g ∧ w3.heap.size ≤ g) (nR : vR'.ownBlock = vR.ownBlock ∨ ∃ g, vR'.ownBlock = some g ∧ w3.heap.size ≤ g) :
    Sur wf B bs mb bl l ⟨S.its ++ x.its, S.refs ++ [ref], d⟩ vI' vR' ∧ SNod (FrM bs mb vI' vR') wf x lf v u ∧ NB w vI vI' ∧ NB w vR vR' := by
  have lI := World.ownsRow.lt hco
  have lR := World.ownsRow.lt hro
  have nw : ∀ {p q : Value}, (q.ownBlock = p.ownBlock ∨ ∃ g, q.ownBlock = some g ∧ w3.heap.size ≤ g) → NB w p q := fun h => h.imp (fun h => h) fun ⟨g, h1, h2⟩ => ⟨g, h1, by omega⟩
  have hF : ∀ k, FrM bs mb vI' vR' k → FrM bs mb vI vR k ∨ w3.heap.size ≤ k := fun k hk => by
    rcases hk with hk | hk | hk | hk
    · exact .inl (.inl hk)
    · exact .inl (.inr (.inl hk))
    · rcases nI with h | ⟨g, h, hg⟩
      · exact .inl (.inr (.inr (.inl (h ▸ hk))))
      · rw [h] at hk
        cases hk
        exact .inr hg
    · rcases nR with h | ⟨g, h, hg⟩
      · exact .inl (.inr (.inr (.inr (h ▸ hk))))
      · rw [h] at hk
        cases hk
        exact .inr hg
  have hlow : ∀ k, FrM bs mb vI vR k → k < w.heap.size := fun k hk => by
    rcases hk with hk | hk | hk | hk
    · omega
    · omega
    · exact (lI k hk).2
    · exact (lR k hk).2
  have hF3 : ∀ k, FrM bs mb vI' vR' k → (k < w2.heap.size ∨ none = some k) ∨ w3.heap.size ≤ k := fun k hk => (hF k hk).imp (fun h => .inl (by have := hlow k h; omega)) fun h => h
  refine ⟨⟨hB.1, hB.2.1, by have := f5.size; omega, f1, ⟨C ++ C1, by rw [List.length_append]; exact f2, Den.append (hcd.mono fun y cs hy => Stab.step hy f5 fun k hk => (hF k hk).imp (fun h => h) fun h => by omega) ?_⟩, by rw [List.length_append]; unfold ic2 at f3 ⊢; rw [List.map_append]; exact f3, ⟨D', by rw [List.length_append]; exact f4, hdk⟩, ?_, ?_, ?_⟩, SNod.step hsn (f6.mono fun j hj => hj.imp (fun h => .inl h) fun h => h) hF3, nw nI, nw nR⟩
  · refine den_stab (G := fun W => Only (fun k => FrM bs mb vI' vR' k ∨ wf.heap.size ≤ k) wf W) (w := wf) (Only.refl _ _) fun W hW => ?_
    refine (hC1 W ((f6.mono fun j hj => hj.imp (fun h => .inl h) fun h => h).trans (hW.mono fun j hj => ?_))).1
    rcases hj with hj | hj
    · exact hF3 j hj
    · exact .inr (Nat.le_trans f6.size hj)
  · exact List.nodup_append.2 ⟨hnd, by simp, fun a ha b hb e => by simp at hb; subst hb; subst e; exact hm ha⟩
  · intro r hr
    rcases List.mem_append.1 hr with h | h
    · exact hrn r h
    · simp at h
      subst h
      exact ⟨x, hno⟩
  · show (S.its ++ x.its).length ≤ 1000 * (S.refs ++ [ref]).length
    rw [List.length_append, List.length_append]
    simp only [List.length_singleton]
    omega
theorem MapB.lt13 {w : World} {mb n : Nat} {D : DataW Value} (h : MapB w mb n D) : mb < w.heap.size := World.ownsMap.lt h
theorem Blk.far' {w w' : World} {g b : Nat} {t : TypeId} {cs : List Value} (h : Blk w g t cs) (ho : Only (· = b) w w') (hne : g ≠ b) : Blk w' g t cs := h.only ho hne
theorem own_cast {w : World} {B z n n' : Nat} {e : TypeId} {v : Value} {xs : List Value} (h : w.ownsRow B e z v n xs) (hn : n = n') : w.ownsRow B e z v n' xs := by
  subst hn
  exact h
theorem form_res {x : Nd} {dp : Nat} {sp : Sn} {r : Bool} (h : r = true ↔ FormP x dp sp) : r = formB x dp sp := by rw [Bool.eq_iff_iff, h, formB_iff]
theorem info_N : (Try.prog.info? 3).map (fun i => (i.zero, i.size, i.bytes)) = some (some (.int .i64 0), 1, 8) := by kernel_rfl

end Go.Proofs.Ytnjhpjpeeehagaa
