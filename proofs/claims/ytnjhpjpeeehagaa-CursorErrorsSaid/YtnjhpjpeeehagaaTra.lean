/-
  What the document's All leans on.
-/
import Derived.Test.YtnjhpjpeeehagaaTme
import Derived.Test.YtnjhpjpeeehagaaTkq
import Derived.Test.YtnjhpjpeeehagaaTrp
import Derived.Test.YtnjhpjpeeehagaaTal
set_option linter.unusedVariables false
namespace Go.Proofs.Ytnjhpjpeeehagaa
open Go.RowKit

section
variable {P : Program} {w : World}
theorem wp_append_row {o : Oper} {a : Act} {K : Act → World → Prop} {Q : Exit → Act → World → Prop} (s x : Operand) (t : TypeId)
    (ho : o.op = .call { callee := .builtin .append, args := #[s, x], argTypes := #[t, t] })
    (base : Nat) (e : TypeId) (i : TypeInfo) (z : Value) (size bytes : Nat) (ht : P.underlying t = some (.slice e)) (hi : P.info? e = some i) (hz : i.zero = some z)
    (hsize : i.size = size) (hby : i.bytes = bytes) (hzs : z.cells.size = size) (hsz : 0 < size)
    (v : Value) (n : Nat) (xs : List Value) (hs : a.eval s = v) (hown : w.ownsRow base e size v n xs)
    (A : Option Addr) (m c : Nat) (news : List Value) (hx : a.eval x = .slice A m c) (hA : A = none → m = 0 ∧ c = 0) (hl : news.length = m * size) (hnews : ∀ ad, A = some ad → ∀ j u, news[j]? = some u → w.cell? (ad.add j) = some u) (h1 : ∀ u ∈ news, u.oneCell' = true)
    (h63 : n + m ≤ maxLen) (hbytes : (n + m) * bytes ≤ 140737488355328) (hbase : base ≤ w.heap.size)
    (h : ∀ v' w', w'.ownsRow base e size v' (n + m) (xs ++ news) → w.grownBy w' v.ownBlock → (v'.ownBlock = v.ownBlock ∨ v'.ownBlock = some w.heap.size) → K (a.put o.dst v') w') : o.wp P a w K Q := by
  cases A with
  | some ad => exact wp_append_at s x t ho base e i z size bytes ht hi hz hsize hby hzs hsz v n xs hs hown ad m c news hx hl (hnews ad rfl) h1 h63 hbytes hbase h
  | none =>
    obtain ⟨rfl, rfl⟩ := hA rfl
    obtain rfl : news = [] := List.eq_nil_of_length_eq_zero (by omega)
    refine wp_append_none s x t ho base e i size ht hi v n xs hs hown hx (h v w (by rw [List.append_nil]; exact hown) ⟨rfl, rfl, rfl, Nat.le_refl _, fun _ _ _ => rfl⟩ (.inl rfl))
theorem wpList_append_row {ops : Array Oper} {rest : List Oper} {o : Oper} {a : Act} {Q : Exit → Act → World → Prop} (hgd : o.guard = none) (s x : Operand) (t : TypeId)
    (ho : o.op = .call { callee := .builtin .append, args := #[s, x], argTypes := #[t, t] })
    (base : Nat) (e : TypeId) (i : TypeInfo) (z : Value) (size bytes : Nat) (ht : P.underlying t = some (.slice e)) (hi : P.info? e = some i) (hz : i.zero = some z)
    (hsize : i.size = size) (hby : i.bytes = bytes) (hzs : z.cells.size = size) (hsz : 0 < size)
    (v : Value) (n : Nat) (xs : List Value) (hs : a.eval s = v) (hown : w.ownsRow base e size v n xs)
    (A : Option Addr) (m c : Nat) (news : List Value) (hx : a.eval x = .slice A m c) (hA : A = none → m = 0 ∧ c = 0) (hl : news.length = m * size) (hnews : ∀ ad, A = some ad → ∀ j u, news[j]? = some u → w.cell? (ad.add j) = some u) (h1 : ∀ u ∈ news, u.oneCell' = true)
    (h63 : n + m ≤ maxLen) (hbytes : (n + m) * bytes ≤ 140737488355328) (hbase : base ≤ w.heap.size)
    (h : ∀ v' w', w'.ownsRow base e size v' (n + m) (xs ++ news) → w.grownBy w' v.ownBlock → (v'.ownBlock = v.ownBlock ∨ v'.ownBlock = some w.heap.size) → wpList P ops Q rest (a.put o.dst v') w') : wpList P ops Q (o :: rest) a w :=
  wpList_plain hgd fun K hK => wp_append_row s x t ho base e i z size bytes ht hi hz hsize hby hzs hsz v n xs hs hown A m c news hx hA hl hnews h1 h63 hbytes hbase fun v' w' h2 h3 h5 => hK _ _ (h v' w' h2 h3 h5)
end
theorem own_none (w : World) (t : TypeId) (z : Nat) : (w.alloc (.cells #[] t)).ownsRow w.heap.size t z (.slice (some ⟨w.heap.size, 0, none⟩) 0 0) 0 [] :=
  ⟨by simp, .inr ⟨w.heap.size, 0, #[], rfl, Nat.le_refl _, heap_alloc_new w _, Nat.le_refl _, by decide, by simp, by simp⟩⟩
theorem own_le {w : World} {B B' z n : Nat} {t : TypeId} {v : Value} {C : List Value} (h : w.ownsRow B t z v n C) (hB : B' ≤ B) : w.ownsRow B' t z v n C := by
  refine ⟨h.1, ?_⟩
  rcases h.2 with h | ⟨g, cap, cur, e, hb, r⟩
  · exact .inl h
  · exact .inr ⟨g, cap, cur, e, Nat.le_trans hB hb, r⟩
/-- What an own row's slice tells of its cells. -/
theorem own_src {w : World} {B z n m c : Nat} {t : TypeId} {A : Option Addr} {C : List Value} (h : w.ownsRow B t z (.slice A m c) n C) : m = n ∧ (A = none → m = 0 ∧ c = 0) ∧ C.length = m * z ∧ ∀ ad, A = some ad → ∀ j u, C[j]? = some u → w.cell? (ad.add j) = some u := by
  obtain ⟨A', c', e, hr, h1, h2, h3, _⟩ := raw_of_own h
  cases e
  exact ⟨rfl, fun e => ⟨by have := h1 e; omega, h1 e⟩, h.1, hr.src⟩
def Node0 (w0 w : World) (o : Option Nd) (no : Int) (e : Ending) (w' : World) : Prop :=
  (∃ f A n c B m d er, e = .returned (.tuple #[.agg #[.bool f, .slice A n c, .slice B m d], .int .i64 er]) ∧ er = (if o.isSome then 0 else no) ∧ Nod w0 (o.getD ⟨false, [], []⟩) f (.slice A n c) (.slice B m d)) ∧ Only (w.heap.size ≤ ·) w w'
set_option maxRecDepth 100000 in
set_option maxHeartbeats 6400000 in
/-- The document's Node, its rows where they were. -/
theorem rNode_0 (w0 w : World) (A : Option Addr) (n c : Nat) (r : Int) (l : List Nm) (h : Nms w0 (.slice A n c) l) (h0 : Only (w0.heap.size ≤ ·) w0 w) (hn : n ≤ 1000000) :
    Calls Try.prog 27 #[.slice A n c, .int .i64 r] w (Node0 w0 w (nodeP l r) 11) := by
  have HNL := Lib.hid h.len
  have HN := Lib.hid h
  have H0 := Lib.hid h0
  clear h h0
  obtain ⟨w1, hw1⟩ : ∃ w1, w1 = w.alloc (.cells #[.bool false, .slice none 0 0, .slice none 0 0] 63) := ⟨_, rfl⟩
  obtain ⟨b1, hb1⟩ : ∃ b1, b1 = w.heap.size := ⟨_, rfl⟩
  have HB : Hid (Blk w1 b1 63 [.bool false, .slice none 0 0, .slice none 0 0]) := Lib.hid (by rw [hw1, hb1]; exact Blk.new w _ [.bool false, .slice none 0 0, .slice none 0 0])
  have HO : Hid (Only (w.heap.size ≤ ·) w w1) := Lib.hid (by rw [hw1]; exact (Only.refl _ w).alloc (fun _ h => h) _)
  have HBN : Hid (w.heap.size ≤ b1) := Lib.hid (by omega)
  have HEQ : Hid (w1 = w.alloc (.cells #[.bool false, .slice none 0 0, .slice none 0 0] 63) ∧ b1 = w.heap.size) := Lib.hid ⟨hw1, hb1⟩
  clear hw1 hb1
  go_enter Try.func27, Try.ntmps27
  go_upto_region 1 with (fail)
  rw [← HEQ.out.1, ← HEQ.out.2]
  obtain ⟨c0, c1, c2⟩ := HB.out.tri
  obtain ⟨f0, f1, f2⟩ := HB.out.melt3
  go_wp2
  go_loopg [6] n (fun gk i wr => ∃ k : Nat, gk = n - k ∧ k ≤ n ∧ i = .int .i64 (k : Int) ∧ wr = w1 ∧ Hid (∀ x ∈ l.take k, x.1 ≠ r))
  case atStart => exact ⟨0, rfl, Nat.zero_le _, rfl, rfl, Lib.hid (fun x hx => by simp at hx)⟩
  case round =>
    obtain ⟨k, rfl, hk, rfl, rfl, HK⟩ := hrel
    by_cases hlt : k < n
    · obtain ⟨b, off, x, Q, R, s, q, t, u, rfl, hb, hx, p0, p1, p2, p3, hnd⟩ := nms_at HN.out hlt
      have q0 := cell_later p0 (on_new H0.out HO.out)
      have q1 := cell_later p1 (on_new H0.out HO.out)
      have q2 := cell_later p2 (on_new H0.out HO.out)
      have q3 := cell_later p3 (on_new H0.out HO.out)
      clear p0 p1 p2 p3
      have hlt' : (k : Int) < (n : Int) := by omega
      have HX := Lib.hid hx
      have HND := Lib.hid hnd
      obtain ⟨xr, x⟩ := x
      obtain ⟨lf, hlf⟩ : ∃ lf, lf = x.leaf := ⟨_, rfl⟩
      simp only at q0 q1 hnd HND
      rw [← hlf] at q1 HND
      have HLF := Lib.hid hlf
      clear hx hnd hlf
      by_cases hr : xr = r
      · subst hr
        have HP : Hid (nodeP l xr = some x) := Lib.hid (nodeP_at HX.out rfl HK.out)
        go_wp2
        have HF1 : Hid (Blk (((wr.setCell ⟨b1, 0, none⟩ (.bool lf)).setCell ⟨b1, 1, none⟩ (.slice Q s q)).setCell ⟨b1, 2, none⟩ (.slice R t u)) b1 63 [.bool lf, .slice Q s q, .slice R t u]) := Lib.hid (((HB.out.set_ 0 _).set_ 1 _).set_ 2 _)
        have HF2 : Hid (Only (fun k => k = b1) wr (((wr.setCell ⟨b1, 0, none⟩ (.bool lf)).setCell ⟨b1, 1, none⟩ (.slice Q s q)).setCell ⟨b1, 2, none⟩ (.slice R t u))) := Lib.hid ((((Only.refl (fun k => k = b1) wr).setCell (p := ⟨b1, 0, none⟩) rfl _).setCell (p := ⟨b1, 1, none⟩) rfl _).setCell (p := ⟨b1, 2, none⟩) rfl _)
        refine bodyPost_ret (v := .tuple #[.agg #[.bool lf, .slice Q s q, .slice R t u], .int .i64 0]) (results_cell2 rfl rfl rfl (load_node (.inl rfl) HF1.out)) rfl ⟨⟨lf, Q, s, q, R, t, u, 0, rfl, by rw [HP.out]; rfl, ?_⟩, HO.out.trans (HF2.out.mono fun k hk => by subst hk; exact HBN.out)⟩
        rw [HP.out]
        exact HND.out
      · go_wp2
        go_roundg (n - (k + 1))
        case measure => omega
        case rel => exact ⟨k + 1, rfl, by omega, by go_num, rfl, Lib.hid (fun y hy => by
          rw [List.take_add_one, HX.out] at hy
          rcases List.mem_append.1 hy with h | h
          · exact HK.out y h
          · simp at h
            subst h
            exact hr)⟩
    · obtain rfl : k = n := by omega
      have hkm : ¬ (k : Int) < (k : Int) := by omega
      have HP : Hid (nodeP l r = none) := Lib.hid (nodeP_none fun x hx => HK.out x (by rw [HNL.out, List.take_length]; exact hx))
      go_wp2
      have HF1 : Hid (Blk (((wr.setCell ⟨b1, 0, none⟩ (.bool false)).setCell ⟨b1, 1, none⟩ (.slice none 0 0)).setCell ⟨b1, 2, none⟩ (.slice none 0 0)) b1 63 [.bool false, .slice none 0 0, .slice none 0 0]) := Lib.hid (((HB.out.set_ 0 _).set_ 1 _).set_ 2 _)
      have HF2 : Hid (Only (w.heap.size ≤ ·) w (((wr.setCell ⟨b1, 0, none⟩ (.bool false)).setCell ⟨b1, 1, none⟩ (.slice none 0 0)).setCell ⟨b1, 2, none⟩ (.slice none 0 0))) := Lib.hid (((HO.out.setCell (p := ⟨b1, 0, none⟩) HBN.out _).setCell (p := ⟨b1, 1, none⟩) HBN.out _).setCell (p := ⟨b1, 2, none⟩) HBN.out _)
      refine bodyPost_ret (v := .tuple #[.agg #[.bool false, .slice none 0 0, .slice none 0 0], .int .i64 11]) (results_cell2 rfl rfl rfl (load_node (.inl rfl) HF1.out)) rfl ⟨⟨false, none, 0, 0, none, 0, 0, 11, rfl, by rw [HP.out]; rfl, ?_⟩, HF2.out⟩
      rw [HP.out]
      exact Nod.none_ _
/-- The rows of what was found so far. -/
structure AInv (w0 w : World) (l : List Nm) (S : Sv) (vI vR : Value) : Prop where
  i : ∃ C, w.ownsRow w0.heap.size 44 4 vI S.its.length C ∧ Den (itE.At w0) S.its C
  r : w.ownsRow w0.heap.size 3 1 vR S.refs.length (ic2 S.refs)
theorem AInv.later {w0 w w' : World} {l : List Nm} {S : Sv} {vI vR : Value} (h : AInv w0 w l S vI vR) (ho : Only (w.heap.size ≤ ·) w w') : AInv w0 w' l S vI vR := by
  obtain ⟨⟨C, h1, h2⟩, h3⟩ := h
  exact ⟨⟨C, own_later h1 ho, h2⟩, own_later h3 ho⟩
theorem AInv.other {w0 w w' : World} {l : List Nm} {S : Sv} {vI vR : Value} {g : Nat} {t : TypeId} {cs : List Value} (h : AInv w0 w l S vI vR) (hb : Blk w g t cs) (h1 : t ≠ 44) (h2 : t ≠ 3) (ho : Only (· = g) w w') : AInv w0 w' l S vI vR := by
  obtain ⟨⟨C, k1, k2⟩, k3⟩ := h
  exact ⟨⟨C, own_on k1 ho fun k hk e => own_ne k1 hb (fun e => h1 e.symm) (e ▸ hk), k2⟩, own_on k3 ho fun k hk e => own_ne k3 hb (fun e => h2 e.symm) (e ▸ hk)⟩
theorem AInv.only {w0 w w' : World} {l : List Nm} {S : Sv} {vI vR : Value} {F : Nat → Prop} (h : AInv w0 w l S vI vR) (ho : Only F w w') (hF : ∀ i, F i → (∀ g, vI.ownBlock = some g → i ≠ g) ∧ ∀ g, vR.ownBlock = some g → i ≠ g) : AInv w0 w' l S vI vR := by
  obtain ⟨⟨C, k1, k2⟩, k3⟩ := h
  exact ⟨⟨C, own_on k1 ho fun k hk e => (hF k e).1 k hk rfl, k2⟩, own_on k3 ho fun k hk e => (hF k e).2 k hk rfl⟩
theorem six_later {w W : World} {a0 a1 a2 a3 a4 a5 : Addr} {x0 x1 x2 x3 x4 x5 : Value} (h : w.cell? a0 = some x0 ∧ w.cell? a1 = some x1 ∧ w.cell? a2 = some x2 ∧ w.cell? a3 = some x3 ∧ w.cell? a4 = some x4 ∧ w.cell? a5 = some x5) (ho : Only (w.heap.size ≤ ·) w W) : W.cell? a0 = some x0 ∧ W.cell? a1 = some x1 ∧ W.cell? a2 = some x2 ∧ W.cell? a3 = some x3 ∧ W.cell? a4 = some x4 ∧ W.cell? a5 = some x5 :=
  ⟨cell_later h.1 ho, cell_later h.2.1 ho, cell_later h.2.2.1 ho, cell_later h.2.2.2.1 ho, cell_later h.2.2.2.2.1 ho, cell_later h.2.2.2.2.2 ho⟩
theorem six_other {w W : World} {b g1 g2 g3 g4 o1 o2 o3 o4 o5 o6 : Nat} {x0 x1 x2 x3 x4 x5 : Value} (h : w.cell? ⟨g1, o1, none⟩ = some x0 ∧ w.cell? ⟨g2, o2, none⟩ = some x1 ∧ w.cell? ⟨g3, o3, none⟩ = some x2 ∧ w.cell? ⟨g3, o4, none⟩ = some x3 ∧ w.cell? ⟨g4, o5, none⟩ = some x4 ∧ w.cell? ⟨g4, o6, none⟩ = some x5) (ho : Only (· = b) w W) (h1 : g1 ≠ b) (h2 : g2 ≠ b) (h3 : g3 ≠ b) (h4 : g4 ≠ b) : W.cell? ⟨g1, o1, none⟩ = some x0 ∧ W.cell? ⟨g2, o2, none⟩ = some x1 ∧ W.cell? ⟨g3, o3, none⟩ = some x2 ∧ W.cell? ⟨g3, o4, none⟩ = some x3 ∧ W.cell? ⟨g4, o5, none⟩ = some x4 ∧ W.cell? ⟨g4, o6, none⟩ = some x5 :=
  ⟨(ho.cell (p := ⟨g1, o1, none⟩) h1).trans h.1, (ho.cell (p := ⟨g2, o2, none⟩) h2).trans h.2.1, (ho.cell (p := ⟨g3, o3, none⟩) h3).trans h.2.2.1, (ho.cell (p := ⟨g3, o4, none⟩) h3).trans h.2.2.2.1, (ho.cell (p := ⟨g4, o5, none⟩) h4).trans h.2.2.2.2.1, (ho.cell (p := ⟨g4, o6, none⟩) h4).trans h.2.2.2.2.2⟩
theorem AInv.form {w0 w : World} {l : List Nm} {S : Sv} {vI vR : Value} (h : AInv w0 w l S vI vR) : ∃ IA ic RA rc, vI = .slice IA S.its.length ic ∧ vR = .slice RA S.refs.length rc := by
  obtain ⟨⟨C, k1, k2⟩, k3⟩ := h
  obtain ⟨A, c, e, _⟩ := raw_of_own k1
  obtain ⟨A', c', e', _⟩ := raw_of_own k3
  exact ⟨A, c, A', c', e, e'⟩
/-- What the document's All tells. -/
def AllR (w0 w : World) (l : List Nm) (r : Int × Sv) (e : Ending) (w' : World) : Prop :=
  (∃ vI vR, e = .returned (.agg #[vI, vR, .int .i64 (((okS r).dep : Nat) : Int), .int .i64 r.1]) ∧ AInv w0 w' l (okS r) vI vR) ∧ Only (w.heap.size ≤ ·) w w'
theorem Blk.cell4 {w : World} {g : Nat} {t : TypeId} {a b c d : Value} (h : Blk w g t [a, b, c, d]) : w.cell? ⟨g, 0, none⟩ = some a ∧ w.cell? ⟨g, 1, none⟩ = some b ∧ w.cell? ⟨g, 2, none⟩ = some c ∧ w.cell? ⟨g, 3, none⟩ = some d := ⟨h.cell 0, h.cell 1, h.cell 2, h.cell 3⟩
theorem Blk.melt4 {w : World} {g : Nat} {t : TypeId} {cs : List Value} (h : Blk w g t cs) : w.frozen? ⟨g, 0, none⟩ = false ∧ w.frozen? ⟨g, 1, none⟩ = false ∧ w.frozen? ⟨g, 2, none⟩ = false ∧ w.frozen? ⟨g, 3, none⟩ = false := ⟨h.frozen 0, h.frozen 1, h.frozen 2, h.frozen 3⟩
/-- What is true of what was found, whatever was visited. -/
def SvOk (l : List Nm) (S : Sv) : Prop := S.refs.Nodup ∧ (∀ r ∈ S.refs, ∃ x, nodeP l r = some x) ∧ S.its.length ≤ 1000 * S.refs.length
theorem meet_ok {l : List Nm} {dp : Nat} {ref : Int} {sp : Sn} {S : Sv} {x : Nd} {S' : Sv} (hf : FewN l) (hS : SvOk l S) (h : (meetP l dp ref sp S).2 = some (x, S')) : SvOk l S' ∧ nodeP l ref = some x := by
  unfold meetP at h
  split at h
  · cases h
  · cases hno : nodeP l ref with
    | none => rw [hno] at h; cases h
    | some y =>
      rw [hno] at h
      simp only at h
      split at h
      · cases h
      · rename_i hb
        cases h
        have hnm : ref ∉ S.refs := fun hm => hb (by simp [hm])
        obtain ⟨h1, h2, h3⟩ := hS
        have hsm := hf.get ref
        rw [hno] at hsm
        have hl : x.its.length ≤ 1000 := hsm.1
        refine ⟨⟨List.nodup_append.2 ⟨h1, by simp, fun a ha b hb e => by simp at hb; subst hb; subst e; exact hnm ha⟩, fun r hr => ?_, ?_⟩, rfl⟩
        · rcases List.mem_append.1 hr with h | h
          · exact h2 r h
          · simp at h
            subst h
            exact ⟨_, hno⟩
        · show (S.its ++ x.its).length ≤ 1000 * (S.refs ++ [ref]).length
          rw [List.length_append, List.length_append]
          simp only [List.length_singleton]
          omega
theorem kids_ok {l : List Nm} {g : Int → Sn → Sv → Int × Sv} (hg : ∀ r sp S, SvOk l S → SvOk l (g r sp S).2) (ks : List Kd) (sp : Sn) : ∀ (m k : Nat) (S : Sv), SvOk l S → SvOk l (kidsP g ks sp k m S).2
  | 0, k, S, h => h
  | m + 1, k, S, h => by
    rw [kidsP]
    split
    · exact kids_ok hg ks sp m (k + 1) _ (hg _ _ _ h)
    · exact hg _ _ _ h
theorem visit_ok {l : List Nm} (hf : FewN l) : ∀ (f : Nat) (ref : Int) (sp : Sn) (S : Sv), SvOk l S → SvOk l (visitP l f ref sp S).2
  | 0, ref, sp, S, h => h
  | f + 1, ref, sp, S, h => by
    rw [visitP]
    cases hm : (meetP l (12 - f) ref sp S).2 with
    | none => exact h
    | some q => exact kids_ok (fun r sp S hS => visit_ok hf f r sp S hS) _ _ _ _ _ (meet_ok hf h (by rw [hm])).1
theorem SvOk.few {l : List Nm} {S : Sv} (hf : FewN l) (h : SvOk l S) : S.refs.length ≤ 1000 ∧ S.its.length ≤ 1000000 := by
  have h1 := refs_few h.1 h.2.1
  have h2 := hf.1
  have h3 := h.2.2
  omega
/-- A node's keys, as they are held against a span. -/
theorem rest_eq (x : Nd) : restK x 0 = if x.leaf = true then x.its.map (·.1) else (x.kds.drop 1).map (·.1) := by
  unfold restK keysOf
  cases hl : x.leaf <;> simp
def badB (x : Nd) (dp : Nat) (ref : Int) (sp : Sn) (S : Sv) : Bool := decide (ref ∈ S.refs) || !formB x dp sp || !evenB x dp S.dep
theorem bad_leaf {x : Nd} {dp : Nat} {ref : Int} {sp : Sn} {S : Sv} (hl : x.leaf = true) : badB x dp ref sp S = ((!risesB sp (restK x 0) || decide (ref ∈ S.refs)) || decide (0 < x.kds.length) || (decide (x.its.length = 0) && decide (dp ≠ 1) || (decide (0 < S.dep) && decide (S.dep ≠ dp)))) := by
  unfold badB formB evenB depP
  rw [rest_eq, if_pos hl, if_pos hl, hl]
  have e1 : x.kds.isEmpty = !decide (0 < x.kds.length) := by cases x.kds <;> simp
  have e2 : x.its.isEmpty = decide (x.its.length = 0) := by cases x.its <;> simp
  rw [e1, e2]
  have e3 : decide ((if true = true ∧ S.dep = 0 then dp else S.dep) = dp) = !(decide (0 < S.dep) && decide (S.dep ≠ dp)) := by
    by_cases h0 : S.dep = 0
    · rw [h0]; simp
    · rw [if_neg (fun h => h0 h.2)]
      have : 0 < S.dep := by omega
      simp [this]
  rw [e3]
  have e4 : decide (dp = 1) = !decide (dp ≠ 1) := by by_cases h : dp = 1 <;> simp [h]
  rw [e4]
  cases decide (ref ∈ S.refs) <;> cases decide (0 < x.kds.length) <;> cases decide (x.its.length = 0) <;> cases decide (dp ≠ 1) <;> cases risesB sp (List.map (fun x => x.fst) x.its) <;> cases decide (0 < S.dep) <;> cases decide (S.dep ≠ dp) <;> rfl
theorem bad_branch {x : Nd} {dp : Nat} {ref : Int} {sp : Sn} {S : Sv} (hl : x.leaf = false) : badB x dp ref sp S = ((!risesB sp (restK x 0) || decide (ref ∈ S.refs)) || (decide (x.kds.length < 2) || decide (0 < x.its.length))) := by
  unfold badB formB evenB
  rw [rest_eq, if_neg (by rw [hl]; decide), if_neg (by rw [hl]; decide), hl]
  have e1 : x.its.isEmpty = !decide (0 < x.its.length) := by cases x.its <;> simp
  have e2 : decide (1 < x.kds.length) = !decide (x.kds.length < 2) := by
    by_cases h : x.kds.length < 2
    · rw [decide_eq_true h, decide_eq_false (by omega)]; rfl
    · rw [decide_eq_false h, decide_eq_true (by omega)]; rfl
  rw [e1, e2]
  cases decide (ref ∈ S.refs) <;> cases decide (x.kds.length < 2) <;> cases decide (0 < x.its.length) <;> cases risesB sp (List.map (fun x => x.fst) (List.drop 1 x.kds)) <;> rfl
theorem meet_good {l : List Nm} {f : Nat} {ref : Int} {sp : Sn} {S : Sv} {x : Nd} (h : nodeP l ref = some x) (hb : badB x (12 - f) ref sp S = false) : meetP l (12 - f) ref sp S = (0, some (x, ⟨S.its ++ x.its, S.refs ++ [ref], depP x (12 - f) S.dep⟩)) := by
  unfold meetP
  rw [if_neg (by omega), h]
  simp only
  rw [if_neg (by unfold badB at hb; rw [hb]; decide)]
theorem visit_none {l : List Nm} {f : Nat} {ref : Int} {sp : Sn} {S : Sv} (h : nodeP l ref = none) : visitP l (f + 1) ref sp S = (11, S) := by
  rw [visitP]
  have : meetP l (12 - f) ref sp S = (11, none) := by
    unfold meetP
    rw [if_neg (by omega), h]
  rw [this]
theorem visit_bad {l : List Nm} {f : Nat} {ref : Int} {sp : Sn} {S : Sv} {x : Nd} (h : nodeP l ref = some x) (hb : badB x (12 - f) ref sp S = true) : visitP l (f + 1) ref sp S = (131, S) := by
  rw [visitP]
  have : meetP l (12 - f) ref sp S = (131, none) := by
    unfold meetP
    rw [if_neg (by omega), h]
    simp only
    exact if_pos hb
  rw [this]
theorem visit_good {l : List Nm} {f : Nat} {ref : Int} {sp : Sn} {S : Sv} {x : Nd} (h : nodeP l ref = some x) (hb : badB x (12 - f) ref sp S = false) : visitP l (f + 1) ref sp S = kidsP (visitP l f) x.kds sp 0 x.kds.length ⟨S.its ++ x.its, S.refs ++ [ref], depP x (12 - f) S.dep⟩ := by
  rw [visitP]
  have : meetP l (12 - f) ref sp S = (0, some (x, ⟨S.its ++ x.its, S.refs ++ [ref], depP x (12 - f) S.dep⟩)) := by
    unfold meetP
    rw [if_neg (by omega), h]
    simp only
    rw [if_neg (by unfold badB at hb; rw [hb]; decide)]
  rw [this]
end Go.Proofs.Ytnjhpjpeeehagaa
