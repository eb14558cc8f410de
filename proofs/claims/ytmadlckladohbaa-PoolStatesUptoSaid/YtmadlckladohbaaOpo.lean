/-
  The arguments read: a script.
-/
import Derived.Test.YtmadlckladohbaaOpa
import Derived.Test.YtmadlckladohbaaPsn
set_option linter.unusedVariables false
namespace Go.Proofs.Ytmadlckladohbaa
open Go.ChangeShapes Go.WideShapes Go.ChangeAt Go.RowKit Go.Deep

theorem ocs_length (l : List OpD) : (ocs l).length = l.length * 5 := by
  induction l with
  | nil => rfl
  | cons x l ih =>
    rw [ocs_cons, List.length_append, ih, List.length_cons]
    show 5 + _ = _
    omega
section
variable {H : Type} {enc : TypeId × Value → H} {w : World}
theorem op_open {fuel : Nat} {cs : List Value} {x : DataW H × List MemPlace} (hcl : cs.length = 5) (h : DataW.trod enc Try.prog w 0 (fun _ => true) true fuel 47 cs = some x) :
    ∃ o : OpD, cs = oc o ∧ I64o o := by
  obtain ⟨v0, v1, v2, v3, v4, rfl⟩ : ∃ v0 v1 v2 v3 v4, cs = [v0, v1, v2, v3, v4] := by
    match cs, hcl with
    | [v0, v1, v2, v3, v4], _ => exact ⟨v0, v1, v2, v3, v4, rfl⟩
  obtain ⟨ys, n', _, hy, _, hyl, hf⟩ := DataW.trod_struct Try.underlying47 h
  have c3 : Try.prog.cellsOf 3 = 1 := by kernel_rfl
  have c4 : Try.prog.cellsOf 45 = 2 := by kernel_rfl
  have hyl5 : ys.length = 4 := hyl
  have t0 : DataW.trod enc Try.prog w 0 (fun _ => true) true n' 3 (([v0, v1, v2, v3, v4].drop 0).take (Try.prog.cellsOf 3)) = ys[0]? := hf 0 _ rfl
  have t1 : DataW.trod enc Try.prog w 0 (fun _ => true) true n' 3 (([v0, v1, v2, v3, v4].drop 1).take (Try.prog.cellsOf 3)) = ys[1]? := hf 1 _ rfl
  have t2 : DataW.trod enc Try.prog w 0 (fun _ => true) true n' 3 (([v0, v1, v2, v3, v4].drop 2).take (Try.prog.cellsOf 3)) = ys[2]? := hf 2 _ rfl
  have t3 : DataW.trod enc Try.prog w 0 (fun _ => true) true n' 45 (([v0, v1, v2, v3, v4].drop 3).take (Try.prog.cellsOf 45)) = ys[3]? := hf 3 _ rfl
  rw [c3, List.getElem?_eq_getElem (by omega)] at t0 t1 t2
  rw [c4, List.getElem?_eq_getElem (by omega)] at t3
  obtain ⟨k, e0, k1⟩ := int_open t0
  obtain ⟨m, e1, m1⟩ := int_open t1
  obtain ⟨q, e2, q1⟩ := int_open t2
  obtain ⟨r, e3, r1⟩ := run_open (by simp) t3
  simp only [List.drop_zero, List.drop_succ_cons, List.take_succ_cons, List.take_zero, List.cons.injEq, and_true] at e0 e1 e2 e3
  obtain ⟨rfl, rfl⟩ := e3
  subst e0 e1 e2
  exact ⟨⟨k, m, q, r.1, r.2⟩, rfl, k1, m1, q1, r1⟩
theorem ops_open {fuel : Nat} {cs : List Value} {x : DataW H × List MemPlace} (h : DataW.trod enc Try.prog w 0 (fun _ => true) true fuel 42 cs = some x) :
    ∃ (A : Option Addr) (n c : Nat) (l : List OpD), cs = [.slice A n c] ∧ Os w A l ∧ l.length = n ∧ (∀ o ∈ l, I64o o) ∧ n ≤ Rows.uptoBulk x.1 := by
  rcases open_slice Try.underlying42 h with ⟨hcs, _⟩ | ⟨a, len, cap, m, n, D, Pl, hcs, _, hl, hm, hmm, hx, hi⟩
  · exact ⟨none, 0, 0, [], hcs, Os.nil_ w _, rfl, (fun y h => by simp at h), Nat.zero_le _⟩
  · have hm' : m = cap := by simpa using hmm
    have h5 : Try.prog.cellsOf 47 = 5 := by kernel_rfl
    rw [h5] at hi
    have hspot : 0 < len → a = ⟨a.block, a.off, none⟩ := by
      intro h0
      obtain ⟨cs', hc, _⟩ := hi 0 (by omega)
      obtain ⟨_, hcl, hat⟩ := World.cells?_some hc
      have e : a.add (0 * 5) = a := by cases a; simp [Addr.add]
      rw [e] at hat
      have h1 := hat 0 (by omega)
      rw [List.getElem?_eq_getElem (by omega)] at h1
      exact spot_of h1
    have each : ∀ i, i < len → ∃ o : OpD, I64o o ∧ a = ⟨a.block, a.off, none⟩ ∧ a.block < w.heap.size ∧ ∀ j u, (oc o)[j]? = some u → w.cell? ⟨a.block, a.off + i * 5 + j, none⟩ = some u := by
      intro i hil
      obtain ⟨cs', hc, ht⟩ := hi i (by omega)
      obtain ⟨_, hcl, hat⟩ := World.cells?_some hc
      obtain ⟨o, rfl, hr⟩ := op_open hcl ht
      have h0 := hat 0 (by omega)
      have hblt := World.block_lt_of_cell? w _ (h0.trans (show (oc o)[0]? = some (.int .i64 o.k) from rfl))
      have hasp := hspot (by omega)
      rw [hasp, Addr.add_lit, Addr.add_lit] at hblt
      refine ⟨o, hr, hasp, hblt, fun j u hu => ?_⟩
      have hj : j < 5 := (List.getElem?_eq_some_iff.1 hu).1
      have h1 := hat j hj
      rw [hasp, Addr.add_lit, Addr.add_lit, hu] at h1
      exact h1
    obtain ⟨l, hll, hlp⟩ := list_of _ len each
    refine ⟨some a, len, cap, l, hcs, fun h0 => ?_, hll, fun o ho => ?_, by rw [hx]; have := slice_bulk ((List.range len).map D) ((List.range (m - len)).map fun j => D (len + j)); simpa using this⟩
    · obtain ⟨o, ho⟩ : ∃ o, l[0]? = some o := ⟨_, List.getElem?_eq_getElem h0⟩
      obtain ⟨_, e1, e2, _⟩ := hlp 0 o ho
      refine ⟨a.block, a.off, by rw [← e1], e2, fun j u hu => ?_⟩
      have hj : j < (ocs l).length := (List.getElem?_eq_some_iff.1 hu).1
      rw [ocs_length] at hj
      have hk : j / 5 < l.length := by omega
      have hx : l[j / 5]? = some l[j / 5] := List.getElem?_eq_getElem hk
      obtain ⟨_, _, _, hq⟩ := hlp _ _ hx
      have hu' := ocs_get (j % 5) (by omega) hx
      rw [show j / 5 * 5 + j % 5 = j by omega, hu] at hu'
      have := hq _ _ hu'.symm
      rwa [Nat.add_assoc, show j / 5 * 5 + j % 5 = j by omega] at this
    · obtain ⟨i, hi'⟩ := List.getElem?_of_mem ho
      exact (hlp i o hi').1
set_option maxRecDepth 100000 in
theorem ops_arg {base : Nat} {v : Value} {d : DataW H} {p : List MemPlace} (hv : Value.okWide Try.prog w .any base 42 v) (h : DataW.Trod enc Try.prog w 0 (fun _ => true) true 42 v d p) :
    ∃ (C : Option Addr) (n c : Nat) (l : List OpD), v = .slice C n c ∧ Os w C l ∧ l.length = n ∧ (∀ o ∈ l, I64o o) ∧ n ≤ Rows.uptoBulk d := by
  obtain ⟨fuel, hf⟩ := h
  obtain ⟨A, n, c, l, e, ho, hln, hi, hb⟩ := ops_open hf
  obtain ⟨a', l', c', rfl⟩ := okWide_slice Try.underlying42 hv
  have e2 : Value.slice a' l' c' = .slice A n c := by simpa [Value.cells] using e
  exact ⟨A, n, c, l, e2, ho, hln, hi, hb⟩
end
end Go.Proofs.Ytmadlckladohbaa
