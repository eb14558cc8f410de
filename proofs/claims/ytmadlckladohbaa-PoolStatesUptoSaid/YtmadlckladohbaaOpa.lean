/-
  The arguments read: two numbers.
-/
import Derived.Test.YtmadlckladohbaaOpen
set_option linter.unusedVariables false
namespace Go.Proofs.Ytmadlckladohbaa
open Go.ChangeShapes Go.WideShapes Go.ChangeAt Go.RowKit Go.Deep

theorem okWide_array {P : Program} {w : World} {q : Reach} {base : Nat} {t e : TypeId} {n : Nat} {v : Value} (ht : P.underlying t = some (.array n e)) (h : Value.okWide P w q base t v) : ∃ cs, v = .agg cs ∧ cs.size = P.cellsOf t := by
  simp only [Value.okWide, ht] at h
  obtain ⟨cs, h1, h2, _⟩ := h
  exact ⟨cs, h1, h2⟩
section
variable {H : Type} {enc : TypeId × Value → H} {w : World}
set_option maxRecDepth 100000 in
theorem twoI_arg {base : Nat} {v : Value} {d : DataW H} {p : List MemPlace} (hv : Value.okWide Try.prog w .any base 22 v) (h : DataW.Trod enc Try.prog w 0 (fun _ => true) true 22 v d p) :
    ∃ k0 k1 : Int, v = .agg #[.int .i64 k0, .int .i64 k1] ∧ (-9223372036854775808 ≤ k0 ∧ k0 ≤ 9223372036854775807) ∧ (-9223372036854775808 ≤ k1 ∧ k1 ≤ 9223372036854775807) := by
  obtain ⟨fuel, hf⟩ := h
  obtain ⟨cs, rfl, hsz⟩ := okWide_array Try.underlying22 hv
  rw [show Try.prog.cellsOf 22 = 2 by kernel_rfl] at hsz
  obtain ⟨ys, n', _, _, hcl, hyl, hg⟩ := DataW.trod_array Try.underlying22 (show DataW.trod enc Try.prog w 0 (fun _ => true) true fuel 22 cs.toList = some (d, p) by simpa [Value.cells] using hf)
  rw [show Try.prog.cellsOf 3 = 1 by kernel_rfl] at hg
  have hl : cs.toList.length = 2 := by simpa using hsz
  have each : ∀ i, i < 2 → ∃ b : Int, (cs.toList.drop (i * 1)).take 1 = [.int .i64 b] ∧ -9223372036854775808 ≤ b ∧ b ≤ 9223372036854775807 := fun i hi => by
    obtain ⟨y, hy⟩ : ∃ y, ys[i]? = some y := ⟨_, List.getElem?_eq_getElem (by omega)⟩
    exact int_open ((hg i hi).trans hy)
  obtain ⟨a0, e0, r0⟩ := each 0 (by decide)
  obtain ⟨a1, e1, r1⟩ := each 1 (by decide)
  refine ⟨a0, a1, ?_, r0, r1⟩
  have s : cs.toList = (cs.toList.drop (0 * 1)).take 1 ++ (cs.toList.drop (1 * 1)).take 1 := by
    generalize cs.toList = l at hl
    match l, hl with
    | [_, _], _ => rfl
  rw [e0, e1] at s
  congr 1
  exact Array.toList_inj.1 s
set_option maxRecDepth 100000 in
theorem int_arg {base : Nat} {v : Value} {d : DataW H} {p : List MemPlace} (hv : Value.okWide Try.prog w .any base 3 v) (h : DataW.Trod enc Try.prog w 0 (fun _ => true) true 3 v d p) : ∃ k : Int, v = .int .i64 k ∧ -9223372036854775808 ≤ k ∧ k ≤ 9223372036854775807 := by
  obtain ⟨a0, rfl, _, _, w0⟩ := open_int Try.underlying3 hv h
  have hr : -9223372036854775808 ≤ a0 ∧ a0 ≤ 9223372036854775807 := by simpa [Lit.wf, IntKind.min, IntKind.max, IntKind.signed, IntKind.bits] using w0
  exact ⟨a0, rfl, hr⟩
set_option maxRecDepth 100000 in
theorem threeI_arg {base : Nat} {v : Value} {d : DataW H} {p : List MemPlace} (hv : Value.okWide Try.prog w .any base 41 v) (h : DataW.Trod enc Try.prog w 0 (fun _ => true) true 41 v d p) :
    ∃ k0 k1 k2 : Int, v = .agg #[.int .i64 k0, .int .i64 k1, .int .i64 k2] ∧ k0 ≤ 9223372036854775807 := by
  obtain ⟨fuel, hf⟩ := h
  obtain ⟨cs, rfl, hsz⟩ := okWide_array Try.underlying41 hv
  rw [show Try.prog.cellsOf 41 = 3 by kernel_rfl] at hsz
  obtain ⟨ys, n', _, _, hcl, hyl, hg⟩ := DataW.trod_array Try.underlying41 (show DataW.trod enc Try.prog w 0 (fun _ => true) true fuel 41 cs.toList = some (d, p) by simpa [Value.cells] using hf)
  rw [show Try.prog.cellsOf 3 = 1 by kernel_rfl] at hg
  have hl : cs.toList.length = 3 := by simpa using hsz
  have each : ∀ i, i < 3 → ∃ b : Int, (cs.toList.drop (i * 1)).take 1 = [.int .i64 b] ∧ -9223372036854775808 ≤ b ∧ b ≤ 9223372036854775807 := fun i hi => by
    obtain ⟨y, hy⟩ : ∃ y, ys[i]? = some y := ⟨_, List.getElem?_eq_getElem (by omega)⟩
    exact int_open ((hg i hi).trans hy)
  obtain ⟨a0, e0, r0⟩ := each 0 (by decide)
  obtain ⟨a1, e1, _⟩ := each 1 (by decide)
  obtain ⟨a2, e2, _⟩ := each 2 (by decide)
  refine ⟨a0, a1, a2, ?_, r0.2⟩
  have s : cs.toList = (cs.toList.drop (0 * 1)).take 1 ++ ((cs.toList.drop (1 * 1)).take 1 ++ (cs.toList.drop (2 * 1)).take 1) := by
    generalize cs.toList = l at hl
    match l, hl with
    | [_, _, _], _ => rfl
  rw [e0, e1, e2] at s
  congr 1
  exact Array.toList_inj.1 s
set_option maxRecDepth 100000 in
/-- A state of the document's. -/
theorem state_arg {base : Nat} {v : Value} {d : DataW H} {p : List MemPlace} (hv : Value.okWide Try.prog w .any base 40 v) (h : DataW.Trod enc Try.prog w 0 (fun _ => true) true 40 v d p) :
    ∃ (A B : Option Addr) (n c m k : Nat) (a b : List R), v = .agg #[.slice A n c, .slice B m k] ∧ Row w (.slice A n c) a ∧ Row w (.slice B m k) b ∧ (∀ y ∈ a, I64 y) ∧ (∀ y ∈ b, I64 y) ∧ n ≤ Rows.uptoBulk d ∧ m ≤ Rows.uptoBulk d := by
  obtain ⟨fuel, hf⟩ := h
  obtain ⟨cs, rfl, hsz⟩ := okWide_struct Try.underlying40 hv
  rw [show Try.prog.cellsOf 40 = 2 by kernel_rfl] at hsz
  obtain ⟨v0, v1, hcs⟩ : ∃ v0 v1, cs.toList = [v0, v1] := by
    have hl : cs.toList.length = 2 := by simpa using hsz
    match cs.toList, hl with
    | [v0, v1], _ => exact ⟨v0, v1, rfl⟩
  have hf' : DataW.trod enc Try.prog w 0 (fun _ => true) true fuel 40 [v0, v1] = some (d, p) := by rw [← hcs]; simpa [Value.cells] using hf
  obtain ⟨ys, n', _, hd, _, hyl, hg⟩ := DataW.trod_struct Try.underlying40 hf'
  have c3 : Try.prog.cellsOf 38 = 1 := by kernel_rfl
  have hyl5 : ys.length = 2 := hyl
  have t0 : DataW.trod enc Try.prog w 0 (fun _ => true) true n' 38 (([v0, v1].drop 0).take (Try.prog.cellsOf 38)) = ys[0]? := hg 0 _ rfl
  have t1 : DataW.trod enc Try.prog w 0 (fun _ => true) true n' 38 (([v0, v1].drop 1).take (Try.prog.cellsOf 38)) = ys[1]? := hg 1 _ rfl
  obtain ⟨y0, y1, rfl⟩ : ∃ y0 y1, ys = [y0, y1] := by
    match ys, hyl5 with
    | [y0, y1], _ => exact ⟨y0, y1, rfl⟩
  rw [c3] at t0 t1
  obtain ⟨A, n, c, a, e0, ha, hai, hab⟩ := runs_open (x := y0) (by simpa using t0)
  obtain ⟨B, m, k, b, e1, hb, hbi, hbb⟩ := runs_open (x := y1) (by simpa using t1)
  simp only [List.cons.injEq, and_true] at e0 e1
  subst e0 e1
  have hd1 : d = .agg [y0.1, y1.1] := congrArg Prod.fst hd
  have hbk : Rows.uptoBulk y0.1 ≤ Rows.uptoBulk d ∧ Rows.uptoBulk y1.1 ≤ Rows.uptoBulk d := by
    rw [hd1]
    simp only [Rows.uptoBulk, Rows.uptoBulkAll]
    omega
  refine ⟨A, B, n, c, m, k, a, b, ?_, ha, hb, hai, hbi, Nat.le_trans hab hbk.1, Nat.le_trans hbb hbk.2⟩
  rw [show cs = #[.slice A n c, .slice B m k] from Array.toList_inj.1 hcs]
end
theorem row_n {w : World} {A : Option Addr} {n c : Nat} {l : List R} (h : Row w (.slice A n c) l) : l.length = n := by
  obtain ⟨A', c', e, _⟩ := h
  simp only [Value.slice.injEq] at e
  exact e.2.1.symm
end Go.Proofs.Ytmadlckladohbaa
