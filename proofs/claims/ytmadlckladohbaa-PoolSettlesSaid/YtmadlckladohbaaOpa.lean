/-
  The arguments read: two numbers.
-/
import Derived.Test.YtmadlckladohbaaOpen
set_option linter.unusedVariables false
namespace Go.Proofs.Ytmadlckladohbaa
open Go.ChangeShapes Go.WideShapes Go.ChangeAt Go.RowKit Go.Deep

theorem okWide_array {P : Program} {w : World} {q : Reach} {base : Nat} {t e : TypeId} {n : Nat} {v : Value} (ht : P.underlying t = some (.array n e)) (h : Value.okWide P w q base t v) : ∃ cs, v = .agg cs ∧ cs.size = P.cellsOf t := by
  simp only [Value.okWide, ht] at h
  obtain ⟨cs, h1, h2, _⟩ := h
  exact ⟨cs, h1, h2⟩
section
variable {H : Type} {enc : TypeId × Value → H} {w : World}
set_option maxRecDepth 100000 in
theorem twoI_arg {base : Nat} {v : Value} {d : DataW H} {p : List MemPlace} (hv : Value.okWide Try.prog w .any base 22 v) (h : DataW.Trod enc Try.prog w 0 (fun _ => true) true 22 v d p) :
    ∃ k0 k1 : Int, v = .agg #[.int .i64 k0, .int .i64 k1] ∧ (-9223372036854775808 ≤ k0 ∧ k0 ≤ 9223372036854775807) ∧ (-9223372036854775808 ≤ k1 ∧ k1 ≤ 9223372036854775807) := by
  obtain ⟨fuel, hf⟩ := h
  obtain ⟨cs, rfl, hsz⟩ := okWide_array Try.underlying22 hv
  rw [show Try.prog.cellsOf 22 = 2 by kernel_rfl] at hsz
  obtain ⟨ys, n', _, _, hcl, hyl, hg⟩ := DataW.trod_array Try.underlying22 (show DataW.trod enc Try.prog w 0 (fun _ => true) true fuel 22 cs.toList = some (d, p) by simpa [Value.cells] using hf)
  rw [show Try.prog.cellsOf 3 = 1 by kernel_rfl] at hg
  have hl : cs.toList.length = 2 := by simpa using hsz
  have each : ∀ i, i < 2 → ∃ b : Int, (cs.toList.drop (i * 1)).take 1 = [.int .i64 b] ∧ -9223372036854775808 ≤ b ∧ b ≤ 9223372036854775807 := fun i hi => by
    obtain ⟨y, hy⟩ : ∃ y, ys[i]? = some y := ⟨_, List.getElem?_eq_getElem (by omega)⟩
    exact int_open ((hg i hi).trans hy)
  obtain ⟨a0, e0, r0⟩ := each 0 (by decide)
  obtain ⟨a1, e1, r1⟩ := each 1 (by decide)
  refine ⟨a0, a1, ?_, r0, r1⟩
  have s : cs.toList = (cs.toList.drop (0 * 1)).take 1 ++ (cs.toList.drop (1 * 1)).take 1 := by
    generalize cs.toList = l at hl
    match l, hl with
    | [_, _], _ => rfl
  rw [e0, e1] at s
  congr 1
  exact Array.toList_inj.1 s
set_option maxRecDepth 100000 in
theorem int_arg {base : Nat} {v : Value} {d : DataW H} {p : List MemPlace} (hv : Value.okWide Try.prog w .any base 3 v) (h : DataW.Trod enc Try.prog w 0 (fun _ => true) true 3 v d p) : ∃ k : Int, v = .int .i64 k ∧ -9223372036854775808 ≤ k ∧ k ≤ 9223372036854775807 := by
  obtain ⟨a0, rfl, _, _, w0⟩ := open_int Try.underlying3 hv h
  have hr : -9223372036854775808 ≤ a0 ∧ a0 ≤ 9223372036854775807 := by simpa [Lit.wf, IntKind.min, IntKind.max, IntKind.signed, IntKind.bits] using w0
  exact ⟨a0, rfl, hr⟩
end
end Go.Proofs.Ytmadlckladohbaa
