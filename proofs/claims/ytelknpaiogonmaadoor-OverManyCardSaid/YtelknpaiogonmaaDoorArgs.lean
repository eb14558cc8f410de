/-
  The arguments, as values.
-/
import Derived.Test.YtelknpaiogonmaaDoorLaid
import Derived.Test.YtelknpaiogonmaaDoorGa
set_option linter.unusedVariables false
namespace Go.Proofs.YtelknpaiogonmaaDoor
open Go.ChangeShapes Go.WideShapes Go.ChangeAt Go.RowKit Go.Deep

section
variable {H : Type} {enc : TypeId × Value → H} {w : World}
theorem okWide_array {P : Program} {w : World} {q : Reach} {base : Nat} {t e : TypeId} {n : Nat} {v : Value} (ht : P.underlying t = some (.array n e)) (h : Value.okWide P w q base t v) : ∃ cs, v = .agg cs ∧ cs.size = P.cellsOf t := by
  simp only [Value.okWide, ht] at h
  obtain ⟨cs, h1, h2, _⟩ := h
  exact ⟨cs, h1, h2⟩
set_option maxRecDepth 100000 in
theorem head_arg {base : Nat} {v : Value} {d : DataW H} {p : List MemPlace} (hv : Value.okWide Tryd.prog w .any base 64 v) (h : DataW.Trod enc Tryd.prog w 0 (fun _ => true) true 64 v d p) :
    ∃ a0 a1 a2 a3 : Int, v = .agg #[.int .i64 a0, .int .i64 a1, .int .i64 a2, .int .i64 a3] ∧ (-9223372036854775808 ≤ a0 ∧ a0 ≤ 9223372036854775807) ∧ (-9223372036854775808 ≤ a1 ∧ a1 ≤ 9223372036854775807) ∧ (-9223372036854775808 ≤ a2 ∧ a2 ≤ 9223372036854775807) ∧ (-9223372036854775808 ≤ a3 ∧ a3 ≤ 9223372036854775807) := by
  obtain ⟨fuel, hf⟩ := h
  obtain ⟨cs, rfl, hsz⟩ := okWide_struct Tryd.underlying64 hv
  rw [show Tryd.prog.cellsOf 64 = 4 by kernel_rfl] at hsz
  obtain ⟨ys, n', _, _, hcl, hyl, hg⟩ := DataW.trod_struct Tryd.underlying64 (show DataW.trod enc Tryd.prog w 0 (fun _ => true) true fuel 64 cs.toList = some (d, p) by simpa [Value.cells] using hf)
  have c3 : Tryd.prog.cellsOf 3 = 1 := by kernel_rfl
  have hl : cs.toList.length = 4 := by simpa using hsz
  have hyl' : ys.length = 4 := hyl
  obtain ⟨y0, y1, y2, y3, rfl⟩ : ∃ y0 y1 y2 y3, ys = [y0, y1, y2, y3] := by
    match ys, hyl' with
    | [y0, y1, y2, y3], _ => exact ⟨y0, y1, y2, y3, rfl⟩
  have t0 : DataW.trod enc Tryd.prog w 0 (fun _ => true) true n' 3 ((cs.toList.drop 0).take (Tryd.prog.cellsOf 3)) = some y0 := hg 0 _ rfl
  have t1 : DataW.trod enc Tryd.prog w 0 (fun _ => true) true n' 3 ((cs.toList.drop 1).take (Tryd.prog.cellsOf 3)) = some y1 := hg 1 _ rfl
  have t2 : DataW.trod enc Tryd.prog w 0 (fun _ => true) true n' 3 ((cs.toList.drop 2).take (Tryd.prog.cellsOf 3)) = some y2 := hg 2 _ rfl
  have t3 : DataW.trod enc Tryd.prog w 0 (fun _ => true) true n' 3 ((cs.toList.drop 3).take (Tryd.prog.cellsOf 3)) = some y3 := hg 3 _ rfl
  rw [c3] at t0 t1 t2 t3
  obtain ⟨a0, e0, h0⟩ := int_open t0
  obtain ⟨a1, e1, h1⟩ := int_open t1
  obtain ⟨a2, e2, h2⟩ := int_open t2
  obtain ⟨a3, e3, h3⟩ := int_open t3
  refine ⟨a0, a1, a2, a3, ?_, h0, h1, h2, h3⟩
  have s : cs.toList = (cs.toList.drop 0).take 1 ++ ((cs.toList.drop 1).take 1 ++ ((cs.toList.drop 2).take 1 ++ (cs.toList.drop 3).take 1)) := by
    generalize cs.toList = l at hl
    match l, hl with
    | [_, _, _, _], _ => rfl
  rw [e0, e1, e2, e3] at s
  congr 1
  exact Array.toList_inj.1 s
set_option maxRecDepth 100000 in
theorem bytes_arg {base : Nat} {v : Value} {d : DataW H} {p : List MemPlace} (hv : Value.okWide Tryd.prog w .any base 27 v) (h : DataW.Trod enc Tryd.prog w 0 (fun _ => true) true 27 v d p) :
    ∃ (A : Option Addr) (n c : Nat) (xs : Bytes), v = .slice A n c ∧ xs.length = n ∧ Src w (.slice A n c) xs := by
  obtain ⟨fuel, hf⟩ := h
  obtain ⟨A, n, c, xs, e, hx, hs⟩ := bytes_open hf
  obtain ⟨a', l', c', rfl⟩ := okWide_slice Tryd.underlying27 hv
  have e2 : Value.slice a' l' c' = .slice A n c := by simpa [Value.cells] using e
  exact ⟨A, n, c, xs, e2, hx, hs⟩
end
end Go.Proofs.YtelknpaiogonmaaDoor
