/-
  The arguments, as values.
-/
import Derived.Test.YtnmfhadmkgndmaaGreatDoorLaid
import Derived.Test.YtnmfhadmkgndmaaGreatDoorGa
set_option linter.unusedVariables false
namespace Go.Proofs.YtnmfhadmkgndmaaGreatDoor
open Go.ChangeShapes Go.WideShapes Go.ChangeAt Go.RowKit Go.Deep

section
variable {H : Type} {enc : TypeId × Value → H} {w : World}
set_option maxRecDepth 100000 in
theorem item_arg {base : Nat} {v : Value} {d : DataW H} {p : List MemPlace} (hv : Value.okWide Tryz.prog w .any base 67 v) (h : DataW.Trod enc Tryz.prog w 0 (fun _ => true) true 67 v d p) :
    ∃ (A B : Option Addr) (n c m d : Nat) (s r : Int) (xs ys : Bytes), v = .agg #[.slice A n c, .slice B m d, .int .i64 s, .int .i64 r] ∧ xs.length = n ∧ ys.length = m ∧ Src w (.slice A n c) xs ∧ Src w (.slice B m d) ys := by
  obtain ⟨fuel, hf⟩ := h
  obtain ⟨cs, rfl, hsz⟩ := okWide_struct Tryz.underlying67 hv
  rw [show Tryz.prog.cellsOf 67 = 4 by kernel_rfl] at hsz
  obtain ⟨A, B, n, c, m, d, s, r, xs, ys, e, h1, h2, h3, h4, _⟩ := item_open (by simpa [Value.cells] using hsz) hf
  refine ⟨A, B, n, c, m, d, s, r, xs, ys, ?_, h1, h2, h3, h4⟩
  have : cs.toList = [.slice A n c, .slice B m d, .int .i64 s, .int .i64 r] := by simpa [Value.cells] using e
  rw [show cs = #[.slice A n c, .slice B m d, .int .i64 s, .int .i64 r] from Array.toList_inj.1 this]
set_option maxRecDepth 100000 in
theorem node_arg {base : Nat} {v : Value} {d : DataW H} {p : List MemPlace} (hv : Value.okWide Tryz.prog w .any base 25 v) (h : DataW.Trod enc Tryz.prog w 0 (fun _ => true) true 25 v d p) :
    ∃ (f : Bool) (A B : Option Addr) (n c m d : Nat) (y : Nd), v = .agg #[.bool f, .slice A n c, .slice B m d] ∧ Nod w y f (.slice A n c) (.slice B m d) := by
  obtain ⟨fuel, hf⟩ := h
  obtain ⟨cs, rfl, hsz⟩ := okWide_struct Tryz.underlying25 hv
  rw [show Tryz.prog.cellsOf 25 = 3 by kernel_rfl] at hsz
  obtain ⟨f, A, B, n, c, m, d, y, e, hN, _⟩ := node_open (by simpa [Value.cells] using hsz) hf
  refine ⟨f, A, B, n, c, m, d, y, ?_, hN⟩
  have : cs.toList = [.bool f, .slice A n c, .slice B m d] := by simpa [Value.cells] using e
  rw [show cs = #[.bool f, .slice A n c, .slice B m d] from Array.toList_inj.1 this]
set_option maxRecDepth 100000 in
theorem node_sized {base : Nat} {v : Value} {d : DataW H} {p : List MemPlace} (hv : Value.okWide Tryz.prog w .any base 25 v) (h : DataW.Trod enc Tryz.prog w 0 (fun _ => true) true 25 v d p) (hz : ∀ q ∈ d.weights Tryz.prog 25, q ≤ reachBytes) :
    ∃ (f : Bool) (A B : Option Addr) (n c m d : Nat) (y : Nd), v = .agg #[.bool f, .slice A n c, .slice B m d] ∧ Nod w y f (.slice A n c) (.slice B m d) ∧ many y ≤ 70368744177664 := by
  obtain ⟨fuel, hf⟩ := h
  obtain ⟨cs, rfl, hsz⟩ := okWide_struct Tryz.underlying25 hv
  rw [show Tryz.prog.cellsOf 25 = 3 by kernel_rfl] at hsz
  obtain ⟨f, A, B, n, c, m, d, y, e, hN, hs⟩ := node_open (by simpa [Value.cells] using hsz) hf
  have hs2 := hs hz
  refine ⟨f, A, B, n, c, m, d, y, ?_, hN, by have h1 := hN.2.1.len; have h2 := hN.2.2.len; unfold many; split <;> omega⟩
  have : cs.toList = [.bool f, .slice A n c, .slice B m d] := by simpa [Value.cells] using e
  rw [show cs = #[.bool f, .slice A n c, .slice B m d] from Array.toList_inj.1 this]
theorem okWide_array {P : Program} {w : World} {q : Reach} {base : Nat} {t e : TypeId} {n : Nat} {v : Value} (ht : P.underlying t = some (.array n e)) (h : Value.okWide P w q base t v) : ∃ cs, v = .agg cs ∧ cs.size = P.cellsOf t := by
  simp only [Value.okWide, ht] at h
  obtain ⟨cs, h1, h2, _⟩ := h
  exact ⟨cs, h1, h2⟩
set_option maxRecDepth 100000 in
theorem head_arg {base : Nat} {v : Value} {d : DataW H} {p : List MemPlace} (hv : Value.okWide Tryz.prog w .any base 72 v) (h : DataW.Trod enc Tryz.prog w 0 (fun _ => true) true 72 v d p) :
    ∃ a0 a1 a2 a3 : Int, v = .agg #[.int .i64 a0, .int .i64 a1, .int .i64 a2, .int .i64 a3] ∧ (-9223372036854775808 ≤ a0 ∧ a0 ≤ 9223372036854775807) ∧ (-9223372036854775808 ≤ a1 ∧ a1 ≤ 9223372036854775807) ∧ (-9223372036854775808 ≤ a2 ∧ a2 ≤ 9223372036854775807) ∧ (-9223372036854775808 ≤ a3 ∧ a3 ≤ 9223372036854775807) := by
  obtain ⟨fuel, hf⟩ := h
  obtain ⟨cs, rfl, hsz⟩ := okWide_struct Tryz.underlying72 hv
  rw [show Tryz.prog.cellsOf 72 = 4 by kernel_rfl] at hsz
  obtain ⟨ys, n', _, _, hcl, hyl, hg⟩ := DataW.trod_struct Tryz.underlying72 (show DataW.trod enc Tryz.prog w 0 (fun _ => true) true fuel 72 cs.toList = some (d, p) by simpa [Value.cells] using hf)
  have c3 : Tryz.prog.cellsOf 3 = 1 := by kernel_rfl
  have hl : cs.toList.length = 4 := by simpa using hsz
  have hyl' : ys.length = 4 := hyl
  obtain ⟨y0, y1, y2, y3, rfl⟩ : ∃ y0 y1 y2 y3, ys = [y0, y1, y2, y3] := by
    match ys, hyl' with
    | [y0, y1, y2, y3], _ => exact ⟨y0, y1, y2, y3, rfl⟩
  have t0 : DataW.trod enc Tryz.prog w 0 (fun _ => true) true n' 3 ((cs.toList.drop 0).take (Tryz.prog.cellsOf 3)) = some y0 := hg 0 _ rfl
  have t1 : DataW.trod enc Tryz.prog w 0 (fun _ => true) true n' 3 ((cs.toList.drop 1).take (Tryz.prog.cellsOf 3)) = some y1 := hg 1 _ rfl
  have t2 : DataW.trod enc Tryz.prog w 0 (fun _ => true) true n' 3 ((cs.toList.drop 2).take (Tryz.prog.cellsOf 3)) = some y2 := hg 2 _ rfl
  have t3 : DataW.trod enc Tryz.prog w 0 (fun _ => true) true n' 3 ((cs.toList.drop 3).take (Tryz.prog.cellsOf 3)) = some y3 := hg 3 _ rfl
  rw [c3] at t0 t1 t2 t3
  obtain ⟨a0, e0, h0⟩ := int_open t0
  obtain ⟨a1, e1, h1⟩ := int_open t1
  obtain ⟨a2, e2, h2⟩ := int_open t2
  obtain ⟨a3, e3, h3⟩ := int_open t3
  refine ⟨a0, a1, a2, a3, ?_, h0, h1, h2, h3⟩
  have s : cs.toList = (cs.toList.drop 0).take 1 ++ ((cs.toList.drop 1).take 1 ++ ((cs.toList.drop 2).take 1 ++ (cs.toList.drop 3).take 1)) := by
    generalize cs.toList = l at hl
    match l, hl with
    | [_, _, _, _], _ => rfl
  rw [e0, e1, e2, e3] at s
  congr 1
  exact Array.toList_inj.1 s
set_option maxRecDepth 100000 in
theorem bytes_arg {base : Nat} {v : Value} {d : DataW H} {p : List MemPlace} (hv : Value.okWide Tryz.prog w .any base 27 v) (h : DataW.Trod enc Tryz.prog w 0 (fun _ => true) true 27 v d p) :
    ∃ (A : Option Addr) (n c : Nat) (xs : Bytes), v = .slice A n c ∧ xs.length = n ∧ Src w (.slice A n c) xs := by
  obtain ⟨fuel, hf⟩ := h
  obtain ⟨A, n, c, xs, e, hx, hs⟩ := bytes_open hf
  obtain ⟨a', l', c', rfl⟩ := okWide_slice Tryz.underlying27 hv
  have e2 : Value.slice a' l' c' = .slice A n c := by simpa [Value.cells] using e
  exact ⟨A, n, c, xs, e2, hx, hs⟩
end
end Go.Proofs.YtnmfhadmkgndmaaGreatDoor
