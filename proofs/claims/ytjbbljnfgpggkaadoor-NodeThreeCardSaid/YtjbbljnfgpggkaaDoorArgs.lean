/-
  The arguments, as values.
-/
import Derived.Test.YtjbbljnfgpggkaaDoorLaid
import Derived.Test.YtjbbljnfgpggkaaDoorPln
set_option linter.unusedVariables false
namespace Go.Proofs.YtjbbljnfgpggkaaDoor
open Go.ChangeShapes Go.WideShapes Go.ChangeAt Go.RowKit Go.Deep

section
variable {H : Type} {enc : TypeId × Value → H} {w : World}
set_option maxRecDepth 100000 in
theorem item_arg {base : Nat} {v : Value} {d : DataW H} {p : List MemPlace} (hv : Value.okWide Tryd.prog w .any base 52 v) (h : DataW.Trod enc Tryd.prog w 0 (fun _ => true) true 52 v d p) :
    ∃ (A B : Option Addr) (n c m d : Nat) (s r : Int) (xs ys : Bytes), v = .agg #[.slice A n c, .slice B m d, .int .i64 s, .int .i64 r] ∧ xs.length = n ∧ ys.length = m ∧ Src w (.slice A n c) xs ∧ Src w (.slice B m d) ys := by
  obtain ⟨fuel, hf⟩ := h
  obtain ⟨cs, rfl, hsz⟩ := okWide_struct Tryd.underlying52 hv
  rw [show Tryd.prog.cellsOf 52 = 4 by kernel_rfl] at hsz
  obtain ⟨A, B, n, c, m, d, s, r, xs, ys, e, h1, h2, h3, h4, _⟩ := item_open (by simpa [Value.cells] using hsz) hf
  refine ⟨A, B, n, c, m, d, s, r, xs, ys, ?_, h1, h2, h3, h4⟩
  have : cs.toList = [.slice A n c, .slice B m d, .int .i64 s, .int .i64 r] := by simpa [Value.cells] using e
  rw [show cs = #[.slice A n c, .slice B m d, .int .i64 s, .int .i64 r] from Array.toList_inj.1 this]
set_option maxRecDepth 100000 in
theorem node_arg {base : Nat} {v : Value} {d : DataW H} {p : List MemPlace} (hv : Value.okWide Tryd.prog w .any base 25 v) (h : DataW.Trod enc Tryd.prog w 0 (fun _ => true) true 25 v d p) :
    ∃ (f : Bool) (A B : Option Addr) (n c m d : Nat) (y : Nd), v = .agg #[.bool f, .slice A n c, .slice B m d] ∧ Nod w y f (.slice A n c) (.slice B m d) := by
  obtain ⟨fuel, hf⟩ := h
  obtain ⟨cs, rfl, hsz⟩ := okWide_struct Tryd.underlying25 hv
  rw [show Tryd.prog.cellsOf 25 = 3 by kernel_rfl] at hsz
  obtain ⟨f, A, B, n, c, m, d, y, e, hN, _⟩ := node_open (by simpa [Value.cells] using hsz) hf
  refine ⟨f, A, B, n, c, m, d, y, ?_, hN⟩
  have : cs.toList = [.bool f, .slice A n c, .slice B m d] := by simpa [Value.cells] using e
  rw [show cs = #[.bool f, .slice A n c, .slice B m d] from Array.toList_inj.1 this]
set_option maxRecDepth 100000 in
theorem node_sized {base : Nat} {v : Value} {d : DataW H} {p : List MemPlace} (hv : Value.okWide Tryd.prog w .any base 25 v) (h : DataW.Trod enc Tryd.prog w 0 (fun _ => true) true 25 v d p) (hz : ∀ q ∈ d.weights Tryd.prog 25, q ≤ reachBytes) :
    ∃ (f : Bool) (A B : Option Addr) (n c m d : Nat) (y : Nd), v = .agg #[.bool f, .slice A n c, .slice B m d] ∧ Nod w y f (.slice A n c) (.slice B m d) ∧ many y ≤ 70368744177664 := by
  obtain ⟨fuel, hf⟩ := h
  obtain ⟨cs, rfl, hsz⟩ := okWide_struct Tryd.underlying25 hv
  rw [show Tryd.prog.cellsOf 25 = 3 by kernel_rfl] at hsz
  obtain ⟨f, A, B, n, c, m, d, y, e, hN, hs⟩ := node_open (by simpa [Value.cells] using hsz) hf
  have hs2 := hs hz
  refine ⟨f, A, B, n, c, m, d, y, ?_, hN, by have h1 := hN.2.1.len; have h2 := hN.2.2.len; unfold many; split <;> omega⟩
  have : cs.toList = [.bool f, .slice A n c, .slice B m d] := by simpa [Value.cells] using e
  rw [show cs = #[.bool f, .slice A n c, .slice B m d] from Array.toList_inj.1 this]
theorem okWide_array {P : Program} {w : World} {q : Reach} {base : Nat} {t e : TypeId} {n : Nat} {v : Value} (ht : P.underlying t = some (.array n e)) (h : Value.okWide P w q base t v) : ∃ cs, v = .agg cs ∧ cs.size = P.cellsOf t := by
  simp only [Value.okWide, ht] at h
  obtain ⟨cs, h1, h2, _⟩ := h
  exact ⟨cs, h1, h2⟩
set_option maxRecDepth 100000 in
theorem three_arg {base : Nat} {v : Value} {d : DataW H} {p : List MemPlace} (hv : Value.okWide Tryd.prog w .any base 53 v) (h : DataW.Trod enc Tryd.prog w 0 (fun _ => true) true 53 v d p) :
    ∃ a0 a1 a2 : Int, v = .agg #[.int .i64 a0, .int .i64 a1, .int .i64 a2] := by
  obtain ⟨fuel, hf⟩ := h
  obtain ⟨cs, rfl, hsz⟩ := okWide_array Tryd.underlying53 hv
  rw [show Tryd.prog.cellsOf 53 = 3 by kernel_rfl] at hsz
  obtain ⟨ys, n', _, _, hcl, hyl, hg⟩ := DataW.trod_array Tryd.underlying53 (show DataW.trod enc Tryd.prog w 0 (fun _ => true) true fuel 53 cs.toList = some (d, p) by simpa [Value.cells] using hf)
  rw [show Tryd.prog.cellsOf 3 = 1 by kernel_rfl] at hg
  have hl : cs.toList.length = 3 := by simpa using hsz
  have each : ∀ i, i < 3 → ∃ a : Int, (cs.toList.drop (i * 1)).take 1 = [.int .i64 a] := fun i hi => by
    obtain ⟨y, hy⟩ : ∃ y, ys[i]? = some y := ⟨_, List.getElem?_eq_getElem (by omega)⟩
    obtain ⟨a, e, _⟩ := int_open ((hg i hi).trans hy)
    exact ⟨a, e⟩
  obtain ⟨a0, e0⟩ := each 0 (by decide)
  obtain ⟨a1, e1⟩ := each 1 (by decide)
  obtain ⟨a2, e2⟩ := each 2 (by decide)
  refine ⟨a0, a1, a2, ?_⟩
  have s : cs.toList = (cs.toList.drop (0 * 1)).take 1 ++ ((cs.toList.drop (1 * 1)).take 1 ++ (cs.toList.drop (2 * 1)).take 1) := by
    generalize cs.toList = l at hl
    match l, hl with
    | [_, _, _], _ => rfl
  rw [e0, e1, e2] at s
  congr 1
  exact Array.toList_inj.1 s
end
end Go.Proofs.YtjbbljnfgpggkaaDoor
