/-
  The arguments, as values.
-/
import Derived.Test.YtjbbljnfgpggkaaDoorLaid
set_option linter.unusedVariables false
namespace Go.Proofs.YtjbbljnfgpggkaaDoor
open Go.ChangeShapes Go.WideShapes Go.ChangeAt Go.RowKit Go.Deep

section
variable {H : Type} {enc : TypeId × Value → H} {w : World}
set_option maxRecDepth 100000 in
theorem item_arg {base : Nat} {v : Value} {d : DataW H} {p : List MemPlace} (hv : Value.okWide Tryd.prog w .any base 52 v) (h : DataW.Trod enc Tryd.prog w 0 (fun _ => true) true 52 v d p) :
    ∃ (A B : Option Addr) (n c m d : Nat) (s r : Int) (xs ys : Bytes), v = .agg #[.slice A n c, .slice B m d, .int .i64 s, .int .i64 r] ∧ xs.length = n ∧ ys.length = m ∧ Src w (.slice A n c) xs ∧ Src w (.slice B m d) ys := by
  obtain ⟨fuel, hf⟩ := h
  obtain ⟨cs, rfl, hsz⟩ := okWide_struct Tryd.underlying52 hv
  rw [show Tryd.prog.cellsOf 52 = 4 by kernel_rfl] at hsz
  obtain ⟨A, B, n, c, m, d, s, r, xs, ys, e, h1, h2, h3, h4, _⟩ := item_open (by simpa [Value.cells] using hsz) hf
  refine ⟨A, B, n, c, m, d, s, r, xs, ys, ?_, h1, h2, h3, h4⟩
  have : cs.toList = [.slice A n c, .slice B m d, .int .i64 s, .int .i64 r] := by simpa [Value.cells] using e
  rw [show cs = #[.slice A n c, .slice B m d, .int .i64 s, .int .i64 r] from Array.toList_inj.1 this]
set_option maxRecDepth 100000 in
theorem node_arg {base : Nat} {v : Value} {d : DataW H} {p : List MemPlace} (hv : Value.okWide Tryd.prog w .any base 25 v) (h : DataW.Trod enc Tryd.prog w 0 (fun _ => true) true 25 v d p) :
    ∃ (f : Bool) (A B : Option Addr) (n c m d : Nat) (y : Nd), v = .agg #[.bool f, .slice A n c, .slice B m d] ∧ Nod w y f (.slice A n c) (.slice B m d) := by
  obtain ⟨fuel, hf⟩ := h
  obtain ⟨cs, rfl, hsz⟩ := okWide_struct Tryd.underlying25 hv
  rw [show Tryd.prog.cellsOf 25 = 3 by kernel_rfl] at hsz
  obtain ⟨f, A, B, n, c, m, d, y, e, hN⟩ := node_open (by simpa [Value.cells] using hsz) hf
  refine ⟨f, A, B, n, c, m, d, y, ?_, hN⟩
  have : cs.toList = [.bool f, .slice A n c, .slice B m d] := by simpa [Value.cells] using e
  rw [show cs = #[.bool f, .slice A n c, .slice B m d] from Array.toList_inj.1 this]
end
end Go.Proofs.YtjbbljnfgpggkaaDoor
