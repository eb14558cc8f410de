/-
  The arguments, as values.
-/
import Derived.Test.YtoghojgajpfkkaaGreatDoorLaid
import Derived.Test.YtoghojgajpfkkaaGreatDoorGa
set_option linter.unusedVariables false
namespace Go.Proofs.YtoghojgajpfkkaaGreatDoor
open Go.ChangeShapes Go.WideShapes Go.ChangeAt Go.RowKit Go.Deep

section
variable {H : Type} {enc : TypeId × Value → H} {w : World}
set_option maxRecDepth 100000 in
theorem bytes_arg {base : Nat} {v : Value} {d : DataW H} {p : List MemPlace} (hv : Value.okWide Tryz.prog w .any base 22 v) (h : DataW.Trod enc Tryz.prog w 0 (fun _ => true) true 22 v d p) :
    ∃ (A : Option Addr) (n c : Nat) (xs : Bytes), v = .slice A n c ∧ xs.length = n ∧ Src w (.slice A n c) xs := by
  obtain ⟨fuel, hf⟩ := h
  obtain ⟨A, n, c, xs, e, hx, hs⟩ := bytes_open hf
  obtain ⟨a', l', c', rfl⟩ := okWide_slice Tryz.underlying22 hv
  have e2 : Value.slice a' l' c' = .slice A n c := by simpa [Value.cells] using e
  exact ⟨A, n, c, xs, e2, hx, hs⟩
end
end Go.Proofs.YtoghojgajpfkkaaGreatDoor
