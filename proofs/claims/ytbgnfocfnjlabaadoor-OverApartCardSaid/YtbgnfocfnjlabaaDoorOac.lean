/-
  OverApart, whatever the bytes; two rows of bytes as an argument.
-/
import Derived.Test.YtbgnfocfnjlabaaDoorOaw
import Derived.Test.YtbgnfocfnjlabaaDoorGg
set_option linter.unusedVariables false
namespace Go.Proofs.YtbgnfocfnjlabaaDoor
open Go.ChangeShapes Go.WideShapes Go.ChangeAt Go.RowKit Go.Deep

theorem apart_c (w : World) (hG : Gens w) (g h : Int) (A0 A1 : Option Addr) (n0 c0 n1 c1 : Nat) (v0 v1 : Bytes) (hv0 : Src w (.slice A0 n0 c0) v0) (hv1 : Src w (.slice A1 n1 c1) v1) : Calls Tryd.prog 6 #[.int .i64 g, .int .i64 h, .agg #[.slice A0 n0 c0, .slice A1 n1 c1]] w (Told w (.bool true)) := by
  by_cases hx : manyP g n0 < 1 ∨ manyP h n1 < 1
  · exact apart_early w hG g h A0 A1 n0 c0 n1 c1 _ _ rfl rfl hx
  · obtain ⟨M0, h0⟩ : ∃ M : Nat, manyP g n0 = (M : Int) := ⟨(manyP g n0).toNat, by omega⟩
    obtain ⟨M1, h1⟩ : ∃ M : Nat, manyP h n1 = (M : Int) := ⟨(manyP h n1).toNat, by omega⟩
    exact apart_main w hG g h A0 A1 n0 c0 n1 c1 v0 v1 M0 M1 h0 h1 (by omega) (by omega) hv0 hv1
section
variable {H : Type} {enc : TypeId × Value → H} {w : World}
set_option maxRecDepth 100000 in
theorem twoB_arg {base : Nat} {v : Value} {d : DataW H} {p : List MemPlace} (hv : Value.okWide Tryd.prog w .any base 48 v) (h : DataW.Trod enc Tryd.prog w 0 (fun _ => true) true 48 v d p) :
    ∃ (A B : Option Addr) (n c m k : Nat) (xs ys : Bytes), v = .agg #[.slice A n c, .slice B m k] ∧ Src w (.slice A n c) xs ∧ Src w (.slice B m k) ys := by
  obtain ⟨fuel, hf⟩ := h
  obtain ⟨cs, rfl, hsz⟩ := okWide_array Tryd.underlying48 hv
  rw [show Tryd.prog.cellsOf 48 = 2 by kernel_rfl] at hsz
  obtain ⟨ys, n', _, _, hcl, hyl, hg⟩ := DataW.trod_array Tryd.underlying48 (show DataW.trod enc Tryd.prog w 0 (fun _ => true) true fuel 48 cs.toList = some (d, p) by simpa [Value.cells] using hf)
  rw [show Tryd.prog.cellsOf 27 = 1 by kernel_rfl] at hg
  have hl : cs.toList.length = 2 := by simpa using hsz
  have each : ∀ i, i < 2 → ∃ (A : Option Addr) (n c : Nat) (xs : Bytes), (cs.toList.drop (i * 1)).take 1 = [.slice A n c] ∧ Src w (.slice A n c) xs := fun i hi => by
    obtain ⟨y, hy⟩ : ∃ y, ys[i]? = some y := ⟨_, List.getElem?_eq_getElem (by omega)⟩
    obtain ⟨A, n, c, xs, e, _, hs⟩ := bytes_open ((hg i hi).trans hy)
    exact ⟨A, n, c, xs, e, hs⟩
  obtain ⟨A, n, c, xs, e0, h0⟩ := each 0 (by decide)
  obtain ⟨B, m, k, zs, e1, h1⟩ := each 1 (by decide)
  refine ⟨A, B, n, c, m, k, xs, zs, ?_, h0, h1⟩
  have s : cs.toList = (cs.toList.drop (0 * 1)).take 1 ++ (cs.toList.drop (1 * 1)).take 1 := by
    generalize cs.toList = l at hl
    match l, hl with
    | [_, _], _ => rfl
  rw [e0, e1] at s
  congr 1
  exact Array.toList_inj.1 s
end
end Go.Proofs.YtbgnfocfnjlabaaDoor
