/-
  Metas: an argument opened; a number's lowest bit.
-/
import Derived.Test.YtoghojgajpfkkaaDoorMal
import Derived.Test.YtoghojgajpfkkaaDoorArgs
set_option linter.unusedVariables false
namespace Go.Proofs.YtoghojgajpfkkaaDoor
open Go.ChangeShapes Go.WideShapes Go.ChangeAt Go.RowKit Go.Deep

theorem and_one (k : Nat) (h : k < 9223372036854775808) : bits .and .i64 (k : Int) 1 = ((k % 2 : Nat) : Int) := by
  show IntKind.i64.wrap ((BitVec.ofInt 64 (k : Int) &&& BitVec.ofInt 64 1).toNat : Int) = _
  rw [BitVec.toNat_and, ofInt64 k h, show (BitVec.ofInt 64 1).toNat = 1 from by decide, Nat.and_one_is_mod, IntKind.wrap_i64]
  omega
section
variable {H : Type} {enc : TypeId × Value → H} {w : World}
set_option maxRecDepth 100000 in
theorem meta_arg {base : Nat} {v : Value} {d : DataW H} {p : List MemPlace} (hv : Value.okWide Tryd.prog w .any base 52 v) (h : DataW.Trod enc Tryd.prog w 0 (fun _ => true) true 52 v d p) :
    ∃ (g ph t x r pg l : Int) (A : Option Addr) (n c : Nat) (xs : Bytes), v = .agg #[.int .i64 g, .int .i64 ph, .int .i64 t, .int .i64 x, .int .i64 r, .int .i64 pg, .int .i64 l, .slice A n c] ∧ xs.length = n ∧ Src w (.slice A n c) xs ∧ ∀ u ∈ [g, ph, t, x, r, pg, l], I64 u := by
  obtain ⟨fuel, hf⟩ := h
  obtain ⟨cs, rfl, hsz⟩ := okWide_struct Tryd.underlying52 hv
  rw [show Tryd.prog.cellsOf 52 = 8 by kernel_rfl] at hsz
  obtain ⟨ys, n', _, _, _, hyl, hg⟩ := DataW.trod_struct Tryd.underlying52 (show DataW.trod enc Tryd.prog w 0 (fun _ => true) true fuel 52 cs.toList = some (d, p) by simpa [Value.cells] using hf)
  have c3 : Tryd.prog.cellsOf 3 = 1 := by kernel_rfl
  have c25 : Tryd.prog.cellsOf 27 = 1 := by kernel_rfl
  have hl : cs.toList.length = 8 := by simpa using hsz
  have hyl' : ys.length = 8 := hyl
  obtain ⟨y0, y1, y2, y3, y4, y5, y6, y7, rfl⟩ : ∃ y0 y1 y2 y3 y4 y5 y6 y7, ys = [y0, y1, y2, y3, y4, y5, y6, y7] := by
    match ys, hyl' with
    | [y0, y1, y2, y3, y4, y5, y6, y7], _ => exact ⟨y0, y1, y2, y3, y4, y5, y6, y7, rfl⟩
  have t0 : DataW.trod enc Tryd.prog w 0 (fun _ => true) true n' 3 ((cs.toList.drop 0).take (Tryd.prog.cellsOf 3)) = some y0 := hg 0 _ rfl
  have t1 : DataW.trod enc Tryd.prog w 0 (fun _ => true) true n' 3 ((cs.toList.drop 1).take (Tryd.prog.cellsOf 3)) = some y1 := hg 1 _ rfl
  have t2 : DataW.trod enc Tryd.prog w 0 (fun _ => true) true n' 3 ((cs.toList.drop 2).take (Tryd.prog.cellsOf 3)) = some y2 := hg 2 _ rfl
  have t3 : DataW.trod enc Tryd.prog w 0 (fun _ => true) true n' 3 ((cs.toList.drop 3).take (Tryd.prog.cellsOf 3)) = some y3 := hg 3 _ rfl
  have t4 : DataW.trod enc Tryd.prog w 0 (fun _ => true) true n' 3 ((cs.toList.drop 4).take (Tryd.prog.cellsOf 3)) = some y4 := hg 4 _ rfl
  have t5 : DataW.trod enc Tryd.prog w 0 (fun _ => true) true n' 3 ((cs.toList.drop 5).take (Tryd.prog.cellsOf 3)) = some y5 := hg 5 _ rfl
  have t6 : DataW.trod enc Tryd.prog w 0 (fun _ => true) true n' 3 ((cs.toList.drop 6).take (Tryd.prog.cellsOf 3)) = some y6 := hg 6 _ rfl
  have t7 : DataW.trod enc Tryd.prog w 0 (fun _ => true) true n' 27 ((cs.toList.drop 7).take (Tryd.prog.cellsOf 27)) = some y7 := hg 7 _ rfl
  rw [c3] at t0 t1 t2 t3 t4 t5 t6
  rw [c25] at t7
  obtain ⟨a0, e0, h0⟩ := int_open t0
  obtain ⟨a1, e1, h1⟩ := int_open t1
  obtain ⟨a2, e2, h2⟩ := int_open t2
  obtain ⟨a3, e3, h3⟩ := int_open t3
  obtain ⟨a4, e4, h4⟩ := int_open t4
  obtain ⟨a5, e5, h5⟩ := int_open t5
  obtain ⟨a6, e6, h6⟩ := int_open t6
  obtain ⟨A, n, c, xs, e7, hx, sx⟩ := bytes_open t7
  refine ⟨a0, a1, a2, a3, a4, a5, a6, A, n, c, xs, ?_, hx, sx, ?_⟩
  · have s : cs.toList = (cs.toList.drop 0).take 1 ++ ((cs.toList.drop 1).take 1 ++ ((cs.toList.drop 2).take 1 ++ ((cs.toList.drop 3).take 1 ++ ((cs.toList.drop 4).take 1 ++ ((cs.toList.drop 5).take 1 ++ ((cs.toList.drop 6).take 1 ++ (cs.toList.drop 7).take 1)))))) := by
      generalize cs.toList = l at hl
      match l, hl with
      | [_, _, _, _, _, _, _, _], _ => rfl
    rw [e0, e1, e2, e3, e4, e5, e6, e7] at s
    congr 1
    exact Array.toList_inj.1 s
  · intro u hu
    simp only [List.mem_cons, List.not_mem_nil, or_false] at hu
    rcases hu with rfl | rfl | rfl | rfl | rfl | rfl | rfl
    · exact h0
    · exact h1
    · exact h2
    · exact h3
    · exact h4
    · exact h5
    · exact h6
end
end Go.Proofs.YtoghojgajpfkkaaDoor
