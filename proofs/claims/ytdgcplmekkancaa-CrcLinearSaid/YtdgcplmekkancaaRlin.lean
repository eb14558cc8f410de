/-
  Proved: CrcLinearSaid: whatever the two rows of bytes, the law CrcLinear returns true, and each argument reads behind the call as it read before. No condition of ours.
-/
import Derived.Test.YtdgcplmekkancaaLinr
import Derived.Test.YtdgcplmekkancaaOpen
set_option linter.unusedVariables false
namespace Go.Proofs.Ytdgcplmekkancaa
open Go.ChangeShapes Go.WideShapes Go.ChangeAt Go.RowKit

theorem linear_contract (H : Type) (enc : TypeId × Value → H) (W : World) (base : Nat) (args : Array Value) (ds gs : List (DataW H)) (before : List MemPlace)
    (hval : ∀ (j : Nat) t v, Try.f7.params[j]? = some t → args[j]? = some v → Value.okWide Try.prog W .any base t v)
    (hW : DataW.Whole enc Try.prog Try.f7.params.toList Rows.crcLinearSpec.vars false W args.toList ds gs before) :
    Calls Try.prog 7 args W fun e W' => ∃ v, e = .returned v ∧ Rows.crcLinearSpec.post enc Try.prog Try.f7 false true false false W args v W' := by
  have hW' := hW
  have hlt : ∀ p ∈ before, p.block < W.heap.size := fun p hp => hW.lt p hp
  obtain ⟨p, q, hA0, hV, rfl, hfz, hnd⟩ := hW
  have hA : DataW.TrodAll enc Try.prog W 0 (fun _ => true) true Try.f7.params.toList args.toList ds p := hA0
  rw [Try.params7] at hA hval
  obtain ⟨v0, v1, d0, d1, p0, p1, rfl, rfl, rfl, h0, h1⟩ := trodAll_two hA
  obtain ⟨rfl, rfl⟩ := trodVars_none hV
  have h0k := h0
  have h1k := h1
  obtain ⟨fuel0, hf0⟩ := h0
  obtain ⟨fuel1, hf1⟩ := h1
  obtain ⟨A0, n0, c0, xs, e0, hc0, hm0, hn0, hl0, hs0⟩ := bytes_open hf0
  obtain ⟨A1, n1, c1, ys, e1, hc1, hm1, hn1, hl1, hs1⟩ := bytes_open hf1
  have hv0 : v0 = .slice A0 n0 c0 := by
    obtain ⟨a', l', c', hv⟩ := okWide_slice Try.underlying22 (hval 0 22 v0 rfl rfl)
    subst hv
    simpa [Value.cells] using e0
  have hv1 : v1 = .slice A1 n1 c1 := by
    obtain ⟨a', l', c', hv⟩ := okWide_slice Try.underlying22 (hval 1 22 v1 rfl rfl)
    subst hv
    simpa [Value.cells] using e1
  subst hv0 hv1
  clear hA0
  simp only [List.append_nil] at hW' hlt
  refine (linear_walk W A0 A1 n0 c0 n1 c1 xs ys ⟨hl0, fun h => ?_⟩ ⟨hl1, fun h => ?_⟩ hn0 hn1 hc0 hc1 (by simp only [maxLen] at hm0; omega) (by simp only [maxLen] at hm1; omega)).mono fun e W' ⟨he, ho⟩ => ?_
  · obtain ⟨ad, a1, _, a3⟩ := hs0 h
    exact ⟨ad, a1, a3⟩
  · obtain ⟨ad, a1, _, a3⟩ := hs1 h
    exact ⟨ad, a1, a3⟩
  · subst he
    have hb : Below W.heap.size W W' := ho.toBelow fun _ h => h
    exact ⟨_, rfl, post_new (pa := p0 ++ p1) (pv := []) hW' (fun _ _ _ => trodAll_mk1 (shut_bool Try.underlying4 _))
      (fun sp hsp => trodAll_mk2 (later (by kernel_rfl) (of_decide_eq_true (by kernel_rfl)) h0k hb (fun x hx => hlt x (List.mem_append_left _ hx)) (fun x hx => hsp x (List.mem_append_left _ hx)))
        (later (by kernel_rfl) (of_decide_eq_true (by kernel_rfl)) h1k hb (fun x hx => hlt x (List.mem_append_right _ hx)) (fun x hx => hsp x (List.mem_append_right _ hx))))
      (fun _ _ => rfl) (by simp) hb⟩

set_option maxRecDepth 100000 in
theorem linear_lifted (os : Os) (started : os.Started) (H : Type) (enc : TypeId × Value → H) :
    ReturnsInHanded {} Try.checked os 7 .any (Rows.crcLinearSpec.pre6 enc Try.prog Try.f7 Rows.crcLinearRow.domain false) (Rows.crcLinearSpec.post enc Try.prog Try.f7 false true false false) := by
  refine returnsInHanded_of_change (C := Try.checked) Try.own started (by kernel_rfl) Try.func7
    (ChangeSpec.witness6 (enc := enc) (C := Try.checked) false ⟨#[], #[.slice none 0 0, .slice none 0 0], []⟩ 8 (by kernel_rfl) (by kernel_rfl) (by kernel_rfl) (by kernel_rfl)) ?_
  intro W base args ds gs before hval hW _ _
  exact linear_contract H enc W base args ds gs before hval hW

theorem linear_holds : Rows.CrcLinearSaid :=
  OpenClaim.holds_of_wide 7 Try.f7 rfl rfl rfl rfl rfl rfl rfl ⟨rfl, rfl, rfl, rfl, rfl⟩ rfl rfl rfl rfl rfl (by kernel_rfl) Try.func7 (by kernel_rfl)
    (of_decide_eq_true (by kernel_rfl)) (by unfold Func.isWrapper; first | (rw [if_pos (by decide +kernel)]; kernel_rfl) | (rw [if_neg (by decide +kernel)]; exact ⟨rfl, rfl⟩))
    (fun os started H enc _ => linear_lifted os started H enc)

end Go.Proofs.Ytdgcplmekkancaa
