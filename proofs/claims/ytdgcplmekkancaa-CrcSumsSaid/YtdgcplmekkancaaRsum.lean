/-
  Proved: CrcSumsSaid: whatever the bytes, the law CrcSums returns true, and the argument reads behind the call as it read before. No condition of ours.
-/
import Derived.Test.YtdgcplmekkancaaCsum
import Derived.Test.YtdgcplmekkancaaOpen
set_option linter.unusedVariables false
namespace Go.Proofs.Ytdgcplmekkancaa
open Go.ChangeShapes Go.WideShapes Go.ChangeAt Go.RowKit

theorem sums_contract (H : Type) (enc : TypeId × Value → H) (W : World) (base : Nat) (args : Array Value) (ds gs : List (DataW H)) (before : List MemPlace)
    (hval : ∀ (j : Nat) t v, Try.f3.params[j]? = some t → args[j]? = some v → Value.okWide Try.prog W .any base t v)
    (hW : DataW.Whole enc Try.prog Try.f3.params.toList Rows.crcSumsSpec.vars false W args.toList ds gs before) :
    Calls Try.prog 3 args W fun e W' => ∃ v, e = .returned v ∧ Rows.crcSumsSpec.post enc Try.prog Try.f3 false true false false W args v W' := by
  have hW' := hW
  have hlt : ∀ p ∈ before, p.block < W.heap.size := fun p hp => hW.lt p hp
  obtain ⟨p, q, hA0, hV, rfl, hfz, hnd⟩ := hW
  have hA : DataW.TrodAll enc Try.prog W 0 (fun _ => true) true Try.f3.params.toList args.toList ds p := hA0
  rw [Try.params3] at hA hval
  obtain ⟨v0, d0, rfl, rfl, h0⟩ := trodAll_one hA
  obtain ⟨rfl, rfl⟩ := trodVars_none hV
  have h0k := h0
  obtain ⟨fuel0, hf0⟩ := h0
  obtain ⟨A0, n0, c0, xs, e0, hc0, hm0, hn0, hl0, hs0⟩ := bytes_open hf0
  have hv0 : v0 = .slice A0 n0 c0 := by
    obtain ⟨a', l', c', hv⟩ := okWide_slice Try.underlying22 (hval 0 22 v0 rfl rfl)
    subst hv
    simpa [Value.cells] using e0
  subst hv0
  clear hA0
  simp only [List.append_nil] at hW' hlt
  refine (sums_walk W A0 n0 c0 xs ⟨hl0, fun h => ?_⟩ hc0 (by simp only [maxLen] at hm0; omega)).mono fun e W' ⟨he, ho⟩ => ?_
  · obtain ⟨ad, a1, _, a3⟩ := hs0 h
    exact ⟨ad, a1, a3⟩
  · subst he
    have hb : Below W.heap.size W W' := ho.toBelow fun _ h => h
    exact ⟨_, rfl, post_new (pa := p) (pv := []) hW' (fun _ _ _ => trodAll_mk1 (shut_bool Try.underlying4 _))
      (fun sp hsp => trodAll_mk1 (later (by kernel_rfl) (of_decide_eq_true (by kernel_rfl)) h0k hb hlt hsp))
      (fun _ _ => rfl) (by simp) hb⟩

set_option maxRecDepth 100000 in
theorem sums_lifted (os : Os) (started : os.Started) (H : Type) (enc : TypeId × Value → H) :
    ReturnsInHanded {} Try.checked os 3 .any (Rows.crcSumsSpec.pre6 enc Try.prog Try.f3 Rows.crcSumsRow.domain false) (Rows.crcSumsSpec.post enc Try.prog Try.f3 false true false false) := by
  refine returnsInHanded_of_change (C := Try.checked) Try.own started (by kernel_rfl) Try.func3
    (ChangeSpec.witness6 (enc := enc) (C := Try.checked) false ⟨#[], #[.slice none 0 0], []⟩ 8 (by kernel_rfl) (by kernel_rfl) (by kernel_rfl) (by kernel_rfl)) ?_
  intro W base args ds gs before hval hW _ _
  exact sums_contract H enc W base args ds gs before hval hW

theorem sums_holds : Rows.CrcSumsSaid :=
  OpenClaim.holds_of_wide 3 Try.f3 rfl rfl rfl rfl rfl rfl rfl ⟨rfl, rfl, rfl, rfl, rfl⟩ rfl rfl rfl rfl rfl (by kernel_rfl) Try.func3 (by kernel_rfl)
    (of_decide_eq_true (by kernel_rfl)) (by unfold Func.isWrapper; first | (rw [if_pos (by decide +kernel)]; kernel_rfl) | (rw [if_neg (by decide +kernel)]; exact ⟨rfl, rfl⟩))
    (fun os started H enc _ => sums_lifted os started H enc)

end Go.Proofs.Ytdgcplmekkancaa
