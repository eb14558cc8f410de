/-
  Proved: CrcSealsSaid: whatever the bytes and the number, the law CrcSeals returns true, and each argument reads behind the call as it read before. No condition of ours.
-/
import Derived.Test.YtdgcplmekkancaaSeas
import Derived.Test.YtdgcplmekkancaaOpen
set_option linter.unusedVariables false
namespace Go.Proofs.Ytdgcplmekkancaa
open Go.ChangeShapes Go.WideShapes Go.ChangeAt Go.RowKit

theorem seals_contract (H : Type) (enc : TypeId × Value → H) (W : World) (base : Nat) (args : Array Value) (ds gs : List (DataW H)) (before : List MemPlace)
    (hval : ∀ (j : Nat) t v, Try.f5.params[j]? = some t → args[j]? = some v → Value.okWide Try.prog W .any base t v)
    (hW : DataW.Whole enc Try.prog Try.f5.params.toList Rows.crcSealsSpec.vars false W args.toList ds gs before) :
    Calls Try.prog 5 args W fun e W' => ∃ v, e = .returned v ∧ Rows.crcSealsSpec.post enc Try.prog Try.f5 false true false false W args v W' := by
  have hW' := hW
  have hlt : ∀ p ∈ before, p.block < W.heap.size := fun p hp => hW.lt p hp
  obtain ⟨p, q, hA0, hV, rfl, hfz, hnd⟩ := hW
  have hA : DataW.TrodAll enc Try.prog W 0 (fun _ => true) true Try.f5.params.toList args.toList ds p := hA0
  rw [Try.params5] at hA hval
  obtain ⟨v0, v1, d0, d1, p0, p1, rfl, rfl, rfl, h0, h1⟩ := trodAll_two hA
  obtain ⟨rfl, rfl⟩ := trodVars_none hV
  have h0k := h0
  obtain ⟨fuel0, hf0⟩ := h0
  obtain ⟨n, rfl, rfl, rfl, wn⟩ := open_int Try.underlying3 (hval 1 3 v1 rfl rfl) h1
  have hn : -9223372036854775808 ≤ n ∧ n ≤ 9223372036854775807 := by simpa [Lit.wf, IntKind.min, IntKind.max, IntKind.signed, IntKind.bits] using wn
  obtain ⟨A0, n0, c0, xs, e0, hc0, hm0, hn0, hl0, hs0⟩ := bytes_open hf0
  have hv0 : v0 = .slice A0 n0 c0 := by
    obtain ⟨a', l', c', hv⟩ := okWide_slice Try.underlying22 (hval 0 22 v0 rfl rfl)
    subst hv
    simpa [Value.cells] using e0
  subst hv0
  clear hA0
  simp only [List.append_nil] at hW' hlt
  refine (seals_walk W A0 n0 c0 xs ⟨hl0, fun h => ?_⟩ hn0 hc0 (by simp only [maxLen] at hm0; omega) n hn.1 hn.2).mono fun e W' ⟨he, ho⟩ => ?_
  · obtain ⟨ad, a1, _, a3⟩ := hs0 h
    exact ⟨ad, a1, a3⟩
  · subst he
    have hb : Below W.heap.size W W' := ho.toBelow fun _ h => h
    exact ⟨_, rfl, post_new (pa := p0 ++ []) (pv := []) hW' (fun _ _ _ => trodAll_mk1 (shut_bool Try.underlying4 _))
      (fun sp hsp => trodAll_mk2 (later (by kernel_rfl) (of_decide_eq_true (by kernel_rfl)) h0k hb hlt hsp)
        (shut_int Try.underlying3 wn))
      (fun _ _ => rfl) (by simp) hb⟩

set_option maxRecDepth 100000 in
theorem seals_lifted (os : Os) (started : os.Started) (H : Type) (enc : TypeId × Value → H) :
    ReturnsInHanded {} Try.checked os 5 .any (Rows.crcSealsSpec.pre6 enc Try.prog Try.f5 Rows.crcSealsRow.domain false) (Rows.crcSealsSpec.post enc Try.prog Try.f5 false true false false) := by
  refine returnsInHanded_of_change (C := Try.checked) Try.own started (by kernel_rfl) Try.func5
    (ChangeSpec.witness6 (enc := enc) (C := Try.checked) false ⟨#[], #[.slice none 0 0, .int .i64 0], []⟩ 8 (by kernel_rfl) (by kernel_rfl) (by kernel_rfl) (by kernel_rfl)) ?_
  intro W base args ds gs before hval hW _ _
  exact seals_contract H enc W base args ds gs before hval hW

theorem seals_holds : Rows.CrcSealsSaid :=
  OpenClaim.holds_of_wide 5 Try.f5 rfl rfl rfl rfl rfl rfl rfl ⟨rfl, rfl, rfl, rfl, rfl⟩ rfl rfl rfl rfl rfl (by kernel_rfl) Try.func5 (by kernel_rfl)
    (of_decide_eq_true (by kernel_rfl)) (by unfold Func.isWrapper; first | (rw [if_pos (by decide +kernel)]; kernel_rfl) | (rw [if_neg (by decide +kernel)]; exact ⟨rfl, rfl⟩))
    (fun os started H enc _ => seals_lifted os started H enc)

end Go.Proofs.Ytdgcplmekkancaa
