/-
  Proved: FieldSpoilsSaid: whatever the bytes and the script, the law FieldSpoils returns true, and each argument reads behind the call as it read before. No condition of ours.
-/
import Derived.Test.YtmkpcdcdhheokaaSpwk
import Derived.Test.YtmkpcdcdhheokaaOpen
set_option linter.unusedVariables false
namespace Go.Proofs.Ytmkpcdcdhheokaa
open Go.ChangeShapes Go.WideShapes Go.ChangeAt Go.RowKit

theorem spoils_contract (H : Type) (enc : TypeId × Value → H) (W : World) (base : Nat) (args : Array Value) (ds gs : List (DataW H)) (before : List MemPlace)
    (hval : ∀ (j : Nat) t v, Try.f6.params[j]? = some t → args[j]? = some v → Value.okWide Try.prog W .any base t v)
    (hW : DataW.Whole enc Try.prog Try.f6.params.toList Rows.fieldSpoilsSpec.vars false W args.toList ds gs before)
    (hz : (DataW.weightsEach Try.prog (Try.f6.params.toList ++ Rows.fieldSpoilsSpec.plain.varTypes Try.prog) (ds ++ gs)).all (· ≤ reachBytes) = true) :
    Calls Try.prog 6 args W fun e W' => ∃ v, e = .returned v ∧ Rows.fieldSpoilsSpec.post enc Try.prog Try.f6 false true false false W args v W' := by
  have hW' := hW
  have hlt : ∀ p ∈ before, p.block < W.heap.size := fun p hp => hW.lt p hp
  obtain ⟨p, q, hA0, hV, rfl, hfz, hnd⟩ := hW
  have hA : DataW.TrodAll enc Try.prog W 0 (fun _ => true) true Try.f6.params.toList args.toList ds p := hA0
  rw [Try.params6] at hA hval
  obtain ⟨v0, v1, d0, d1, p0, p1, rfl, rfl, rfl, h0, h1⟩ := trodAll_two hA
  obtain ⟨rfl, rfl⟩ := trodVars_none hV
  have h0k := h0
  have h1k := h1
  obtain ⟨fuel0, hf0⟩ := h0
  obtain ⟨fuel1, hf1⟩ := h1
  have hw1 : ∀ m ∈ d1.weights Try.prog 22, m ≤ reachBytes := fun m hm => by
    have := List.all_eq_true.1 hz m (DataW.weights_mem_each (j := 1) (t := 22) (d := d1) (by rw [Try.params6]; rfl) rfl m hm)
    simpa using this
  obtain ⟨A0, n0, c0, xs, e0, hc0, hm0, hn0, hl0, hs0⟩ := bytes_open hf0
  obtain ⟨A1, n1, c1, l, e1, hp1, hb1⟩ := script_open hf1 hw1
  have hv0 : v0 = .slice A0 n0 c0 := by
    obtain ⟨a', l', c', hv⟩ := okWide_slice Try.underlying27 (hval 0 27 v0 rfl rfl)
    subst hv
    simpa [Value.cells] using e0
  have hv1 : v1 = .slice A1 n1 c1 := by
    obtain ⟨a', l', c', hv⟩ := okWide_slice Try.underlying22 (hval 1 22 v1 rfl rfl)
    subst hv
    simpa [Value.cells] using e1
  subst hv0 hv1
  clear hA0
  simp only [List.append_nil] at hW' hlt
  subst hl0
  have hcm : c0 ≤ 9223372036854775807 := by simp only [maxLen] at hm0; omega
  have hsrc : Src W (.slice A0 xs.length c0) xs := by
    refine ⟨A0, c0, rfl, ⟨rfl, fun h => ?_⟩, fun e => (hn0 e).2, hc0, hcm⟩
    obtain ⟨ad, a1, _, a3⟩ := hs0 h
    exact ⟨ad, a1, a3⟩
  refine (spoils_walk W A1 n1 c1 l hp1 hb1 A0 c0 xs hsrc (by omega)).mono fun e W' ⟨he, ho⟩ => ?_
  subst he
  have hb : Below W.heap.size W W' := ho.toBelow fun _ h => h
  have hlt0 : ∀ x ∈ p0, x.block < W.heap.size := fun x hx => hlt x (List.mem_append_left _ hx)
  have hlt1 : ∀ x ∈ p1, x.block < W.heap.size := fun x hx => hlt x (List.mem_append_right _ hx)
  exact ⟨_, rfl, post_new (pa := p0 ++ p1) (pv := []) hW' (fun _ _ _ => trodAll_mk1 (shut_bool Try.underlying4 _))
      (fun sp hsp => trodAll_mk2 (later (by kernel_rfl) (of_decide_eq_true (by kernel_rfl)) h0k hb hlt0 (fun x hx => hsp x (List.mem_append_left _ hx)))
        (later (by kernel_rfl) (of_decide_eq_true (by kernel_rfl)) h1k hb hlt1 (fun x hx => hsp x (List.mem_append_right _ hx))))
      (fun _ _ => rfl) (by simp) hb⟩

set_option maxRecDepth 100000 in
theorem spoils_lifted (os : Os) (started : os.Started) (H : Type) (enc : TypeId × Value → H) :
    ReturnsInHanded {} Try.checked os 6 .any (Rows.fieldSpoilsSpec.pre6 enc Try.prog Try.f6 Rows.fieldSpoilsRow.domain false) (Rows.fieldSpoilsSpec.post enc Try.prog Try.f6 false true false false) := by
  refine returnsInHanded_of_change_sized (C := Try.checked) Try.own started (by kernel_rfl) Try.func6
    (ChangeSpec.witness6 (enc := enc) (C := Try.checked) false ⟨#[], #[.slice none 0 0, .slice none 0 0], []⟩ 8 (by kernel_rfl) (by kernel_rfl) (by kernel_rfl) (by kernel_rfl)) ?_
  intro W base args ds gs before hval hW _ hz _
  exact spoils_contract H enc W base args ds gs before hval hW hz

theorem spoils_holds : Rows.FieldSpoilsSaid :=
  OpenClaim.holds_of_wide 6 Try.f6 rfl rfl rfl rfl rfl rfl rfl ⟨rfl, rfl, rfl, rfl, rfl⟩ rfl rfl rfl rfl rfl (by kernel_rfl) Try.func6 (by kernel_rfl)
    (of_decide_eq_true (by kernel_rfl)) (by unfold Func.isWrapper; first | (rw [if_pos (by decide +kernel)]; kernel_rfl) | (rw [if_neg (by decide +kernel)]; exact ⟨rfl, rfl⟩))
    (fun os started H enc _ => spoils_lifted os started H enc)

end Go.Proofs.Ytmkpcdcdhheokaa
