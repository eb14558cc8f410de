/-
  Proved: DiskSyncedSaid: whatever the image, the script and the bools, the law DiskSynced returns true, and each argument reads behind the call as it read before. No condition of ours.
-/
import Derived.Test.YtelgeddheheokaaSpot
import Derived.Test.YtelgeddheheokaaProw
import Derived.Test.YtelgeddheheokaaOpen
set_option linter.unusedVariables false
namespace Go.Proofs.Ytelgeddheheokaa
open Go.ChangeShapes Go.WideShapes Go.ChangeAt Go.RowKit

theorem synced_contract (H : Type) (enc : TypeId × Value → H) (W : World) (base : Nat) (args : Array Value) (ds gs : List (DataW H)) (before : List MemPlace)
    (hval : ∀ (j : Nat) t v, Try.f3.params[j]? = some t → args[j]? = some v → Value.okWide Try.prog W .any base t v)
    (hW : DataW.Whole enc Try.prog Try.f3.params.toList Rows.diskSyncedSpec.vars false W args.toList ds gs before) :
    Calls Try.prog 3 args W fun e W' => ∃ v, e = .returned v ∧ Rows.diskSyncedSpec.post enc Try.prog Try.f3 false true false false W args v W' := by
  have hW' := hW
  have hlt : ∀ p ∈ before, p.block < W.heap.size := fun p hp => hW.lt p hp
  obtain ⟨p, q, hA0, hV, rfl, hfz, hnd⟩ := hW
  have hA : DataW.TrodAll enc Try.prog W 0 (fun _ => true) true Try.f3.params.toList args.toList ds p := hA0
  rw [Try.params3] at hA hval
  obtain ⟨v0, v1, v2, d0, d1, d2, p0, p1, p2, rfl, rfl, rfl, h0, h1, h2⟩ := trodAll_three hA
  obtain ⟨rfl, rfl⟩ := trodVars_none hV
  have h0k := h0
  have h1k := h1
  have h2k := h2
  obtain ⟨fuel0, hf0⟩ := h0
  obtain ⟨fuel1, hf1⟩ := h1
  obtain ⟨fuel2, hf2⟩ := h2
  obtain ⟨A0, n0, c0, xs, e0, hc0, hm0, hl0, hs0⟩ := bytes_open hf0
  obtain ⟨A1, n1, c1, l, e1, hscr⟩ := script_open hf1
  obtain ⟨A2, n2, c2, kl, e2, hc2, hm2, hl2, hs2⟩ := bools_src hf2
  have hv0 : v0 = .slice A0 n0 c0 := by
    obtain ⟨a', l', c', hv⟩ := okWide_slice Try.underlying22 (hval 0 22 v0 rfl rfl)
    subst hv
    simpa [Value.cells] using e0
  have hv1 : v1 = .slice A1 n1 c1 := by
    obtain ⟨a', l', c', hv⟩ := okWide_slice Try.underlying23 (hval 1 23 v1 rfl rfl)
    subst hv
    simpa [Value.cells] using e1
  have hv2 : v2 = .slice A2 n2 c2 := by
    obtain ⟨a', l', c', hv⟩ := okWide_slice Try.underlying24 (hval 2 24 v2 rfl rfl)
    subst hv
    simpa [Value.cells] using e2
  subst hv0 hv1 hv2
  clear hA0
  simp only [List.append_nil] at hW' hlt
  refine (synced_walk W A0 A1 A2 n0 c0 n1 c1 n2 c2 xs l kl ⟨by rw [cb_length, hl0], fun h => ?_⟩ hc0 hm0 hscr hs2 hl2 (by omega)).mono fun e W' ⟨he, ho⟩ => ?_
  · obtain ⟨ad, a1, a2, a3⟩ := hs0 h
    exact ⟨ad, a1, by omega, a3⟩
  · subst he
    have hb : Below W.heap.size W W' := ho.toBelow fun _ h => h
    exact ⟨_, rfl, post_new (pa := p0 ++ (p1 ++ p2)) (pv := []) hW' (fun _ _ _ => trodAll_mk1 (shut_bool Try.underlying4 _))
      (fun sp hsp => trodAll_mk3 (later (by kernel_rfl) (of_decide_eq_true (by kernel_rfl)) h0k hb (fun x hx => hlt x (by simp [hx])) (fun x hx => hsp x (by simp [hx])))
        (later (by kernel_rfl) (of_decide_eq_true (by kernel_rfl)) h1k hb (fun x hx => hlt x (by simp [hx])) (fun x hx => hsp x (by simp [hx])))
        (later (by kernel_rfl) (of_decide_eq_true (by kernel_rfl)) h2k hb (fun x hx => hlt x (by simp [hx])) (fun x hx => hsp x (by simp [hx]))))
      (fun _ _ => rfl) (by simp) hb⟩

set_option maxRecDepth 100000 in
theorem synced_lifted (os : Os) (started : os.Started) (H : Type) (enc : TypeId × Value → H) :
    ReturnsInHanded {} Try.checked os 3 .any (Rows.diskSyncedSpec.pre6 enc Try.prog Try.f3 Rows.diskSyncedRow.domain false) (Rows.diskSyncedSpec.post enc Try.prog Try.f3 false true false false) := by
  refine returnsInHanded_of_change (C := Try.checked) Try.own started (by kernel_rfl) Try.func3
    (ChangeSpec.witness6 (enc := enc) (C := Try.checked) false ⟨#[], #[.slice none 0 0, .slice none 0 0, .slice none 0 0], []⟩ 8 (by kernel_rfl) (by kernel_rfl) (by kernel_rfl) (by kernel_rfl)) ?_
  intro W base args ds gs before hval hW _ _
  exact synced_contract H enc W base args ds gs before hval hW

theorem synced_holds : Rows.DiskSyncedSaid :=
  OpenClaim.holds_of_wide 3 Try.f3 rfl rfl rfl rfl rfl rfl rfl ⟨rfl, rfl, rfl, rfl, rfl⟩ rfl rfl rfl rfl rfl (by kernel_rfl) Try.func3 (by kernel_rfl)
    (of_decide_eq_true (by kernel_rfl)) (by unfold Func.isWrapper; first | (rw [if_pos (by decide +kernel)]; kernel_rfl) | (rw [if_neg (by decide +kernel)]; exact ⟨rfl, rfl⟩))
    (fun os started H enc _ => synced_lifted os started H enc)

end Go.Proofs.Ytelgeddheheokaa
