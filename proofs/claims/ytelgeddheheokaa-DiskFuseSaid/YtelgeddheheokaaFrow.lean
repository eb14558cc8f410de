/-
  Proved: DiskFuseSaid: whatever the image, the number and the script, the law DiskFuse returns true, and each argument reads behind the call as it read before. No condition of ours.
-/
import Derived.Test.YtelgeddheheokaaFus2
import Derived.Test.YtelgeddheheokaaOpen
set_option linter.unusedVariables false
namespace Go.Proofs.Ytelgeddheheokaa
open Go.ChangeShapes Go.WideShapes Go.ChangeAt Go.RowKit

theorem fuse_contract (H : Type) (enc : TypeId × Value → H) (W : World) (base : Nat) (args : Array Value) (ds gs : List (DataW H)) (before : List MemPlace)
    (hval : ∀ (j : Nat) t v, Try.f5.params[j]? = some t → args[j]? = some v → Value.okWide Try.prog W .any base t v)
    (hW : DataW.Whole enc Try.prog Try.f5.params.toList Rows.diskFuseSpec.vars false W args.toList ds gs before) :
    Calls Try.prog 5 args W fun e W' => ∃ v, e = .returned v ∧ Rows.diskFuseSpec.post enc Try.prog Try.f5 false true false false W args v W' := by
  have hW' := hW
  have hlt : ∀ p ∈ before, p.block < W.heap.size := fun p hp => hW.lt p hp
  obtain ⟨p, q, hA0, hV, rfl, hfz, hnd⟩ := hW
  have hA : DataW.TrodAll enc Try.prog W 0 (fun _ => true) true Try.f5.params.toList args.toList ds p := hA0
  rw [Try.params5] at hA hval
  obtain ⟨v0, v1, v2, d0, d1, d2, p0, p1, p2, rfl, rfl, rfl, h0, h1, h2⟩ := trodAll_three hA
  obtain ⟨rfl, rfl⟩ := trodVars_none hV
  have h0k := h0
  have h1k := h1
  have h2k := h2
  obtain ⟨fuel0, hf0⟩ := h0
  obtain ⟨n, rfl, rfl, rfl, wn⟩ := open_int Try.underlying3 (hval 1 3 v1 rfl rfl) h1
  have hn : -9223372036854775808 ≤ n ∧ n ≤ 9223372036854775807 := by simpa [Lit.wf, IntKind.min, IntKind.max, IntKind.signed, IntKind.bits] using wn
  obtain ⟨fuel2, hf2⟩ := h2
  obtain ⟨A0, n0, c0, xs, e0, hc0, hm0, hl0, hs0⟩ := bytes_open hf0
  obtain ⟨A1, n1, c1, l, e1, hscr⟩ := script_open hf2
  have hv0 : v0 = .slice A0 n0 c0 := by
    obtain ⟨a', l', c', hv⟩ := okWide_slice Try.underlying22 (hval 0 22 v0 rfl rfl)
    subst hv
    simpa [Value.cells] using e0
  have hv1 : v2 = .slice A1 n1 c1 := by
    obtain ⟨a', l', c', hv⟩ := okWide_slice Try.underlying23 (hval 2 23 v2 rfl rfl)
    subst hv
    simpa [Value.cells] using e1
  subst hv0 hv1
  clear hA0
  simp only [List.append_nil] at hW' hlt
  refine (fuse_walk W A0 A1 n0 c0 n1 c1 n hn.1 hn.2 xs l ⟨by rw [cb_length, hl0], fun h => ?_⟩ hc0 hm0 hscr).mono fun e W' ⟨he, ho⟩ => ?_
  · obtain ⟨ad, a1, a2, a3⟩ := hs0 h
    exact ⟨ad, a1, by omega, a3⟩
  · subst he
    have hb : Below W.heap.size W W' := ho.toBelow fun _ h => h
    exact ⟨_, rfl, post_new (pa := p0 ++ ([] ++ p2)) (pv := []) hW' (fun _ _ _ => trodAll_mk1 (shut_bool Try.underlying4 _))
      (fun sp hsp => trodAll_mk3 (later (by kernel_rfl) (of_decide_eq_true (by kernel_rfl)) h0k hb (fun x hx => hlt x (List.mem_append_left _ hx)) (fun x hx => hsp x (List.mem_append_left _ hx)))
        (shut_int Try.underlying3 wn)
        (later (by kernel_rfl) (of_decide_eq_true (by kernel_rfl)) h2k hb (fun x hx => hlt x (List.mem_append_right _ hx)) (fun x hx => hsp x (List.mem_append_right _ hx))))
      (fun _ _ => rfl) (by simp) hb⟩

set_option maxRecDepth 100000 in
theorem fuse_lifted (os : Os) (started : os.Started) (H : Type) (enc : TypeId × Value → H) :
    ReturnsInHanded {} Try.checked os 5 .any (Rows.diskFuseSpec.pre6 enc Try.prog Try.f5 Rows.diskFuseRow.domain false) (Rows.diskFuseSpec.post enc Try.prog Try.f5 false true false false) := by
  refine returnsInHanded_of_change (C := Try.checked) Try.own started (by kernel_rfl) Try.func5
    (ChangeSpec.witness6 (enc := enc) (C := Try.checked) false ⟨#[], #[.slice none 0 0, .int .i64 0, .slice none 0 0], []⟩ 8 (by kernel_rfl) (by kernel_rfl) (by kernel_rfl) (by kernel_rfl)) ?_
  intro W base args ds gs before hval hW _ _
  exact fuse_contract H enc W base args ds gs before hval hW

theorem fuse_holds : Rows.DiskFuseSaid :=
  OpenClaim.holds_of_wide 5 Try.f5 rfl rfl rfl rfl rfl rfl rfl ⟨rfl, rfl, rfl, rfl, rfl⟩ rfl rfl rfl rfl rfl (by kernel_rfl) Try.func5 (by kernel_rfl)
    (of_decide_eq_true (by kernel_rfl)) (by unfold Func.isWrapper; first | (rw [if_pos (by decide +kernel)]; kernel_rfl) | (rw [if_neg (by decide +kernel)]; exact ⟨rfl, rfl⟩))
    (fun os started H enc _ => fuse_lifted os started H enc)

end Go.Proofs.Ytelgeddheheokaa
