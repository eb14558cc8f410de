/-
  Proved: RunTakesSaid: whatever the row of runs and the number, the law RunTakes returns true, and the row reads behind the call as it read before. No condition of ours.
-/
import Derived.Test.YtjnaejogclmooaaRtak
import Derived.Test.YtjnaejogclmooaaOpen
set_option linter.unusedVariables false
namespace Go.Proofs.Ytjnaejogclmooaa
open Go.ChangeShapes Go.WideShapes Go.ChangeAt Go.RowKit

set_option maxRecDepth 100000 in
set_option maxHeartbeats 6400000 in
theorem takes_walk (w : World) (v : Value) (l : List R) (m : Int) (h : Row w v l) (hr : ∀ x ∈ l, I64 x) :
    Calls Try.prog 6 #[v, .int .i64 m] w (Told w (.bool true)) := by
  obtain ⟨sa, hsa⟩ : ∃ s, s = short l := ⟨_, rfl⟩
  cases sa
  · have HO : Hid (Only (w.heap.size ≤ ·) w w) := Only.refl _ w
    have HA := Lib.hid h
    have HSA := Lib.hid hsa
    clear h hr hsa
    go_enter Try.func6, Try.ntmps6
    go_wp2_with (first
      | (go_at_call 10; (with_reducible refine (few_b _ _ _ _ HA.out HSA.out).mono ?_); rintro e w1 ⟨rfl, ho⟩; (try replace HA := Lib.hid (HA.out.later ho)); replace HO := Lib.hid (on_new HO.out ho); clear ho)
      | (go_at_call 11; (with_reducible refine (alive_c _).mono ?_); rintro e w2 ⟨rfl, ho⟩; (try replace HA := Lib.hid (HA.out.later ho)); replace HO := Lib.hid (on_new HO.out ho); clear ho))
    go_ret
    exact ⟨rfl, HO.out⟩
  · rcases first_or l m with hn | ⟨k, r, hf⟩
    · exact takes_no w v l m h hr hsa.symm hn
    · exact takes_yes w v l m h hr hsa.symm k r hf

set_option maxRecDepth 100000 in
theorem takes_contract (H : Type) (enc : TypeId × Value → H) (W : World) (base : Nat) (args : Array Value) (ds gs : List (DataW H)) (before : List MemPlace)
    (hval : ∀ (j : Nat) t v, Try.f6.params[j]? = some t → args[j]? = some v → Value.okWide Try.prog W .any base t v)
    (hW : DataW.Whole enc Try.prog Try.f6.params.toList Rows.runTakesSpec.vars false W args.toList ds gs before) :
    Calls Try.prog 6 args W fun e W' => ∃ v, e = .returned v ∧ Rows.runTakesSpec.post enc Try.prog Try.f6 false true false false W args v W' := by
  have hW' := hW
  have hlt : ∀ p ∈ before, p.block < W.heap.size := fun p hp => hW.lt p hp
  obtain ⟨p, q, hA0, hV, rfl, hfz, hnd⟩ := hW
  have hA : DataW.TrodAll enc Try.prog W 0 (fun _ => true) true Try.f6.params.toList args.toList ds p := hA0
  rw [Try.params6] at hA hval
  obtain ⟨v0, v1, d0, d1, p0, p1, rfl, rfl, rfl, h0, h1⟩ := trodAll_two hA
  obtain ⟨rfl, rfl⟩ := trodVars_none hV
  obtain ⟨a, ha, hai⟩ := runs_arg (hval 0 22 v0 rfl rfl) h0
  obtain ⟨m, rfl, rfl, rfl, wm⟩ := open_int Try.underlying3 (hval 1 3 v1 rfl rfl) h1
  clear hA0
  simp only [List.append_nil] at hW' hlt
  refine (takes_walk W v0 a m ha hai).mono fun e W' ⟨he, ho⟩ => ?_
  subst he
  have hb : Below W.heap.size W W' := ho.toBelow fun _ h => h
  exact ⟨_, rfl, post_new (pa := p0 ++ []) (pv := []) hW' (fun _ _ _ => trodAll_mk1 (shut_bool Try.underlying4 _))
    (fun sp hsp => trodAll_mk2
      (later (by kernel_rfl) (of_decide_eq_true (by kernel_rfl)) h0 hb (fun x hx => hlt x (by simp [hx])) (fun x hx => hsp x (by simp [hx])))
      (shut_int Try.underlying3 wm))
    (fun _ _ => rfl) (by simp) hb⟩

set_option maxRecDepth 100000 in
theorem takes_lifted (os : Os) (started : os.Started) (H : Type) (enc : TypeId × Value → H) :
    ReturnsInHanded {} Try.checked os 6 .any (Rows.runTakesSpec.pre6 enc Try.prog Try.f6 Rows.runTakesRow.domain false) (Rows.runTakesSpec.post enc Try.prog Try.f6 false true false false) := by
  refine returnsInHanded_of_change (C := Try.checked) Try.own started (by kernel_rfl) Try.func6
    (ChangeSpec.witness6 (enc := enc) (C := Try.checked) false ⟨#[], #[.slice none 0 0, .int .i64 0], []⟩ 8 (by kernel_rfl) (by kernel_rfl) (by kernel_rfl) (by kernel_rfl)) ?_
  intro W base args ds gs before hval hW _ _
  exact takes_contract H enc W base args ds gs before hval hW

theorem takes_holds : Rows.RunTakesSaid :=
  OpenClaim.holds_of_wide 6 Try.f6 rfl rfl rfl rfl rfl rfl rfl ⟨rfl, rfl, rfl, rfl, rfl⟩ rfl rfl rfl rfl rfl (by kernel_rfl) Try.func6 (by kernel_rfl)
    (of_decide_eq_true (by kernel_rfl)) (by unfold Func.isWrapper; first | (rw [if_pos (by decide +kernel)]; kernel_rfl) | (rw [if_neg (by decide +kernel)]; exact ⟨rfl, rfl⟩))
    (fun os started H enc _ => takes_lifted os started H enc)

end Go.Proofs.Ytjnaejogclmooaa
