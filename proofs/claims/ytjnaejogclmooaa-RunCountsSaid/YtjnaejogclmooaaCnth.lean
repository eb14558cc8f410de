/-
  Proved: RunCountsSaid: whatever the two rows of runs, the law RunCounts returns true, and both read behind the call as they read before. No condition of ours.
-/
import Derived.Test.YtjnaejogclmooaaRcnt
import Derived.Test.YtjnaejogclmooaaOpen
set_option linter.unusedVariables false
namespace Go.Proofs.Ytjnaejogclmooaa
open Go.ChangeShapes Go.WideShapes Go.ChangeAt Go.RowKit

set_option maxRecDepth 100000 in
set_option maxHeartbeats 6400000 in
theorem counts_walk (w : World) (v u : Value) (a b : List R) (h : Row w v a) (h' : Row w u b) (hra : ∀ x ∈ a, I64 x) (hrb : ∀ x ∈ b, I64 x) :
    Calls Try.prog 9 #[v, u] w (Told w (.bool true)) := by
  obtain ⟨sa, hsa⟩ : ∃ s, s = short a := ⟨_, rfl⟩
  obtain ⟨sb, hsb⟩ : ∃ s, s = short b := ⟨_, rfl⟩
  have HO : Hid (Only (w.heap.size ≤ ·) w w) := Only.refl _ w
  have HA := Lib.hid h
  have HB := Lib.hid h'
  have HSA := Lib.hid hsa
  have HSB := Lib.hid hsb
  cases sa
  · clear h h' hra hrb hsa hsb
    go_enter Try.func9, Try.ntmps9
    go_wp2_with (first
      | (go_at_call 10; (with_reducible refine (few_b _ _ _ _ HA.out HSA.out).mono ?_); rintro e w1 ⟨rfl, ho⟩; (try replace HA := Lib.hid (HA.out.later ho)); (try replace HB := Lib.hid (HB.out.later ho)); replace HO := Lib.hid (on_new HO.out ho); clear ho)
      | (go_at_call 11; (with_reducible refine (alive_c _).mono ?_); rintro e w2 ⟨rfl, ho⟩; (try replace HA := Lib.hid (HA.out.later ho)); (try replace HB := Lib.hid (HB.out.later ho)); replace HO := Lib.hid (on_new HO.out ho); clear ho))
    go_ret
    exact ⟨rfl, HO.out⟩
  cases sb
  · clear h h' hra hrb hsa hsb
    go_enter Try.func9, Try.ntmps9
    go_wp2_with (first
      | (go_at_call 10; (with_reducible refine (few_b _ _ _ _ HA.out HSA.out).mono ?_); rintro e w1 ⟨rfl, ho⟩; (try replace HA := Lib.hid (HA.out.later ho)); (try replace HB := Lib.hid (HB.out.later ho)); replace HO := Lib.hid (on_new HO.out ho); clear ho)
      | (go_at_call 10; (with_reducible refine (few_b _ _ _ _ HB.out HSB.out).mono ?_); rintro e w2 ⟨rfl, ho⟩; (try replace HA := Lib.hid (HA.out.later ho)); (try replace HB := Lib.hid (HB.out.later ho)); replace HO := Lib.hid (on_new HO.out ho); clear ho)
      | (go_at_call 11; (with_reducible refine (alive_c _).mono ?_); rintro e w3 ⟨rfl, ho⟩; (try replace HA := Lib.hid (HA.out.later ho)); (try replace HB := Lib.hid (HB.out.later ho)); replace HO := Lib.hid (on_new HO.out ho); clear ho))
    go_ret
    exact ⟨rfl, HO.out⟩
  exact counts_good w v u a b h h' hra hrb hsa hsb

set_option maxRecDepth 100000 in
theorem counts_contract (H : Type) (enc : TypeId × Value → H) (W : World) (base : Nat) (args : Array Value) (ds gs : List (DataW H)) (before : List MemPlace)
    (hval : ∀ (j : Nat) t v, Try.f9.params[j]? = some t → args[j]? = some v → Value.okWide Try.prog W .any base t v)
    (hW : DataW.Whole enc Try.prog Try.f9.params.toList Rows.runCountsSpec.vars false W args.toList ds gs before) :
    Calls Try.prog 9 args W fun e W' => ∃ v, e = .returned v ∧ Rows.runCountsSpec.post enc Try.prog Try.f9 false true false false W args v W' := by
  have hW' := hW
  have hlt : ∀ p ∈ before, p.block < W.heap.size := fun p hp => hW.lt p hp
  obtain ⟨p, q, hA0, hV, rfl, hfz, hnd⟩ := hW
  have hA : DataW.TrodAll enc Try.prog W 0 (fun _ => true) true Try.f9.params.toList args.toList ds p := hA0
  rw [Try.params9] at hA hval
  obtain ⟨v0, v1, d0, d1, p0, p1, rfl, rfl, rfl, h0, h1⟩ := trodAll_two hA
  obtain ⟨rfl, rfl⟩ := trodVars_none hV
  obtain ⟨a, ha, hai⟩ := runs_arg (hval 0 22 v0 rfl rfl) h0
  obtain ⟨b, hb', hbi⟩ := runs_arg (hval 1 22 v1 rfl rfl) h1
  clear hA0
  simp only [List.append_nil] at hW' hlt
  refine (counts_walk W v0 v1 a b ha hb' hai hbi).mono fun e W' ⟨he, ho⟩ => ?_
  subst he
  have hb : Below W.heap.size W W' := ho.toBelow fun _ h => h
  exact ⟨_, rfl, post_new (pa := p0 ++ p1) (pv := []) hW' (fun _ _ _ => trodAll_mk1 (shut_bool Try.underlying4 _))
    (fun sp hsp => trodAll_mk2
      (later (by kernel_rfl) (of_decide_eq_true (by kernel_rfl)) h0 hb (fun x hx => hlt x (List.mem_append_left _ hx)) (fun x hx => hsp x (by simp [hx])))
      (later (by kernel_rfl) (of_decide_eq_true (by kernel_rfl)) h1 hb (fun x hx => hlt x (List.mem_append_right _ hx)) (fun x hx => hsp x (by simp [hx]))))
    (fun _ _ => rfl) (by simp) hb⟩

set_option maxRecDepth 100000 in
theorem counts_lifted (os : Os) (started : os.Started) (H : Type) (enc : TypeId × Value → H) :
    ReturnsInHanded {} Try.checked os 9 .any (Rows.runCountsSpec.pre6 enc Try.prog Try.f9 Rows.runCountsRow.domain false) (Rows.runCountsSpec.post enc Try.prog Try.f9 false true false false) := by
  refine returnsInHanded_of_change (C := Try.checked) Try.own started (by kernel_rfl) Try.func9
    (ChangeSpec.witness6 (enc := enc) (C := Try.checked) false ⟨#[], #[.slice none 0 0, .slice none 0 0], []⟩ 8 (by kernel_rfl) (by kernel_rfl) (by kernel_rfl) (by kernel_rfl)) ?_
  intro W base args ds gs before hval hW _ _
  exact counts_contract H enc W base args ds gs before hval hW

theorem counts_holds : Rows.RunCountsSaid :=
  OpenClaim.holds_of_wide 9 Try.f9 rfl rfl rfl rfl rfl rfl rfl ⟨rfl, rfl, rfl, rfl, rfl⟩ rfl rfl rfl rfl rfl (by kernel_rfl) Try.func9 (by kernel_rfl)
    (of_decide_eq_true (by kernel_rfl)) (by unfold Func.isWrapper; first | (rw [if_pos (by decide +kernel)]; kernel_rfl) | (rw [if_neg (by decide +kernel)]; exact ⟨rfl, rfl⟩))
    (fun os started H enc _ => counts_lifted os started H enc)

end Go.Proofs.Ytjnaejogclmooaa
