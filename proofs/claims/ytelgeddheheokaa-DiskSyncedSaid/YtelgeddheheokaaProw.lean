/-
  Proved: DiskPicksSaid: whatever the image, the script and the bools, the law DiskPicks returns true, and each argument reads behind the call as it read before. No condition of ours.
-/
import Derived.Test.YtelgeddheheokaaPick
import Derived.Test.YtelgeddheheokaaOpen
set_option linter.unusedVariables false
namespace Go.Proofs.Ytelgeddheheokaa
open Go.ChangeShapes Go.WideShapes Go.ChangeAt Go.RowKit

section
open Go.Deep
variable {H : Type} {enc : TypeId × Value → H} {w : World}
theorem bools_src {fuel : Nat} {cs : List Value} {x : DataW H × List MemPlace} (h : DataW.trod enc Try.prog w 0 (fun _ => true) true fuel 24 cs = some x) :
    ∃ (A : Option Addr) (n c : Nat) (kl : List Bool), cs = [.slice A n c] ∧ n ≤ c ∧ c ≤ maxLen ∧ kl.length = n ∧ SrcB w (w.heap.size ≤ ·) A kl := by
  rcases open_slice1 Try.underlying24 (by kernel_rfl) h with ⟨hcs, _⟩ | ⟨a, len, cap, m, n, V, D, Pl, hcs, _, hl, hm, hmm, _, hi⟩
  · exact ⟨none, 0, 0, [], hcs, Nat.le_refl _, Nat.zero_le _, rfl, fun h => absurd h (by decide)⟩
  · have hm' : m = cap := by simpa using hmm
    have each : ∀ i, i < len → ∃ b : Bool, w.cell? (a.add i) = some (.bool b) := by
      intro i hil
      obtain ⟨hc, ht⟩ := hi i (by omega)
      obtain ⟨b, h1, _⟩ := DataW.trod_bool Try.underlying4 ht
      have h2 : V i = .bool b := by simpa using h1
      exact ⟨b, by rw [hc, h2]⟩
    obtain ⟨l, hll, hlp⟩ := list_of _ len each
    refine ⟨some a, len, cap, l, hcs, hl, hm, hll, fun h0 => ⟨a, rfl, ?_, hlp⟩⟩
    obtain ⟨b, hb⟩ := each 0 (by omega)
    have := World.block_lt_of_cell? w _ hb
    rw [add_block] at this
    simpa using this
end

theorem picks_contract (H : Type) (enc : TypeId × Value → H) (W : World) (base : Nat) (args : Array Value) (ds gs : List (DataW H)) (before : List MemPlace)
    (hval : ∀ (j : Nat) t v, Try.f6.params[j]? = some t → args[j]? = some v → Value.okWide Try.prog W .any base t v)
    (hW : DataW.Whole enc Try.prog Try.f6.params.toList Rows.diskPicksSpec.vars false W args.toList ds gs before) :
    Calls Try.prog 6 args W fun e W' => ∃ v, e = .returned v ∧ Rows.diskPicksSpec.post enc Try.prog Try.f6 false true false false W args v W' := by
  have hW' := hW
  have hlt : ∀ p ∈ before, p.block < W.heap.size := fun p hp => hW.lt p hp
  obtain ⟨p, q, hA0, hV, rfl, hfz, hnd⟩ := hW
  have hA : DataW.TrodAll enc Try.prog W 0 (fun _ => true) true Try.f6.params.toList args.toList ds p := hA0
  rw [Try.params6] at hA hval
  obtain ⟨v0, v1, v2, d0, d1, d2, p0, p1, p2, rfl, rfl, rfl, h0, h1, h2⟩ := trodAll_three hA
  obtain ⟨rfl, rfl⟩ := trodVars_none hV
  have h0k := h0
  have h1k := h1
  have h2k := h2
  obtain ⟨fuel0, hf0⟩ := h0
  obtain ⟨fuel1, hf1⟩ := h1
  obtain ⟨fuel2, hf2⟩ := h2
  obtain ⟨A0, n0, c0, xs, e0, hc0, hm0, hl0, hs0⟩ := bytes_open hf0
  obtain ⟨A1, n1, c1, l, e1, hscr⟩ := script_open hf1
  obtain ⟨A2, n2, c2, kl, e2, hc2, hm2, hl2, hs2⟩ := bools_src hf2
  have hv0 : v0 = .slice A0 n0 c0 := by
    obtain ⟨a', l', c', hv⟩ := okWide_slice Try.underlying22 (hval 0 22 v0 rfl rfl)
    subst hv
    simpa [Value.cells] using e0
  have hv1 : v1 = .slice A1 n1 c1 := by
    obtain ⟨a', l', c', hv⟩ := okWide_slice Try.underlying23 (hval 1 23 v1 rfl rfl)
    subst hv
    simpa [Value.cells] using e1
  have hv2 : v2 = .slice A2 n2 c2 := by
    obtain ⟨a', l', c', hv⟩ := okWide_slice Try.underlying24 (hval 2 24 v2 rfl rfl)
    subst hv
    simpa [Value.cells] using e2
  subst hv0 hv1 hv2
  clear hA0
  simp only [List.append_nil] at hW' hlt
  refine (picks_walk W A0 A1 A2 n0 c0 n1 c1 n2 c2 xs l kl ⟨by rw [cb_length, hl0], fun h => ?_⟩ hc0 hm0 hscr hs2 hl2 (by omega)).mono fun e W' ⟨he, ho⟩ => ?_
  · obtain ⟨ad, a1, a2, a3⟩ := hs0 h
    exact ⟨ad, a1, by omega, a3⟩
  · subst he
    have hb : Below W.heap.size W W' := ho.toBelow fun _ h => h
    exact ⟨_, rfl, post_new (pa := p0 ++ (p1 ++ p2)) (pv := []) hW' (fun _ _ _ => trodAll_mk1 (shut_bool Try.underlying4 _))
      (fun sp hsp => trodAll_mk3 (later (by kernel_rfl) (of_decide_eq_true (by kernel_rfl)) h0k hb (fun x hx => hlt x (by simp [hx])) (fun x hx => hsp x (by simp [hx])))
        (later (by kernel_rfl) (of_decide_eq_true (by kernel_rfl)) h1k hb (fun x hx => hlt x (by simp [hx])) (fun x hx => hsp x (by simp [hx])))
        (later (by kernel_rfl) (of_decide_eq_true (by kernel_rfl)) h2k hb (fun x hx => hlt x (by simp [hx])) (fun x hx => hsp x (by simp [hx]))))
      (fun _ _ => rfl) (by simp) hb⟩

set_option maxRecDepth 100000 in
theorem picks_lifted (os : Os) (started : os.Started) (H : Type) (enc : TypeId × Value → H) :
    ReturnsInHanded {} Try.checked os 6 .any (Rows.diskPicksSpec.pre6 enc Try.prog Try.f6 Rows.diskPicksRow.domain false) (Rows.diskPicksSpec.post enc Try.prog Try.f6 false true false false) := by
  refine returnsInHanded_of_change (C := Try.checked) Try.own started (by kernel_rfl) Try.func6
    (ChangeSpec.witness6 (enc := enc) (C := Try.checked) false ⟨#[], #[.slice none 0 0, .slice none 0 0, .slice none 0 0], []⟩ 8 (by kernel_rfl) (by kernel_rfl) (by kernel_rfl) (by kernel_rfl)) ?_
  intro W base args ds gs before hval hW _ _
  exact picks_contract H enc W base args ds gs before hval hW

theorem picks_holds : Rows.DiskPicksSaid :=
  OpenClaim.holds_of_wide 6 Try.f6 rfl rfl rfl rfl rfl rfl rfl ⟨rfl, rfl, rfl, rfl, rfl⟩ rfl rfl rfl rfl rfl (by kernel_rfl) Try.func6 (by kernel_rfl)
    (of_decide_eq_true (by kernel_rfl)) (by unfold Func.isWrapper; first | (rw [if_pos (by decide +kernel)]; kernel_rfl) | (rw [if_neg (by decide +kernel)]; exact ⟨rfl, rfl⟩))
    (fun os started H enc _ => picks_lifted os started H enc)

end Go.Proofs.Ytelgeddheheokaa
