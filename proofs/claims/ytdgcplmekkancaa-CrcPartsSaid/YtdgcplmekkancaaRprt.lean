/-
  Proved: CrcPartsSaid: whatever the row of byte slices, the law CrcParts returns true, and the argument reads behind the call as it read before. No condition of ours.
-/
import Derived.Test.YtdgcplmekkancaaPart
import Derived.Test.YtdgcplmekkancaaOpen
import Derived.SizedLaws
set_option linter.unusedVariables false
namespace Go.Proofs.Ytdgcplmekkancaa
open Go.ChangeShapes Go.WideShapes Go.ChangeAt Go.RowKit Go.Deep

section
variable {H : Type} {enc : TypeId × Value → H} {w : World}

theorem bytes_weight {fuel : Nat} {A : Option Addr} {n c : Nat} {x : DataW H × List MemPlace} (h : DataW.trod enc Try.prog w 0 (fun _ => true) true fuel 22 [.slice A n c] = some x) (hr : ∀ m ∈ x.1.weights Try.prog 22, m ≤ reachBytes) : c ≤ reachBytes := by
  rcases open_slice Try.underlying22 h with ⟨hcs, _⟩ | ⟨a, len, cap, m, k, D, Pl, hcs, _, hl, _, hmm, hx, _⟩
  · injection hcs with hcs _
    injection hcs with _ _ hc
    rw [hc]
    exact Nat.zero_le _
  · injection hcs with hcs _
    injection hcs with _ _ hc
    have hm : m = cap := by simpa using hmm
    have hb : Try.prog.bytesOf 5 = 1 := by kernel_rfl
    have := hr ((((List.range len).map D).length + ((List.range (m - len)).map fun j => D (len + j)).length) * Try.prog.bytesOf 5) (by rw [hx]; simp [DataW.weights, Try.underlying22])
    simp only [List.length_map, List.length_range, hb, Nat.mul_one] at this
    omega

theorem weightsAll_mem {P : Program} {e : TypeId} : ∀ {ds : List (DataW H)} {d : DataW H}, d ∈ ds → ∀ n ∈ d.weights P e, n ∈ DataW.weightsAll P e ds
  | d0 :: ds, d, h, n, hn => by
    simp only [DataW.weightsAll, List.mem_append]
    rcases List.mem_cons.1 h with rfl | h
    · exact .inl hn
    · exact .inr (weightsAll_mem h n hn)

theorem parts_open {fuel : Nat} {cs : List Value} {x : DataW H × List MemPlace} (h : DataW.trod enc Try.prog w 0 (fun _ => true) true fuel 27 cs = some x) (hr : ∀ m ∈ x.1.weights Try.prog 27, m ≤ reachBytes) :
    ∃ (A : Option Addr) (n c : Nat) (l : List Pt), cs = [.slice A n c] ∧ Pts w A n l ∧ n ≤ 140737488355328 := by
  have hrb := reachBytes_lt
  rcases open_slice1 Try.underlying27 (by kernel_rfl) h with ⟨hcs, _⟩ | ⟨a, len, cap, m, k, V, D, Pl, hcs, _, hl, _, hmm, hx, hi⟩
  · exact ⟨none, 0, 0, [], hcs, ⟨rfl, fun p hp => by simp at hp, fun h => absurd h (by decide)⟩, by omega⟩
  · have hm : m = cap := by simpa using hmm
    have each : ∀ i, i < len → ∃ p : Pt, p.Ok w ∧ w.cell? (a.add i) = some (.slice p.A p.n p.c) := by
      intro i hil
      obtain ⟨hc, ht⟩ := hi i (by omega)
      obtain ⟨A', n', c', xs, e, h1, h2, h3, h4, h5⟩ := bytes_open ht
      have e' : V i = .slice A' n' c' := by simpa using e
      rw [e'] at ht hc
      have hw := bytes_weight ht (fun q hq => hr q (by
        rw [hx]
        simp only [DataW.weights, Try.underlying27]
        refine List.mem_cons_of_mem _ (List.mem_append_left _ (weightsAll_mem (d := D i) ?_ q hq))
        exact List.mem_map_of_mem (List.mem_range.2 hil)))
      refine ⟨⟨A', n', c', xs⟩, ⟨⟨h4, fun h0 => ?_⟩, h1, ?_, h3⟩, hc⟩
      · obtain ⟨ad, a1, _, a3⟩ := h5 h0
        exact ⟨ad, a1, a3⟩
      · show c' ≤ _
        omega
    obtain ⟨l, hll, hlp⟩ := list_of _ len each
    have hlen : len ≤ 140737488355328 := by
      have hb : 1 ≤ Try.prog.bytesOf 22 := by rw [show Try.prog.bytesOf 22 = 24 by kernel_rfl]; decide
      have := hr ((((List.range len).map D).length + ((List.range (m - len)).map fun j => D (len + j)).length) * Try.prog.bytesOf 22) (by rw [hx]; simp [DataW.weights, Try.underlying27])
      simp only [List.length_map, List.length_range] at this
      have h2 := Nat.le_mul_of_pos_right (len + (m - len)) hb
      omega
    refine ⟨some a, len, cap, l, hcs, ⟨hll, fun p hp => ?_, fun h0 => ⟨a, rfl, ?_, fun i p hip => (hlp i p hip).2⟩⟩, hlen⟩
    · obtain ⟨i, hi'⟩ := List.getElem?_of_mem hp
      exact (hlp i p hi').1
    · obtain ⟨p, hp⟩ : ∃ p, l[0]? = some p := ⟨_, List.getElem?_eq_getElem (by omega)⟩
      have := World.block_lt_of_cell? w _ (hlp 0 p hp).2
      rwa [add_block'] at this
end

theorem parts_contract (H : Type) (enc : TypeId × Value → H) (W : World) (base : Nat) (args : Array Value) (ds gs : List (DataW H)) (before : List MemPlace)
    (hval : ∀ (j : Nat) t v, Try.f4.params[j]? = some t → args[j]? = some v → Value.okWide Try.prog W .any base t v)
    (hW : DataW.Whole enc Try.prog Try.f4.params.toList Rows.crcPartsSpec.vars false W args.toList ds gs before)
    (hz : (DataW.weightsEach Try.prog (Try.f4.params.toList ++ Rows.crcPartsSpec.plain.varTypes Try.prog) (ds ++ gs)).all (· ≤ reachBytes) = true) :
    Calls Try.prog 4 args W fun e W' => ∃ v, e = .returned v ∧ Rows.crcPartsSpec.post enc Try.prog Try.f4 false true false false W args v W' := by
  have hW' := hW
  have hlt : ∀ p ∈ before, p.block < W.heap.size := fun p hp => hW.lt p hp
  obtain ⟨p, q, hA0, hV, rfl, hfz, hnd⟩ := hW
  have hA : DataW.TrodAll enc Try.prog W 0 (fun _ => true) true Try.f4.params.toList args.toList ds p := hA0
  rw [Try.params4] at hA hval
  obtain ⟨v0, d0, rfl, rfl, h0⟩ := trodAll_one hA
  obtain ⟨rfl, rfl⟩ := trodVars_none hV
  have h0k := h0
  obtain ⟨fuel0, hf0⟩ := h0
  have hw0 : ∀ m ∈ d0.weights Try.prog 27, m ≤ reachBytes := fun m hm => by
    have := List.all_eq_true.1 hz m (DataW.weights_mem_each (j := 0) (t := 27) (d := d0) (by rw [Try.params4]; rfl) rfl m hm)
    simpa using this
  obtain ⟨A0, n0, c0, l, e0, hp0, hn0⟩ := parts_open hf0 hw0
  have hv0 : v0 = .slice A0 n0 c0 := by
    obtain ⟨a', l', c', hv⟩ := okWide_slice Try.underlying27 (hval 0 27 v0 rfl rfl)
    subst hv
    simpa [Value.cells] using e0
  subst hv0
  clear hA0
  simp only [List.append_nil] at hW' hlt
  refine (parts_walk W A0 n0 c0 l hp0 (by omega)).mono fun e W' ⟨he, ho⟩ => ?_
  subst he
  have hb : Below W.heap.size W W' := ho.toBelow fun _ h => h
  exact ⟨_, rfl, post_new (pa := p) (pv := []) hW' (fun _ _ _ => trodAll_mk1 (shut_bool Try.underlying4 _))
      (fun sp hsp => trodAll_mk1 (later (by kernel_rfl) (of_decide_eq_true (by kernel_rfl)) h0k hb hlt hsp))
      (fun _ _ => rfl) (by simp) hb⟩

set_option maxRecDepth 100000 in
theorem parts_lifted (os : Os) (started : os.Started) (H : Type) (enc : TypeId × Value → H) :
    ReturnsInHanded {} Try.checked os 4 .any (Rows.crcPartsSpec.pre6 enc Try.prog Try.f4 Rows.crcPartsRow.domain false) (Rows.crcPartsSpec.post enc Try.prog Try.f4 false true false false) := by
  refine returnsInHanded_of_change_sized (C := Try.checked) Try.own started (by kernel_rfl) Try.func4
    (ChangeSpec.witness6 (enc := enc) (C := Try.checked) false ⟨#[], #[.slice none 0 0], []⟩ 8 (by kernel_rfl) (by kernel_rfl) (by kernel_rfl) (by kernel_rfl)) ?_
  intro W base args ds gs before hval hW _ hz _
  exact parts_contract H enc W base args ds gs before hval hW hz

theorem parts_holds : Rows.CrcPartsSaid :=
  OpenClaim.holds_of_wide 4 Try.f4 rfl rfl rfl rfl rfl rfl rfl ⟨rfl, rfl, rfl, rfl, rfl⟩ rfl rfl rfl rfl rfl (by kernel_rfl) Try.func4 (by kernel_rfl)
    (of_decide_eq_true (by kernel_rfl)) (by unfold Func.isWrapper; first | (rw [if_pos (by decide +kernel)]; kernel_rfl) | (rw [if_neg (by decide +kernel)]; exact ⟨rfl, rfl⟩))
    (fun os started H enc _ => parts_lifted os started H enc)

end Go.Proofs.Ytdgcplmekkancaa
