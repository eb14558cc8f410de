/-
  An argument read: a script.
-/
import Derived.Test.YtmkpcdcdhheokaaFew
import Derived.Test.YtmkpcdcdhheokaaOpnb
import Derived.SizedLaws
import Derived.ProofKit
import Derived.Deep.Slices
import Derived.Deep.Fields
import Derived.ChangeSame
set_option linter.unusedVariables false
namespace Go.Proofs.Ytmkpcdcdhheokaa
open Go.ChangeShapes Go.WideShapes Go.ChangeAt Go.RowKit Go.Deep

section
variable {H : Type} {enc : TypeId × Value → H} {w : World}
theorem bytes_weight {fuel : Nat} {A : Option Addr} {n c : Nat} {x : DataW H × List MemPlace} (h : DataW.trod enc Try.prog w 0 (fun _ => true) true fuel 27 [.slice A n c] = some x) (hr : ∀ m ∈ x.1.weights Try.prog 27, m ≤ reachBytes) : c ≤ reachBytes := by
  rcases open_slice Try.underlying27 h with ⟨hcs, _⟩ | ⟨a, len, cap, m, k, D, Pl, hcs, _, hl, _, hmm, hx, _⟩
  · injection hcs with hcs _
    injection hcs with _ _ hc
    rw [hc]
    exact Nat.zero_le _
  · injection hcs with hcs _
    injection hcs with _ _ hc
    have hm : m = cap := by simpa using hmm
    have hb : Try.prog.bytesOf 5 = 1 := by kernel_rfl
    have := hr ((((List.range len).map D).length + ((List.range (m - len)).map fun j => D (len + j)).length) * Try.prog.bytesOf 5) (by rw [hx]; simp [DataW.weights, Try.underlying27])
    simp only [List.length_map, List.length_range, hb, Nat.mul_one] at this
    omega

theorem weightsAll_mem {P : Program} {e : TypeId} : ∀ {ds : List (DataW H)} {d : DataW H}, d ∈ ds → ∀ n ∈ d.weights P e, n ∈ DataW.weightsAll P e ds
  | d0 :: ds, d, h, n, hn => by
    simp only [DataW.weightsAll, List.mem_append]
    rcases List.mem_cons.1 h with rfl | h
    · exact .inl hn
    · exact .inr (weightsAll_mem h n hn)

theorem spot_of {w : World} {a : Addr} {v : Value} (h : w.cell? (a.add 0) = some v) : a = ⟨a.block, a.off, none⟩ := by
  have e : a.add 0 = a := by cases a; simp [Addr.add]
  rw [e] at h
  unfold World.cell? at h
  split at h
  · split at h
    · cases h
    · rename_i hs
      cases a
      simp at hs ⊢
      exact hs
  · cases h

theorem script_open {fuel : Nat} {cs : List Value} {x : DataW H × List MemPlace} (h : DataW.trod enc Try.prog w 0 (fun _ => true) true fuel 22 cs = some x) (hr : ∀ m ∈ x.1.weights Try.prog 22, m ≤ reachBytes) :
    ∃ (A : Option Addr) (n c : Nat) (l : List Cl), cs = [.slice A n c] ∧ Script w A n l ∧ n ≤ 140737488355328 := by
  have hrb := reachBytes_lt
  rcases open_slice Try.underlying22 h with ⟨hcs, _⟩ | ⟨a, len, cap, m, n, D, Pl, hcs, _, hl, hm, hmm, hx, hi⟩
  · exact ⟨none, 0, 0, [], hcs, ⟨rfl, fun o ho => by simp at ho, fun h => absurd h (by decide)⟩, by omega⟩
  · have hm' : m = cap := by simpa using hmm
    have h5 : Try.prog.cellsOf 32 = 4 := by kernel_rfl
    rw [h5] at hi
    have hspot : 0 < len → a = ⟨a.block, a.off, none⟩ := by
      intro h0
      obtain ⟨cs', hc, _⟩ := hi 0 (by omega)
      obtain ⟨_, hcl, hat⟩ := World.cells?_some hc
      have e : a.add (0 * 4) = a := by cases a; simp [Addr.add]
      rw [e] at hat
      have h1 := hat 0 (by omega)
      rw [List.getElem?_eq_getElem (by omega)] at h1
      exact spot_of h1
    have each : ∀ i, i < len → ∃ o : Cl, o.Ok w ∧ a = ⟨a.block, a.off, none⟩ ∧ a.block < w.heap.size ∧ w.rangeAt a.block (a.off + i * 4) o.cells := by
      intro i hil
      obtain ⟨cs', hc, ht⟩ := hi i (by omega)
      obtain ⟨_, hcl, hat⟩ := World.cells?_some hc
      obtain ⟨ys, n', _, hy, _, hyl, hf⟩ := DataW.trod_struct Try.underlying32 ht
      have c3 : Try.prog.cellsOf 3 = 1 := by kernel_rfl
      have c22 : Try.prog.cellsOf 27 = 1 := by kernel_rfl
      have hyl5 : ys.length = 4 := hyl
      match cs', hcl with
      | [v0, v1, v2, v3], _ =>
        have t0 : DataW.trod enc Try.prog w 0 (fun _ => true) true n' 3 (([v0, v1, v2, v3].drop 0).take (Try.prog.cellsOf 3)) = ys[0]? := hf 0 _ rfl
        have t1 : DataW.trod enc Try.prog w 0 (fun _ => true) true n' 3 (([v0, v1, v2, v3].drop 1).take (Try.prog.cellsOf 3)) = ys[1]? := hf 1 _ rfl
        have t2 : DataW.trod enc Try.prog w 0 (fun _ => true) true n' 3 (([v0, v1, v2, v3].drop 2).take (Try.prog.cellsOf 3)) = ys[2]? := hf 2 _ rfl
        have t3 : DataW.trod enc Try.prog w 0 (fun _ => true) true n' 27 (([v0, v1, v2, v3].drop 3).take (Try.prog.cellsOf 27)) = ys[3]? := hf 3 _ rfl
        rw [c3, List.getElem?_eq_getElem (by omega)] at t0 t1 t2
        rw [c22, List.getElem?_eq_getElem (by omega)] at t3
        obtain ⟨k, e0, k1, k2⟩ := int_open t0
        obtain ⟨a', e1, a1, a2⟩ := int_open t1
        obtain ⟨mm, e2, m1, m2⟩ := int_open t2
        obtain ⟨B, nB, cB, xs, e3, b1, b2, b3, b4, b5⟩ := bytes_open t3
        simp only [List.drop_zero, List.drop_succ_cons, List.take_succ_cons, List.take_zero, List.cons.injEq, and_true] at e0 e1 e2 e3
        subst e0 e1 e2 e3
        have h00 : w.cell? ((a.add (i * 4)).add 0) = some (.int .i64 k) := hat 0 (by omega)
        have hblt := World.block_lt_of_cell? w _ h00
        rw [add_block', add_block'] at hblt
        have hasp := hspot (by omega)
        have hw := bytes_weight (n := nB) (by simpa using t3) (fun q hq => hr q (by
          rw [hx]
          simp only [DataW.weights, Try.underlying22]
          refine List.mem_cons_of_mem _ (List.mem_append_left _ (weightsAll_mem (d := D i) (List.mem_map_of_mem (List.mem_range.2 hil)) q ?_))
          simp only [Prod.mk.injEq] at hy
          rw [hy.1]
          simp only [DataW.weights, Try.underlying32]
          refine DataW.weights_mem_each (j := 3) (t := 27) (d := ys[3].1) rfl ?_ q hq
          rw [List.getElem?_map, List.getElem?_eq_getElem (by omega)]
          rfl))
        subst b4
        refine ⟨⟨k, a', mm, B, cB, xs⟩, ⟨⟨k1, k2⟩, ⟨a1, a2⟩, ⟨m1, m2⟩, ⟨B, cB, rfl, ⟨rfl, fun h0 => ?_⟩, fun e => (b3 e).2, b1, by simp only [maxLen] at b2; omega⟩, ?_⟩, hasp, hblt, ?_⟩
        · obtain ⟨ad, q1, _, q3⟩ := b5 h0
          exact ⟨ad, q1, q3⟩
        · show xs.length ≤ _
          omega
        intro j v hv
        have hj : j < 4 := by
          have := (List.getElem?_eq_some_iff.1 hv).1
          simpa [Cl.cells] using this
        have := hat j hj
        rw [hasp, Addr.add_mid, Addr.add_mid] at this
        rw [this]
        exact hv
    obtain ⟨l, hll, hlp⟩ := list_of _ len each
    have hal : ∀ o ∈ l, o.Ok w := by
      intro o ho
      obtain ⟨i, hi'⟩ := List.getElem?_of_mem ho
      exact (hlp i o hi').1
    have hlen : len ≤ 140737488355328 := by
      have hb : 1 ≤ Try.prog.bytesOf 32 := by rw [show Try.prog.bytesOf 32 = 48 by kernel_rfl]; decide
      have := hr ((((List.range len).map D).length + ((List.range (m - len)).map fun j => D (len + j)).length) * Try.prog.bytesOf 32) (by rw [hx]; simp [DataW.weights, Try.underlying22])
      simp only [List.length_map, List.length_range] at this
      have h2 := Nat.le_mul_of_pos_right (len + (m - len)) hb
      omega
    refine ⟨some a, len, cap, l, hcs, ⟨hll, hal, fun h0 => ?_⟩, hlen⟩
    obtain ⟨o, ho⟩ : ∃ o, l[0]? = some o := ⟨_, List.getElem?_eq_getElem (by omega)⟩
    obtain ⟨_, e1, e2, _⟩ := hlp 0 o ho
    exact ⟨a.block, a.off, by rw [← e1], e2, fun k o hk => (hlp k o hk).2.2.2⟩

end
end Go.Proofs.Ytmkpcdcdhheokaa
