/-
  Top Tpw Cuw Cux Cuy Crg Cre Ctr Cal Cam Cfe Cit Csz Clb Coa: as one text.
-/
import Derived.Test.YtnjhpjpeeehagaaTnm
import Derived.OpenShut
import Derived.SizedLaws
import Derived.ProofKit
import Derived.Deep.Slices
import Derived.Deep.Fields
import Derived.ChangeSame
import Derived.Test.YtnjhpjpeeehagaaTlv
import Derived.Test.YtnjhpjpeeehagaaTkq
import Derived.Test.YtnjhpjpeeehagaaTst
import Derived.Test.YtnjhpjpeeehagaaTfw
import Derived.Test.YtnjhpjpeeehagaaGe
import Derived.RangeFuncNested
import Derived.RangeFuncBound
import Derived.RangeFuncCalls
import Derived.RangeFuncLeaves
import Derived.RangeFuncBox
import Derived.Shelf.Abstract
import Derived.OwnWalkIn
import Derived.TacticsInMore
import Derived.LoopNIn
import Derived.LoopIn
import Derived.Lib.SmallJoins
/-
  The arguments read: named nodes, items, bytes, a number; how great they can be; the rows' last step.
-/
set_option linter.unusedVariables false
namespace Go.Proofs.Ytnjhpjpeeehagaa
open Go.ChangeShapes Go.WideShapes Go.ChangeAt Go.RowKit Go.Deep

theorem Try.own : ownKnob Try.prog.godebug = none := by kernel_rfl
theorem Try.laidOut : laidOutB Try.prog = true := by kernel_rfl
theorem weightsAll_mem {H : Type} {P : Program} {e : TypeId} : ∀ {ds : List (DataW H)} {d : DataW H}, d ∈ ds → ∀ n ∈ d.weights P e, n ∈ DataW.weightsAll P e ds
  | x :: r, d, h, n, hn => by
    simp only [DataW.weightsAll, List.mem_append]
    rcases List.mem_cons.1 h with rfl | h
    · exact .inl hn
    · exact .inr (weightsAll_mem h n hn)
def OkB (xs : Bytes) : Prop := xs.length ≤ 140737488355328
def OkI (y : It) : Prop := OkB y.1 ∧ OkB y.2.1 ∧ (-9223372036854775808 ≤ y.2.2.1 ∧ y.2.2.1 ≤ 9223372036854775807) ∧ (-9223372036854775808 ≤ y.2.2.2 ∧ y.2.2.2 ≤ 9223372036854775807)
def OkK (y : Kd) : Prop := OkB y.1 ∧ -9223372036854775808 ≤ y.2 ∧ y.2 ≤ 9223372036854775807
def OkN (x : Nm) : Prop := (x.2.its.length ≤ 70368744177664 ∧ x.2.kds.length ≤ 70368744177664) ∧ (∀ y ∈ x.2.its, OkI y) ∧ ∀ y ∈ x.2.kds, OkK y
section
variable {H : Type} {enc : TypeId × Value → H} {w : World}
theorem int_open {fuel : Nat} {cs : List Value} {x : DataW H × List MemPlace} (h : DataW.trod enc Try.prog w 0 (fun _ => true) true fuel 3 cs = some x) :
    ∃ n : Int, cs = [.int .i64 n] ∧ -9223372036854775808 ≤ n ∧ n ≤ 9223372036854775807 := by
  obtain ⟨n, hcs, _, hw⟩ := DataW.trod_int Try.underlying3 h
  have hr : -9223372036854775808 ≤ n ∧ n ≤ 9223372036854775807 := by simpa [Lit.wf, IntKind.min, IntKind.max, IntKind.signed, IntKind.bits] using hw
  exact ⟨n, hcs, hr⟩
theorem bytes_open {fuel : Nat} {cs : List Value} {x : DataW H × List MemPlace} (h : DataW.trod enc Try.prog w 0 (fun _ => true) true fuel 34 cs = some x) :
    ∃ (A : Option Addr) (n c : Nat) (xs : Bytes), cs = [.slice A n c] ∧ xs.length = n ∧ Src w (.slice A n c) xs ∧ ((∀ q ∈ x.1.weights Try.prog 34, q ≤ reachBytes) → OkB xs) := by
  rcases open_ints Try.underlying34 Try.underlying5 (by kernel_rfl) h with ⟨hcs, _⟩ | ⟨a, len, cap, zs, hcs, _, hl, hm, hz, hx, hc, hw⟩
  · exact ⟨none, 0, 0, [], hcs, rfl, Src.nil_ w, fun _ => Nat.zero_le _⟩
  · have hz' : zs.length = cap := by simpa using hz
    have hxl : ((zs.take len).map (fun n => UInt8.ofNat n.toNat)).length = len := by simp; omega
    refine ⟨some a, len, cap, (zs.take len).map (fun n => UInt8.ofNat n.toNat), hcs, hxl, ⟨some a, cap, by rw [hxl], ⟨rfl, fun h0 => ⟨a, rfl, ?_⟩⟩, (fun e => by cases e), by rw [hxl]; exact hl, by simp only [maxLen] at hm; omega⟩, fun hq => ?_⟩
    case refine_2 =>
      have h1 := hq (((lits IntKind.u8 (zs.take len)).length + (lits IntKind.u8 (zs.drop len)).length) * Try.prog.bytesOf 5) (by rw [hx]; simp only [DataW.weights, Try.underlying34]; exact List.mem_cons_self)
      rw [show Try.prog.bytesOf 5 = 1 by kernel_rfl, Nat.mul_one] at h1
      have h2 := reachBytes_lt
      have h3 : (lits (H := H) IntKind.u8 (zs.take len)).length = len := by simp [lits]; omega
      unfold OkB
      rw [hxl]
      omega
    intro j u hu
    simp only [cb, List.getElem?_map, List.map_map] at hu
    have hj : j < len := by
      rcases Nat.lt_or_ge j len with h | h
      · exact h
      · rw [List.getElem?_eq_none (by simp; omega)] at hu; cases hu
    rw [List.getElem?_take, if_pos hj, List.getElem?_eq_getElem (by omega)] at hu
    simp only [Option.map_some, Option.some.injEq, Function.comp] at hu
    rw [hc j (by omega), ← hu]
    have hwf := hw zs[j] (List.getElem_mem (by omega))
    have hr : 0 ≤ zs[j] ∧ zs[j] ≤ 255 := by simpa [Lit.wf, IntKind.min, IntKind.max, IntKind.signed, IntKind.bits] using hwf
    rw [List.getD_eq_getElem?_getD, List.getElem?_eq_getElem (by omega)]
    simp
    omega
theorem item_open {fuel : Nat} {cs : List Value} {x : DataW H × List MemPlace} (hcl : cs.length = 4) (h : DataW.trod enc Try.prog w 0 (fun _ => true) true fuel 44 cs = some x) :
    ∃ y, itE.At w y cs ∧ ((∀ q ∈ x.1.weights Try.prog 44, q ≤ reachBytes) → OkI y) := by
  obtain ⟨v0, v1, v2, v3, rfl⟩ : ∃ v0 v1 v2 v3, cs = [v0, v1, v2, v3] := by
    match cs, hcl with
    | [v0, v1, v2, v3], _ => exact ⟨v0, v1, v2, v3, rfl⟩
  obtain ⟨ys, n', _, hy, _, hyl, hf⟩ := DataW.trod_struct Try.underlying44 h
  have c3 : Try.prog.cellsOf 3 = 1 := by kernel_rfl
  have c25 : Try.prog.cellsOf 34 = 1 := by kernel_rfl
  have hyl' : ys.length = 4 := hyl
  obtain ⟨y0, y1, y2, y3, rfl⟩ : ∃ y0 y1 y2 y3, ys = [y0, y1, y2, y3] := by
    match ys, hyl' with
    | [y0, y1, y2, y3], _ => exact ⟨y0, y1, y2, y3, rfl⟩
  have t0 : DataW.trod enc Try.prog w 0 (fun _ => true) true n' 34 (([v0, v1, v2, v3].drop 0).take (Try.prog.cellsOf 34)) = some y0 := hf 0 _ rfl
  have t1 : DataW.trod enc Try.prog w 0 (fun _ => true) true n' 34 (([v0, v1, v2, v3].drop 1).take (Try.prog.cellsOf 34)) = some y1 := hf 1 _ rfl
  have t2 : DataW.trod enc Try.prog w 0 (fun _ => true) true n' 3 (([v0, v1, v2, v3].drop 2).take (Try.prog.cellsOf 3)) = some y2 := hf 2 _ rfl
  have t3 : DataW.trod enc Try.prog w 0 (fun _ => true) true n' 3 (([v0, v1, v2, v3].drop 3).take (Try.prog.cellsOf 3)) = some y3 := hf 3 _ rfl
  rw [c25] at t0 t1
  rw [c3] at t2 t3
  obtain ⟨A, n, c, xs, e0, hx, sx, wx⟩ := bytes_open t0
  obtain ⟨B, m, d, zs, e1, hz, sz, wz⟩ := bytes_open t1
  obtain ⟨s, e2, hs⟩ := int_open t2
  obtain ⟨r, e3, hr⟩ := int_open t3
  simp only [List.drop_zero, List.drop_succ_cons, List.take_succ_cons, List.take_zero, List.cons.injEq, and_true] at e0 e1 e2 e3
  subst e0 e1 e2 e3
  subst hx hz
  refine ⟨(xs, zs, s, r), ⟨A, c, B, d, rfl, sx, sz⟩, fun hq => ⟨wx fun q h => hq q ?_, wz fun q h => hq q ?_, hs, hr⟩⟩
  · rw [hy]
    simp only [DataW.weights, Try.underlying44]
    exact DataW.weights_mem_each (j := 0) (t := 34) (d := y0.1) rfl rfl q h
  · rw [hy]
    simp only [DataW.weights, Try.underlying44]
    exact DataW.weights_mem_each (j := 1) (t := 34) (d := y1.1) rfl rfl q h

theorem list_of {α : Type} (P : Nat → α → Prop) : ∀ n : Nat, (∀ i, i < n → ∃ o, P i o) → ∃ l : List α, l.length = n ∧ ∀ i o, l[i]? = some o → P i o
  | 0, _ => ⟨[], rfl, fun i o h => by simp at h⟩
  | n + 1, h => by
    obtain ⟨l, hl, hp⟩ := list_of P n (fun i hi => h i (by omega))
    obtain ⟨o, ho⟩ := h n (by omega)
    refine ⟨l ++ [o], by simp [hl], fun i o' hi => ?_⟩
    rw [List.getElem?_append] at hi
    split at hi
    · exact hp i o' hi
    · rename_i hlt
      have : i - l.length = 0 := by
        rcases Nat.eq_zero_or_pos (i - l.length) with h | h
        · exact h
        · rw [List.getElem?_eq_none (by simp; omega)] at hi; cases hi
      have hin : i = n := by omega
      rw [this] at hi
      simp at hi
      subst hi hin
      exact ho
theorem spot_of {w : World} {a : Addr} {v : Value} (h : w.cell? (a.add 0) = some v) : a = ⟨a.block, a.off, none⟩ := by
  have e : a.add 0 = a := by cases a; simp [Addr.add]
  rw [e] at h
  unfold World.cell? at h
  split at h
  · split at h
    · cases h
    · rename_i hs
      cases a
      simp at hs ⊢
      exact hs
  · cases h
theorem flat_at {z : Nat} : ∀ {L : List (List Value)}, (∀ c ∈ L, c.length = z) → ∀ {j : Nat} {u : Value}, L.flatten[j]? = some u → ∃ (i r : Nat) (c : List Value), L[i]? = some c ∧ c[r]? = some u ∧ j = i * z + r
  | [], _, j, u, h => by simp at h
  | c :: L, hl, j, u, h => by
    have hc : c.length = z := hl c (by simp)
    rw [List.flatten_cons, List.getElem?_append] at h
    split at h
    · exact ⟨0, j, c, rfl, h, by simp⟩
    · obtain ⟨i, r, d, h1, h2, h3⟩ := flat_at (fun d hd => hl d (List.mem_cons_of_mem _ hd)) h
      refine ⟨i + 1, r, d, by simpa using h1, h2, ?_⟩
      rw [Nat.succ_mul]
      omega
theorem flat_len {z : Nat} : ∀ {L : List (List Value)}, (∀ c ∈ L, c.length = z) → L.flatten.length = L.length * z
  | [], _ => by simp
  | c :: L, hl => by
    have hc : c.length = z := hl c (by simp)
    have := flat_len (L := L) fun d hd => hl d (List.mem_cons_of_mem _ hd)
    rw [List.flatten_cons, List.length_append, List.length_cons, Nat.succ_mul]
    omega
theorem den_flat {α : Type} {At : α → List Value → Prop} : ∀ {L : List (α × List Value)}, (∀ p ∈ L, At p.1 p.2) → Den At (L.map (·.1)) ((L.map (·.2)).flatten)
  | [], _ => rfl
  | p :: L, h => ⟨p.2, _, by simp, h p (by simp), den_flat fun q hq => h q (List.mem_cons_of_mem _ hq)⟩
theorem rw_open {α : Type} (E : El α) (Q : α → Prop) {t e : TypeId} (ht : Try.prog.underlying t = some (.slice e)) (hz : Try.prog.cellsOf e = E.z) (hz0 : 0 < E.z)
    (open1 : ∀ {fuel : Nat} {cs : List Value} {x : DataW H × List MemPlace}, cs.length = E.z → DataW.trod enc Try.prog w 0 (fun _ => true) true fuel e cs = some x → ∃ y, E.At w y cs ∧ ((∀ q ∈ x.1.weights Try.prog e, q ≤ reachBytes) → Q y))
    {fuel : Nat} {cs : List Value} {x : DataW H × List MemPlace} (h : DataW.trod enc Try.prog w 0 (fun _ => true) true fuel t cs = some x) :
    ∃ (A : Option Addr) (n c : Nat) (l : List α), cs = [.slice A n c] ∧ Rw E w (.slice A n c) l ∧ n = l.length ∧ ((∀ q ∈ x.1.weights Try.prog t, q ≤ reachBytes) → n * Try.prog.bytesOf e ≤ reachBytes ∧ ∀ y ∈ l, Q y) := by
  rcases open_slice ht h with ⟨hcs, _⟩ | ⟨a, len, cap, m, n, D, Pl, hcs, _, hl, hm, hmm, hx, hi⟩
  · exact ⟨none, 0, 0, [], hcs, Rw.nil_ w, rfl, fun _ => ⟨by rw [Nat.zero_mul]; exact Nat.zero_le _, fun y hy => nomatch hy⟩⟩
  · have hm' : m = cap := by simpa using hmm
    rw [hz] at hi
    have hspot : 0 < len → a = ⟨a.block, a.off, none⟩ := by
      intro h0
      obtain ⟨cs', hc, _⟩ := hi 0 (by omega)
      obtain ⟨_, hcl, hat⟩ := World.cells?_some hc
      have e : a.add (0 * E.z) = a := by cases a; simp [Addr.add]
      rw [e] at hat
      have h1 := hat 0 (by omega)
      rw [List.getElem?_eq_getElem (by omega)] at h1
      exact spot_of h1
    have each : ∀ i, i < len → ∃ o : α × List Value, (E.At w o.1 o.2 ∧ ((∀ q ∈ (D i).weights Try.prog e, q ≤ reachBytes) → Q o.1)) ∧ a = ⟨a.block, a.off, none⟩ ∧ a.block < w.heap.size ∧ ∀ r u, o.2[r]? = some u → w.cell? ⟨a.block, a.off + i * E.z + r, none⟩ = some u := by
      intro i hil
      obtain ⟨cs', hc, ht'⟩ := hi i (by omega)
      obtain ⟨_, hcl, hat⟩ := World.cells?_some hc
      obtain ⟨y, hy, hqy⟩ := open1 hcl ht'
      have hasp := hspot (by omega)
      have h0 := hat 0 (by omega)
      rw [List.getElem?_eq_getElem (by omega)] at h0
      have hblt := World.block_lt_of_cell? w _ h0
      rw [hasp, Addr.add_lit, Addr.add_lit] at hblt
      refine ⟨(y, cs'), ⟨hy, hqy⟩, hasp, hblt, fun r u hr => ?_⟩
      have hrz : r < E.z := by have := (List.getElem?_eq_some_iff.1 hr).1; simp only at this; omega
      have h1 := hat r hrz
      rw [hasp, Addr.add_lit, Addr.add_lit] at h1
      rw [h1]
      exact hr
    obtain ⟨l, hll, hlp⟩ := list_of _ len each
    have hmem : ∀ p ∈ l, E.At w p.1 p.2 := fun p hp => by
      obtain ⟨i, hi'⟩ := List.getElem?_of_mem hp
      exact (hlp i p hi').1.1
    have hlen : ∀ c ∈ l.map (·.2), c.length = E.z := fun c hc => by
      obtain ⟨p, hp, rfl⟩ := List.mem_map.1 hc
      exact E.len (hmem p hp)
    refine ⟨some a, len, cap, l.map (·.1), hcs, ⟨some a, cap, (l.map (·.2)).flatten, by rw [List.length_map, hll], den_flat hmem, fun h0 => ?_, (fun e => by cases e), by rw [List.length_map]; omega, by simp only [maxLen] at hm; omega⟩, by rw [List.length_map, hll], fun hq => ⟨?_, fun y hy => ?_⟩⟩
    case refine_3 =>
      obtain ⟨p, hp, rfl⟩ := List.mem_map.1 hy
      obtain ⟨i, hi'⟩ := List.getElem?_of_mem hp
      have hil : i < len := by rw [← hll]; exact (List.getElem?_eq_some_iff.1 hi').1
      refine (hlp i p hi').1.2 fun q h => hq q ?_
      rw [hx]
      simp only [DataW.weights, ht]
      exact List.mem_cons_of_mem _ (List.mem_append_left _ (weightsAll_mem (d := D i) (List.mem_map_of_mem (List.mem_range.2 hil)) q h))
    case refine_2 =>
      have h1 : (((List.range len).map D).length + ((List.range (m - len)).map fun j => D (len + j)).length) * Try.prog.bytesOf e ∈ x.1.weights Try.prog t := by
        rw [hx]
        simp only [DataW.weights, ht]
        exact List.mem_cons_self
      have h2 := hq _ h1
      simp only [List.length_map, List.length_range] at h2
      exact Nat.le_trans (Nat.mul_le_mul_right _ (by omega)) h2
    have hl0 : 0 < l.length := by
      rw [flat_len hlen, List.length_map] at h0
      exact Nat.pos_of_mul_pos_right h0
    obtain ⟨o, ho⟩ : ∃ o, l[0]? = some o := ⟨_, List.getElem?_eq_getElem hl0⟩
    obtain ⟨_, e1, e2, _⟩ := hlp 0 o ho
    refine ⟨a.block, a.off, by rw [← e1], e2, fun j u hu => ?_⟩
    obtain ⟨i, r, c, h1, h2, rfl⟩ := flat_at hlen hu
    rw [List.getElem?_map, Option.map_eq_some_iff] at h1
    obtain ⟨p, hp, rfl⟩ := h1
    have := (hlp i p hp).2.2.2 r u h2
    rwa [Nat.add_assoc] at this
theorem kid_open {fuel : Nat} {cs : List Value} {x : DataW H × List MemPlace} (hcl : cs.length = 2) (h : DataW.trod enc Try.prog w 0 (fun _ => true) true fuel 87 cs = some x) : ∃ y, kdE.At w y cs ∧ ((∀ q ∈ x.1.weights Try.prog 87, q ≤ reachBytes) → OkK y) := by
  obtain ⟨v0, v1, rfl⟩ : ∃ v0 v1, cs = [v0, v1] := by
    match cs, hcl with
    | [v0, v1], _ => exact ⟨v0, v1, rfl⟩
  obtain ⟨ys, n', _, hy, _, hyl, hf⟩ := DataW.trod_struct Try.underlying87 h
  have c3 : Try.prog.cellsOf 3 = 1 := by kernel_rfl
  have c25 : Try.prog.cellsOf 34 = 1 := by kernel_rfl
  have hyl' : ys.length = 2 := hyl
  obtain ⟨y0, y1, rfl⟩ : ∃ y0 y1, ys = [y0, y1] := by
    match ys, hyl' with
    | [y0, y1], _ => exact ⟨y0, y1, rfl⟩
  have t0 : DataW.trod enc Try.prog w 0 (fun _ => true) true n' 34 (([v0, v1].drop 0).take (Try.prog.cellsOf 34)) = some y0 := hf 0 _ rfl
  have t1 : DataW.trod enc Try.prog w 0 (fun _ => true) true n' 3 (([v0, v1].drop 1).take (Try.prog.cellsOf 3)) = some y1 := hf 1 _ rfl
  rw [c25] at t0
  rw [c3] at t1
  obtain ⟨A, n, c, xs, e0, hx, sx, wx⟩ := bytes_open t0
  obtain ⟨s, e1, hs⟩ := int_open t1
  simp only [List.drop_zero, List.drop_succ_cons, List.take_succ_cons, List.take_zero, List.cons.injEq, and_true] at e0 e1
  subst e0 e1 hx
  refine ⟨(xs, s), ⟨A, c, rfl, sx⟩, fun hq => ⟨wx fun q h => hq q ?_, hs⟩⟩
  rw [hy]
  simp only [DataW.weights, Try.underlying87]
  exact DataW.weights_mem_each (j := 0) (t := 34) (d := y0.1) rfl rfl q h
theorem node_open {fuel : Nat} {cs : List Value} {x : DataW H × List MemPlace} (hcl : cs.length = 3) (h : DataW.trod enc Try.prog w 0 (fun _ => true) true fuel 63 cs = some x) :
    ∃ (f : Bool) (A B : Option Addr) (n c m d : Nat) (y : Nd), cs = [.bool f, .slice A n c, .slice B m d] ∧ Nod w y f (.slice A n c) (.slice B m d) ∧ ((∀ q ∈ x.1.weights Try.prog 63, q ≤ reachBytes) → (n ≤ 70368744177664 ∧ m ≤ 70368744177664) ∧ (∀ z ∈ y.its, OkI z) ∧ ∀ z ∈ y.kds, OkK z) := by
  obtain ⟨v0, v1, v2, rfl⟩ : ∃ v0 v1 v2, cs = [v0, v1, v2] := by
    match cs, hcl with
    | [v0, v1, v2], _ => exact ⟨v0, v1, v2, rfl⟩
  obtain ⟨ys, n', _, hy, _, hyl, hf⟩ := DataW.trod_struct Try.underlying63 h
  have c0 : Try.prog.cellsOf 4 = 1 := by kernel_rfl
  have c1 : Try.prog.cellsOf 26 = 1 := by kernel_rfl
  have c2 : Try.prog.cellsOf 61 = 1 := by kernel_rfl
  have hyl' : ys.length = 3 := hyl
  obtain ⟨y0, y1, y2, rfl⟩ : ∃ y0 y1 y2, ys = [y0, y1, y2] := by
    match ys, hyl' with
    | [y0, y1, y2], _ => exact ⟨y0, y1, y2, rfl⟩
  have t0 : DataW.trod enc Try.prog w 0 (fun _ => true) true n' 4 (([v0, v1, v2].drop 0).take (Try.prog.cellsOf 4)) = some y0 := hf 0 _ rfl
  have t1 : DataW.trod enc Try.prog w 0 (fun _ => true) true n' 26 (([v0, v1, v2].drop 1).take (Try.prog.cellsOf 26)) = some y1 := hf 1 _ rfl
  have t2 : DataW.trod enc Try.prog w 0 (fun _ => true) true n' 61 (([v0, v1, v2].drop 2).take (Try.prog.cellsOf 61)) = some y2 := hf 2 _ rfl
  rw [c0] at t0
  rw [c1] at t1
  rw [c2] at t2
  obtain ⟨f, e0, _⟩ := DataW.trod_bool Try.underlying4 t0
  obtain ⟨A, n, c, l, e1, hl, _, hz1⟩ := rw_open itE OkI Try.underlying26 (by kernel_rfl) (by decide) (fun hc hh => item_open hc hh) t1
  obtain ⟨B, m, d, k, e2, hk, _, hz2⟩ := rw_open kdE OkK Try.underlying61 (by kernel_rfl) (by decide) (fun hc hh => kid_open hc hh) t2
  simp only [List.drop_zero, List.drop_succ_cons, List.take_succ_cons, List.take_zero, List.cons.injEq, and_true] at e0 e1 e2
  subst e0 e1 e2
  refine ⟨f, A, B, n, c, m, d, ⟨f, l, k⟩, rfl, ⟨rfl, hl, hk⟩, fun hq => ?_⟩
  obtain ⟨g1, o1⟩ := hz1 fun q h => hq q (by
    rw [hy]
    simp only [DataW.weights, Try.underlying63]
    exact DataW.weights_mem_each (j := 1) (t := 26) (d := y1.1) rfl rfl q h)
  obtain ⟨g2, o2⟩ := hz2 fun q h => hq q (by
    rw [hy]
    simp only [DataW.weights, Try.underlying63]
    exact DataW.weights_mem_each (j := 2) (t := 61) (d := y2.1) rfl rfl q h)
  rw [show Try.prog.bytesOf 44 = 64 by kernel_rfl] at g1
  rw [show Try.prog.bytesOf 87 = 32 by kernel_rfl] at g2
  have hb := reachBytes_lt
  exact ⟨by omega, o1, o2⟩

theorem named_open {fuel : Nat} {cs : List Value} {x : DataW H × List MemPlace} (hcl : cs.length = 4) (h : DataW.trod enc Try.prog w 0 (fun _ => true) true fuel 65 cs = some x) :
    ∃ y, nmE.At w y cs ∧ ((∀ q ∈ x.1.weights Try.prog 65, q ≤ reachBytes) → OkN y) := by
  obtain ⟨v0, v1, v2, v3, rfl⟩ : ∃ v0 v1 v2 v3, cs = [v0, v1, v2, v3] := by
    match cs, hcl with
    | [v0, v1, v2, v3], _ => exact ⟨v0, v1, v2, v3, rfl⟩
  obtain ⟨ys, n', _, hy, _, hyl, hf⟩ := DataW.trod_struct Try.underlying65 h
  have c0 : Try.prog.cellsOf 3 = 1 := by kernel_rfl
  have c1 : Try.prog.cellsOf 63 = 3 := by kernel_rfl
  have hyl' : ys.length = 2 := hyl
  obtain ⟨y0, y1, rfl⟩ : ∃ y0 y1, ys = [y0, y1] := by
    match ys, hyl' with
    | [y0, y1], _ => exact ⟨y0, y1, rfl⟩
  have t0 : DataW.trod enc Try.prog w 0 (fun _ => true) true n' 3 (([v0, v1, v2, v3].drop 0).take (Try.prog.cellsOf 3)) = some y0 := hf 0 _ rfl
  have t1 : DataW.trod enc Try.prog w 0 (fun _ => true) true n' 63 (([v0, v1, v2, v3].drop 1).take (Try.prog.cellsOf 63)) = some y1 := hf 1 _ rfl
  rw [c0] at t0
  rw [c1] at t1
  obtain ⟨r, e0, _⟩ := int_open t0
  obtain ⟨f, A, B, n, c, m, d, y, e1, hN, hs⟩ := node_open (by simp) t1
  simp only [List.drop_zero, List.drop_succ_cons, List.take_succ_cons, List.take_zero, List.cons.injEq, and_true] at e0 e1
  obtain ⟨rfl, rfl, rfl⟩ := e1
  subst e0
  refine ⟨(r, y), ⟨f, _, _, rfl, hN⟩, fun hq => ?_⟩
  obtain ⟨⟨g1, g2⟩, g3⟩ := hs fun q h => hq q (by
    rw [hy]
    simp only [DataW.weights, Try.underlying65]
    exact DataW.weights_mem_each (j := 1) (t := 63) (d := y1.1) rfl rfl q h)
  exact ⟨⟨by have := hN.2.1.len; simp only; omega, by have := hN.2.2.len; simp only; omega⟩, g3⟩
set_option maxRecDepth 100000 in
theorem nms_arg {base : Nat} {v : Value} {d : DataW H} {p : List MemPlace} (hv : Value.okWide Try.prog w .any base 22 v) (h : DataW.Trod enc Try.prog w 0 (fun _ => true) true 22 v d p) (hq : ∀ q ∈ d.weights Try.prog 22, q ≤ reachBytes) :
    ∃ (A : Option Addr) (n c : Nat) (l : List Nm), v = .slice A n c ∧ Nms w (.slice A n c) l ∧ ∀ x ∈ l, OkN x := by
  obtain ⟨fuel, hf⟩ := h
  obtain ⟨A, n, c, l, e, hl, _, hz⟩ := rw_open nmE OkN Try.underlying22 (by kernel_rfl) (by decide) (fun hc hh => named_open hc hh) hf
  obtain ⟨a', l', c', rfl⟩ := okWide_slice Try.underlying22 hv
  have e2 : Value.slice a' l' c' = .slice A n c := by simpa [Value.cells] using e
  exact ⟨A, n, c, l, e2, hl, (hz hq).2⟩
set_option maxRecDepth 100000 in
theorem its_arg {base : Nat} {v : Value} {d : DataW H} {p : List MemPlace} (hv : Value.okWide Try.prog w .any base 26 v) (h : DataW.Trod enc Try.prog w 0 (fun _ => true) true 26 v d p) (hq : ∀ q ∈ d.weights Try.prog 26, q ≤ reachBytes) :
    ∃ (A : Option Addr) (n c : Nat) (l : List It), v = .slice A n c ∧ Its w (.slice A n c) l ∧ ∀ x ∈ l, OkI x := by
  obtain ⟨fuel, hf⟩ := h
  obtain ⟨A, n, c, l, e, hl, _, hz⟩ := rw_open itE OkI Try.underlying26 (by kernel_rfl) (by decide) (fun hc hh => item_open hc hh) hf
  obtain ⟨a', l', c', rfl⟩ := okWide_slice Try.underlying26 hv
  have e2 : Value.slice a' l' c' = .slice A n c := by simpa [Value.cells] using e
  exact ⟨A, n, c, l, e2, hl, (hz hq).2⟩
set_option maxRecDepth 100000 in
theorem bytes_arg {base : Nat} {v : Value} {d : DataW H} {p : List MemPlace} (hv : Value.okWide Try.prog w .any base 34 v) (h : DataW.Trod enc Try.prog w 0 (fun _ => true) true 34 v d p) :
    ∃ (A : Option Addr) (n c : Nat) (xs : Bytes), v = .slice A n c ∧ Src w (.slice A n c) xs ∧ xs.length = n := by
  obtain ⟨fuel, hf⟩ := h
  obtain ⟨A, n, c, xs, e, hx, hs, _⟩ := bytes_open hf
  obtain ⟨a', l', c', rfl⟩ := okWide_slice Try.underlying34 hv
  have e2 : Value.slice a' l' c' = .slice A n c := by simpa [Value.cells] using e
  exact ⟨A, n, c, xs, e2, hs, hx⟩
set_option maxRecDepth 100000 in
theorem int_arg {base : Nat} {v : Value} {d : DataW H} {p : List MemPlace} (hv : Value.okWide Try.prog w .any base 3 v) (h : DataW.Trod enc Try.prog w 0 (fun _ => true) true 3 v d p) : ∃ k : Int, v = .int .i64 k ∧ -9223372036854775808 ≤ k ∧ k ≤ 9223372036854775807 := by
  obtain ⟨a0, rfl, _, _, w0⟩ := open_int Try.underlying3 hv h
  have hr : -9223372036854775808 ≤ a0 ∧ a0 ≤ 9223372036854775807 := by simpa [Lit.wf, IntKind.min, IntKind.max, IntKind.signed, IntKind.bits] using w0
  exact ⟨a0, rfl, hr⟩

/-- An argument reads behind the call as it read before. -/
theorem later {t : TypeId} (hr : Try.prog.readableRec t = true) (hrow : t < Try.prog.types.size) {W W' : World} {v : Value} {d : DataW H} {ps : List MemPlace} {sp : Nat → Bool}
    (h : DataW.Trod enc Try.prog W 0 (fun _ => true) true t v d ps) (hb : Below W.heap.size W W') (hlt : ∀ x ∈ ps, x.block < W.heap.size) (hs : ∀ x ∈ ps, sp x.block = true) : DataW.Trod enc Try.prog W' 0 sp true t v d ps :=
  WideElems.Trod_stays Try.laidOut hr hrow h (fun x hx => hb.same (hlt x hx)) hs

/-- The row's last step, where of what is new only its being new is known. -/
theorem post_new {f : Func} {s : ChangeSpec} {W W' : World} {args : Array Value} {v : Value} {ds gs : List (DataW H)} {before pa pv : List MemPlace}
    (hW : DataW.Whole enc Try.prog f.params.toList s.vars false W args.toList ds gs before)
    (hres : ∀ (b : Nat) (sp : Nat → Bool) (hd : Bool), DataW.TrodAll enc Try.prog W' b sp hd f.resultTypes.toList (v.resultList f.resultTypes.size) (s.fn H (ds ++ gs)).results [])
    (hargs : ∀ sp : Nat → Bool, (∀ p ∈ before, sp p.block = true) → DataW.TrodAll enc Try.prog W' 0 sp true f.params.toList args.toList (s.fn H (ds ++ gs)).args pa)
    (hvars : ∀ sp : Nat → Bool, (∀ p ∈ before, sp p.block = true) → DataW.TrodVars enc Try.prog W' sp s.vars (s.fn H (ds ++ gs)).vars pv)
    (hps : before = pa ++ pv) (hb : Below W.heap.size W W') :
    s.post enc Try.prog f false true false false W args v W' := by
  have hlt : ∀ p ∈ before, p.block < W.heap.size := fun p hp => hW.lt p hp
  have hold : ∀ p ∈ before, (fun b => decide (b < W.heap.size)) p.block = true := fun p hp => by simpa using hlt p hp
  refine ⟨ds, gs, before, [], pa, pv, hW, hres _ _ _, hargs _ hold, hvars _ hold, World.keptBut_mono (fun p hp => ⟨hp, ?_⟩) (hb.frame (· ∈ before)), fun h => (nomatch h)⟩
  rw [hps, List.mem_append] at hp
  exact Or.inr hp
end
end Go.Proofs.Ytnjhpjpeeehagaa

/-
  TreePaths.
-/
set_option linter.unusedVariables false
namespace Go.Proofs.Ytnjhpjpeeehagaa
open Go.RowKit

theorem sum_get {l : List Nm} {x : Nm} (h : x ∈ l) : szN x ≤ sumN l := by
  induction l with
  | nil => cases h
  | cons y l ih =>
    have h3 : sumN (y :: l) = szN y + sumN l := by simp [sumN]
    rcases List.mem_cons.1 h with rfl | h
    · omega
    · have := ih h
      omega
theorem few_FewN {l : List Nm} (hok : ∀ x ∈ l, OkN x) (h : fewB l = true) : FewN l := by
  unfold fewB at h
  rw [Bool.and_eq_true, decide_eq_true_eq, decide_eq_true_eq] at h
  refine ⟨by omega, fun x hx => ?_⟩
  have h1 := sum_get hx
  unfold szN at h1
  obtain ⟨_, h2, h3⟩ := hok x hx
  exact ⟨by omega, by omega, fun y hy => ⟨(h2 y hy).1, (h2 y hy).2.1⟩, fun y hy => h3 y hy⟩
theorem okN_len {l : List Nm} (hok : ∀ x ∈ l, OkN x) : ∀ x ∈ l, x.2.its.length ≤ 70368744177664 ∧ x.2.kds.length ≤ 70368744177664 := fun x hx => (hok x hx).1
/-- The nodes of a way are of the row. -/
theorem down_mem {l : List Nm} {ch : Nd → Nat} : ∀ (k : Nat) (r : Int), ∀ y ∈ (downP l ch k r).2, ∃ ref, nodeP l ref = some y.2.1
  | 0, r, y, hy => by simp [downP] at hy
  | k + 1, r, y, hy => by
    rw [downP] at hy
    cases hno : nodeP l r with
    | none =>
      rw [hno] at hy
      simp at hy
    | some x =>
      rw [hno] at hy
      simp only at hy
      split at hy
      · simp at hy
      · split at hy
        · simp at hy
          subst hy
          exact ⟨r, hno⟩
        · split at hy
          · rcases List.mem_cons.1 hy with rfl | hy
            · exact ⟨r, hno⟩
            · exact down_mem k _ y hy
          · simp at hy
theorem down_sml {l : List Nm} {ch : Nd → Nat} (hf : FewN l) (k : Nat) (r : Int) : ∀ y ∈ (downP l ch k r).2, Sml y.2.1 := fun y hy => by
  obtain ⟨ref, h⟩ := down_mem k r y hy
  have := hf.get ref
  rw [h] at this
  exact this
/-- What the law asks of each node. -/
def GoodN (x : Nm) : Prop := RisN x.2 ∧ (x.2.leaf = true → x.2.kds = []) ∧ (x.2.leaf = false → x.2.its = [])
theorem path_same (key : Bytes) : chP key = dchP 0 key := funext (ch_find key)
theorem edge_first : chE false = dchP 1 [] := funext ch_first
theorem edge_last : chE true = dchP 2 [] := funext ch_last
theorem good_ok {l : List Nm} {root : Int} (hg : ∀ x ∈ l, GoodN x) : ∀ ref x, Vis l root ref → nodeP l ref = some x → okP x := fun ref x _ hx _ => by
  obtain ⟨y, hy, rfl⟩ := nodeP_mem hx
  exact fun k a b h1 h2 => (hg y hy).1.1 k a b h1 h2
end Go.Proofs.Ytnjhpjpeeehagaa

/-
  First, Last and Seek.
-/
set_option linter.unusedVariables false
namespace Go.Proofs.Ytnjhpjpeeehagaa
open Go.RowKit

section
variable {Ex : Nat → Prop} {w0 : World} {S : Value} {ed : Bool → Int → Int × List Sp} {sk : Bytes → Int × List Sp} {H : Prop} {l : List Nm} {root : Int} {h : Nat} {seg : List It}
set_option maxRecDepth 100000 in
set_option maxHeartbeats 6400000 in
theorem First_c (T : Tr Ex w0 S ed sk H l root h seg) (w : World) (h00 : Lat Ex w0 w) (cb : Nat) (D : Nat → Prop) (hD : ∀ j, D j → j < w.heap.size) (hcD : D cb) (hcw0 : w0.heap.size ≤ cb) (V : Value) (hc : Blk w cb 75 [S, .int .i64 root, V]) :
    Calls Try.prog 16 #[.pointer (some ⟨cb, 0, none⟩)] w (GotSays H l root h seg S D w0.heap.size cb (fun j => j = cb ∨ (w0.heap.size ≤ j ∧ ¬ D j)) w 0) := by
  obtain ⟨w1, hw1⟩ : ∃ W0, W0 = w.alloc (.cells #[.slice none 0 0, .slice none 0 0, .int .i64 0, .int .i64 0] 39) := ⟨_, rfl⟩
  have HO1 : Hid (Only (w.heap.size ≤ ·) w w1) := Lib.hid (by rw [hw1]; exact (Only.refl _ w).alloc (fun _ h => h) _)
  have HBX : Hid (Blk w1 w.heap.size 39 [.slice none 0 0, .slice none 0 0, .int .i64 0, .int .i64 0]) := Lib.hid (by rw [hw1]; exact Blk.new w _ _)
  have HD1 : Hid (∀ j, (D j ∨ j = w.heap.size) → j < w1.heap.size) := Lib.hid (fun j hj => by have h1 := HBX.out.lt; rcases hj with hj | hj; exact Nat.lt_of_lt_of_le (hD j hj) HO1.out.size; omega)
  have H01 := Lib.hid (lat_new h00 HO1.out)
  have HCN : Hid (cb ≠ w.heap.size) := Lib.hid (fun e => by have h1 := hD cb hcD; omega)
  have HHD := Lib.hid (And.intro hD (And.intro hcD (And.intro hcw0 h00.size)))
  have HE1 := Lib.hid hw1
  clear hw1
  have hcase := edge_case T false
  have HED : Hid (∀ W, Lat Ex w0 W → Calls Try.prog 30 #[S, .int .i64 root, .bool false] W (DownOwn W (ed false root))) := Lib.hid (fun W hW => T.edge W hW false root)
  have HCA := Lib.hid hcase
  have HC1 := Lib.hid (hc.later HO1.out)
  have HST : Hid (∀ (W : World) (A : Option Addr) (m c B7 : Nat) (er : Int) (p : List Sp), Only (w1.heap.size ≤ ·) w1 W → (er, p) = ed false root → PathK B7 W A m c p → w1.heap.size ≤ B7 → Calls Try.prog 31 #[.pointer (some ⟨cb, 0, none⟩), .slice A m c, .int .i64 er, .int .i64 1] W (GotSays H l root h seg S (fun j => D j ∨ j = w.heap.size) w0.heap.size cb (fun j => j = cb ∨ (w0.heap.size ≤ j ∧ ¬ (D j ∨ j = w.heap.size))) W 0)) := Lib.hid (fun W A m c B7 er p hW h1 h2 h3 => settle_edge T W (lat_new H01.out hW) cb V (HC1.out.later hW) _ (fun j hj => Nat.lt_of_lt_of_le (HD1.out j hj) hW.size) (.inl hcD) hcw0 A m c B7 er p _ h1 h2 (fun j hj => Nat.lt_of_lt_of_le (HD1.out j hj) h3) (Nat.le_trans H01.out.size h3) 1 _ (.inl rfl) (by
    have h4 := HCA.out
    first | exact h4 | simpa [sideE] using h4))
  have KS : Hid (∀ W : World, Only (w1.heap.size ≤ ·) w1 W → (fun W : World => W.cell? ⟨cb, 0, none⟩ = some S ∧ W.cell? ⟨cb, 1, none⟩ = some (.int .i64 root)) W) := Lib.hid (fun W hW => ⟨(HC1.out.later hW).cell 0, (HC1.out.later hW).cell 1⟩)
  have HXD : Hid (Only (w1.heap.size ≤ ·) w1 w1.drew) := Lib.hid (Only.refl _ w1).drew
  have HSX := Lib.hid (KS.out _ HXD.out)
  clear hcase hc T h00 hD hcD hcw0
  go_enter Try.func16, Try.ntmps16
  go_upto_region 1 with (fail)
  rw [← HE1.out]
  clear HE1
  refine wp_region_list (B := [false, false, false, false, false, false, false, false, false, false, false, false, false, false]) (S := (fun W : World => W.cell? ⟨cb, 0, none⟩ = some S ∧ W.cell? ⟨cb, 1, none⟩ = some (.int .i64 root))) (by kernel_rfl) (by kernel_rfl) (by kernel_rfl) HSX.out (fun hsel hHeld => ?_)
  generalize hwz : World.drew _ = wd at HSX HXD hHeld ⊢
  clear hwz
  have H0D := Lib.hid (lat_new H01.out HXD.out)
  refine oneA 0 8 hsel (h := ?_)
  simp only [Act.put, List.setIfInBounds_toArray, List.set_cons_zero, List.set_cons_succ]
  refine oneA 1 9 hsel (h := ?_)
  simp only [Act.put, List.setIfInBounds_toArray, List.set_cons_zero, List.set_cons_succ]
  refine oneA 2 10 hsel (h := ?_)
  simp only [Act.put, List.setIfInBounds_toArray, List.set_cons_zero, List.set_cons_succ]
  refine oneA 3 11 hsel (h := ?_)
  simp only [Act.put, List.setIfInBounds_toArray, List.set_cons_zero, List.set_cons_succ]
  refine oneA 4 12 hsel (h := ?_)
  simp only [Act.put, List.setIfInBounds_toArray, List.set_cons_zero, List.set_cons_succ]
  refine oneA 5 13 hsel (h := ?_)
  simp only [Act.put, List.setIfInBounds_toArray, List.set_cons_zero, List.set_cons_succ]
  refine oneA 6 14 hsel (h := ?_)
  simp only [Act.put, List.setIfInBounds_toArray, List.set_cons_zero, List.set_cons_succ]
  refine oneA 7 15 hsel (h := ?_)
  simp only [Act.put, List.setIfInBounds_toArray, List.set_cons_zero, List.set_cons_succ]
  refine wpAnyL_ready (rs := [8]) (by kernel_rfl) (by kernel_rfl) (by simp) ?_
  refine AllReadyL.cons (o := ?_) ?_ (fun K hK => ?_) AllReadyL.nil
  case refine_2 => (simp only [List.getElem?_cons_succ, List.getElem?_cons_zero]; rfl)
  go_simp
  (go_at_call 30; (with_reducible refine (HED.out _ H0D.out).mono ?_); rintro e w2 ⟨⟨A7, n7, c7, er7, p7, B7, C7, rfl, he7, hl7, hB7, hown7, hden7⟩, ho⟩; have HE7 := Lib.hid he7; have HL7 := Lib.hid (And.intro hl7 (And.intro (Nat.le_trans HXD.out.size hB7) (And.intro hown7 hden7))); have HX2 := Lib.hid (on_new HXD.out ho); clear he7 hl7 hB7 hown7 hden7 ho)
  go_wp2_with (fail)
  clear hHeld
  refine hK.out _ _ (KS.out _ HX2.out) (fun hHeld => ?_)
  clear hK K
  try simp only [List.set_cons_zero, List.set_cons_succ]
  refine oneA 9 7 hsel (h := ?_)
  simp only [Act.put, List.setIfInBounds_toArray, List.set_cons_zero, List.set_cons_succ]
  refine oneA 10 17 hsel (h := ?_)
  simp only [Act.put, List.setIfInBounds_toArray, List.set_cons_zero, List.set_cons_succ]
  refine oneA 11 18 hsel (h := ?_)
  simp only [Act.put, List.setIfInBounds_toArray, List.set_cons_zero, List.set_cons_succ]
  refine oneA 12 5 hsel (h := ?_)
  simp only [Act.put, List.setIfInBounds_toArray, List.set_cons_zero, List.set_cons_succ]
  refine oneA 13 6 hsel (h := ?_)
  simp only [Act.put, List.setIfInBounds_toArray, List.set_cons_zero, List.set_cons_succ]
  refine wpAnyL_done (by kernel_rfl) (by kernel_rfl) ?_ _
  clear hsel hHeld
  have HPK : Hid (PathK B7 w2 A7 n7 c7 p7) := Lib.hid ⟨C7, HL7.out.1, HL7.out.2.2.1, HL7.out.2.2.2⟩
  go_wp2_with (go_at_call 31; (with_reducible refine (HST.out w2 A7 n7 c7 B7 er7 p7 HX2.out HE7.out HPK.out HL7.out.2.1).mono ?_); rintro e w3 ⟨P, pn, pc, U, un, uc, i2, i3, t, er, rfl, ho3, hg3⟩; have HOC3 := Lib.hid ho3; have HG := Lib.hid hg3; clear ho3 hg3; (have HBX3 : Hid (Blk w3 w.heap.size 39 [.slice none 0 0, .slice none 0 0, .int .i64 0, .int .i64 0]) := Lib.hid ((HBX.out.later HX2.out).only HOC3.out (fun e => by rcases e with e | e; exact HCN.out e.symm; exact e.2 (.inr rfl)))); (obtain ⟨q0, q1, q2, q3⟩ := HBX3.out.four); have f0 := HBX3.out.frozen 0; have f1 := HBX3.out.frozen 1; have f2 := HBX3.out.frozen 2; have f3 := HBX3.out.frozen 3)
  have HOC : Hid (Only (fun j => j = cb ∨ (w0.heap.size ≤ j ∧ ¬ D j)) w w3) := Lib.hid (((HO1.out.mono fun j hj => .inr ⟨Nat.le_trans HHD.out.2.2.2 hj, fun e => Nat.not_le.2 (HHD.out.1 j e) hj⟩).trans (HX2.out.mono fun j hj => .inr ⟨Nat.le_trans HHD.out.2.2.2 (Nat.le_trans HO1.out.size hj), fun e => Nat.not_le.2 (HHD.out.1 j e) (Nat.le_trans HO1.out.size hj)⟩)).trans (HOC3.out.mono fun j hj => hj.imp id fun hj => ⟨hj.1, fun e => hj.2 (.inl e)⟩))
  have hk := it_set (a' := .slice P pn pc) (b' := .slice U un uc) (c' := .int .i64 i2) (d' := .int .i64 i3) HBX3.out
  refine bodyPost_ret (results_cell3 rfl rfl rfl rfl (load_item hk.1)) rfl ?_
  have hbw := HO1.out.size
  have hsz := HHD.out.2.2.2
  have hb3 := HX2.out.size
  refine ⟨P, pn, pc, U, un, uc, i2, i3, t, er, rfl, HOC.out.trans (hk.2.mono fun j hj => .inr ⟨by have h2 : j = w.heap.size := hj; omega, fun e => by have h1 := HHD.out.1 j e; have h2 : j = w.heap.size := hj; omega⟩), HG.out.step (hk.2.mono fun j hj => .inl ⟨.inr hj, fun e => HCN.out (by rw [← e]; exact hj)⟩) (fun j hj => .inl (.inl hj)) (fun j hj => Nat.lt_of_lt_of_le (HD1.out j hj) hb3) (Nat.le_trans hbw hb3)⟩
set_option maxRecDepth 100000 in
set_option maxHeartbeats 6400000 in
theorem Last_c (T : Tr Ex w0 S ed sk H l root h seg) (w : World) (h00 : Lat Ex w0 w) (cb : Nat) (D : Nat → Prop) (hD : ∀ j, D j → j < w.heap.size) (hcD : D cb) (hcw0 : w0.heap.size ≤ cb) (V : Value) (hc : Blk w cb 75 [S, .int .i64 root, V]) :
    Calls Try.prog 18 #[.pointer (some ⟨cb, 0, none⟩)] w (GotSays H l root h seg S D w0.heap.size cb (fun j => j = cb ∨ (w0.heap.size ≤ j ∧ ¬ D j)) w ((seg.length - 1 : Nat) : Int)) := by
  obtain ⟨w1, hw1⟩ : ∃ W0, W0 = w.alloc (.cells #[.slice none 0 0, .slice none 0 0, .int .i64 0, .int .i64 0] 39) := ⟨_, rfl⟩
  have HO1 : Hid (Only (w.heap.size ≤ ·) w w1) := Lib.hid (by rw [hw1]; exact (Only.refl _ w).alloc (fun _ h => h) _)
  have HBX : Hid (Blk w1 w.heap.size 39 [.slice none 0 0, .slice none 0 0, .int .i64 0, .int .i64 0]) := Lib.hid (by rw [hw1]; exact Blk.new w _ _)
  have HD1 : Hid (∀ j, (D j ∨ j = w.heap.size) → j < w1.heap.size) := Lib.hid (fun j hj => by have h1 := HBX.out.lt; rcases hj with hj | hj; exact Nat.lt_of_lt_of_le (hD j hj) HO1.out.size; omega)
  have H01 := Lib.hid (lat_new h00 HO1.out)
  have HCN : Hid (cb ≠ w.heap.size) := Lib.hid (fun e => by have h1 := hD cb hcD; omega)
  have HHD := Lib.hid (And.intro hD (And.intro hcD (And.intro hcw0 h00.size)))
  have HE1 := Lib.hid hw1
  clear hw1
  have hcase := edge_case T true
  have HED : Hid (∀ W, Lat Ex w0 W → Calls Try.prog 30 #[S, .int .i64 root, .bool true] W (DownOwn W (ed true root))) := Lib.hid (fun W hW => T.edge W hW true root)
  have HCA := Lib.hid hcase
  have HC1 := Lib.hid (hc.later HO1.out)
  have HST : Hid (∀ (W : World) (A : Option Addr) (m c B7 : Nat) (er : Int) (p : List Sp), Only (w1.heap.size ≤ ·) w1 W → (er, p) = ed true root → PathK B7 W A m c p → w1.heap.size ≤ B7 → Calls Try.prog 31 #[.pointer (some ⟨cb, 0, none⟩), .slice A m c, .int .i64 er, .int .i64 (-1)] W (GotSays H l root h seg S (fun j => D j ∨ j = w.heap.size) w0.heap.size cb (fun j => j = cb ∨ (w0.heap.size ≤ j ∧ ¬ (D j ∨ j = w.heap.size))) W ((seg.length - 1 : Nat) : Int))) := Lib.hid (fun W A m c B7 er p hW h1 h2 h3 => settle_edge T W (lat_new H01.out hW) cb V (HC1.out.later hW) _ (fun j hj => Nat.lt_of_lt_of_le (HD1.out j hj) hW.size) (.inl hcD) hcw0 A m c B7 er p _ h1 h2 (fun j hj => Nat.lt_of_lt_of_le (HD1.out j hj) h3) (Nat.le_trans H01.out.size h3) (-1) _ (.inr rfl) (by
    have h4 := HCA.out
    first | exact h4 | simpa [sideE] using h4))
  have KS : Hid (∀ W : World, Only (w1.heap.size ≤ ·) w1 W → (fun W : World => W.cell? ⟨cb, 0, none⟩ = some S ∧ W.cell? ⟨cb, 1, none⟩ = some (.int .i64 root)) W) := Lib.hid (fun W hW => ⟨(HC1.out.later hW).cell 0, (HC1.out.later hW).cell 1⟩)
  have HXD : Hid (Only (w1.heap.size ≤ ·) w1 w1.drew) := Lib.hid (Only.refl _ w1).drew
  have HSX := Lib.hid (KS.out _ HXD.out)
  clear hcase hc T h00 hD hcD hcw0
  go_enter Try.func18, Try.ntmps18
  go_upto_region 1 with (fail)
  rw [← HE1.out]
  clear HE1
  refine wp_region_list (B := [false, false, false, false, false, false, false, false, false, false, false, false, false, false]) (S := (fun W : World => W.cell? ⟨cb, 0, none⟩ = some S ∧ W.cell? ⟨cb, 1, none⟩ = some (.int .i64 root))) (by kernel_rfl) (by kernel_rfl) (by kernel_rfl) HSX.out (fun hsel hHeld => ?_)
  generalize hwz : World.drew _ = wd at HSX HXD hHeld ⊢
  clear hwz
  have H0D := Lib.hid (lat_new H01.out HXD.out)
  refine oneA 0 8 hsel (h := ?_)
  simp only [Act.put, List.setIfInBounds_toArray, List.set_cons_zero, List.set_cons_succ]
  refine oneA 1 9 hsel (h := ?_)
  simp only [Act.put, List.setIfInBounds_toArray, List.set_cons_zero, List.set_cons_succ]
  refine oneA 2 10 hsel (h := ?_)
  simp only [Act.put, List.setIfInBounds_toArray, List.set_cons_zero, List.set_cons_succ]
  refine oneA 3 11 hsel (h := ?_)
  simp only [Act.put, List.setIfInBounds_toArray, List.set_cons_zero, List.set_cons_succ]
  refine oneA 4 12 hsel (h := ?_)
  simp only [Act.put, List.setIfInBounds_toArray, List.set_cons_zero, List.set_cons_succ]
  refine oneA 5 13 hsel (h := ?_)
  simp only [Act.put, List.setIfInBounds_toArray, List.set_cons_zero, List.set_cons_succ]
  refine oneA 6 14 hsel (h := ?_)
  simp only [Act.put, List.setIfInBounds_toArray, List.set_cons_zero, List.set_cons_succ]
  refine oneA 7 15 hsel (h := ?_)
  simp only [Act.put, List.setIfInBounds_toArray, List.set_cons_zero, List.set_cons_succ]
  refine wpAnyL_ready (rs := [8]) (by kernel_rfl) (by kernel_rfl) (by simp) ?_
  refine AllReadyL.cons (o := ?_) ?_ (fun K hK => ?_) AllReadyL.nil
  case refine_2 => (simp only [List.getElem?_cons_succ, List.getElem?_cons_zero]; rfl)
  go_simp
  (go_at_call 30; (with_reducible refine (HED.out _ H0D.out).mono ?_); rintro e w2 ⟨⟨A7, n7, c7, er7, p7, B7, C7, rfl, he7, hl7, hB7, hown7, hden7⟩, ho⟩; have HE7 := Lib.hid he7; have HL7 := Lib.hid (And.intro hl7 (And.intro (Nat.le_trans HXD.out.size hB7) (And.intro hown7 hden7))); have HX2 := Lib.hid (on_new HXD.out ho); clear he7 hl7 hB7 hown7 hden7 ho)
  go_wp2_with (fail)
  clear hHeld
  refine hK.out _ _ (KS.out _ HX2.out) (fun hHeld => ?_)
  clear hK K
  try simp only [List.set_cons_zero, List.set_cons_succ]
  refine oneA 9 7 hsel (h := ?_)
  simp only [Act.put, List.setIfInBounds_toArray, List.set_cons_zero, List.set_cons_succ]
  refine oneA 10 17 hsel (h := ?_)
  simp only [Act.put, List.setIfInBounds_toArray, List.set_cons_zero, List.set_cons_succ]
  refine oneA 11 18 hsel (h := ?_)
  simp only [Act.put, List.setIfInBounds_toArray, List.set_cons_zero, List.set_cons_succ]
  refine oneA 12 5 hsel (h := ?_)
  simp only [Act.put, List.setIfInBounds_toArray, List.set_cons_zero, List.set_cons_succ]
  refine oneA 13 6 hsel (h := ?_)
  simp only [Act.put, List.setIfInBounds_toArray, List.set_cons_zero, List.set_cons_succ]
  refine wpAnyL_done (by kernel_rfl) (by kernel_rfl) ?_ _
  clear hsel hHeld
  have HPK : Hid (PathK B7 w2 A7 n7 c7 p7) := Lib.hid ⟨C7, HL7.out.1, HL7.out.2.2.1, HL7.out.2.2.2⟩
  go_wp2_with (go_at_call 31; (with_reducible refine (HST.out w2 A7 n7 c7 B7 er7 p7 HX2.out HE7.out HPK.out HL7.out.2.1).mono ?_); rintro e w3 ⟨P, pn, pc, U, un, uc, i2, i3, t, er, rfl, ho3, hg3⟩; have HOC3 := Lib.hid ho3; have HG := Lib.hid hg3; clear ho3 hg3; (have HBX3 : Hid (Blk w3 w.heap.size 39 [.slice none 0 0, .slice none 0 0, .int .i64 0, .int .i64 0]) := Lib.hid ((HBX.out.later HX2.out).only HOC3.out (fun e => by rcases e with e | e; exact HCN.out e.symm; exact e.2 (.inr rfl)))); (obtain ⟨q0, q1, q2, q3⟩ := HBX3.out.four); have f0 := HBX3.out.frozen 0; have f1 := HBX3.out.frozen 1; have f2 := HBX3.out.frozen 2; have f3 := HBX3.out.frozen 3)
  have HOC : Hid (Only (fun j => j = cb ∨ (w0.heap.size ≤ j ∧ ¬ D j)) w w3) := Lib.hid (((HO1.out.mono fun j hj => .inr ⟨Nat.le_trans HHD.out.2.2.2 hj, fun e => Nat.not_le.2 (HHD.out.1 j e) hj⟩).trans (HX2.out.mono fun j hj => .inr ⟨Nat.le_trans HHD.out.2.2.2 (Nat.le_trans HO1.out.size hj), fun e => Nat.not_le.2 (HHD.out.1 j e) (Nat.le_trans HO1.out.size hj)⟩)).trans (HOC3.out.mono fun j hj => hj.imp id fun hj => ⟨hj.1, fun e => hj.2 (.inl e)⟩))
  have hk := it_set (a' := .slice P pn pc) (b' := .slice U un uc) (c' := .int .i64 i2) (d' := .int .i64 i3) HBX3.out
  refine bodyPost_ret (results_cell3 rfl rfl rfl rfl (load_item hk.1)) rfl ?_
  have hbw := HO1.out.size
  have hsz := HHD.out.2.2.2
  have hb3 := HX2.out.size
  refine ⟨P, pn, pc, U, un, uc, i2, i3, t, er, rfl, HOC.out.trans (hk.2.mono fun j hj => .inr ⟨by have h2 : j = w.heap.size := hj; omega, fun e => by have h1 := HHD.out.1 j e; have h2 : j = w.heap.size := hj; omega⟩), HG.out.step (hk.2.mono fun j hj => .inl ⟨.inr hj, fun e => HCN.out (by rw [← e]; exact hj)⟩) (fun j hj => .inl (.inl hj)) (fun j hj => Nat.lt_of_lt_of_le (HD1.out j hj) hb3) (Nat.le_trans hbw hb3)⟩
set_option maxRecDepth 100000 in
set_option maxHeartbeats 6400000 in
theorem Seek_c (T : Tr Ex w0 S ed sk H l root h seg) (w : World) (h00 : Lat Ex w0 w) (cb : Nat) (D : Nat → Prop) (hD : ∀ j, D j → j < w.heap.size) (hcD : D cb) (hcw0 : w0.heap.size ≤ cb) (V : Value) (hc : Blk w cb 75 [S, .int .i64 root, V]) (K : Option Addr) (kn kc : Nat) (key : Bytes) (hkey : Src w (.slice K kn kc) key) :
    Calls Try.prog 20 #[.pointer (some ⟨cb, 0, none⟩), .slice K kn kc] w (GotSays H l root h seg S D w0.heap.size cb (fun j => j = cb ∨ (w0.heap.size ≤ j ∧ ¬ D j)) w (findP seg key : Nat)) := by
  obtain ⟨w1, hw1⟩ : ∃ W0, W0 = w.alloc (.cells #[.slice none 0 0, .slice none 0 0, .int .i64 0, .int .i64 0] 39) := ⟨_, rfl⟩
  have HO1 : Hid (Only (w.heap.size ≤ ·) w w1) := Lib.hid (by rw [hw1]; exact (Only.refl _ w).alloc (fun _ h => h) _)
  have HBX : Hid (Blk w1 w.heap.size 39 [.slice none 0 0, .slice none 0 0, .int .i64 0, .int .i64 0]) := Lib.hid (by rw [hw1]; exact Blk.new w _ _)
  have HD1 : Hid (∀ j, (D j ∨ j = w.heap.size) → j < w1.heap.size) := Lib.hid (fun j hj => by have h1 := HBX.out.lt; rcases hj with hj | hj; exact Nat.lt_of_lt_of_le (hD j hj) HO1.out.size; omega)
  have H01 := Lib.hid (lat_new h00 HO1.out)
  have HCN : Hid (cb ≠ w.heap.size) := Lib.hid (fun e => by have h1 := hD cb hcD; omega)
  have HHD := Lib.hid (And.intro hD (And.intro hcD (And.intro hcw0 h00.size)))
  have HE1 := Lib.hid hw1
  clear hw1
  have hcase := seek_case T key
  have HED : Hid (∀ W, Lat Ex w0 W → Src W (.slice K kn kc) key → Calls Try.prog 33 #[S, .int .i64 root, .slice K kn kc] W (DownOwn W (sk key))) := Lib.hid (fun W hW hK => T.path W hW K kn kc key hK)
  have HCA := Lib.hid hcase
  have HC1 := Lib.hid (hc.later HO1.out)
  have HKY := Lib.hid hkey
  have HST : Hid (∀ (W : World) (A : Option Addr) (m c B7 : Nat) (er : Int) (p : List Sp), Only (w1.heap.size ≤ ·) w1 W → (er, p) = sk key → PathK B7 W A m c p → w1.heap.size ≤ B7 → Calls Try.prog 31 #[.pointer (some ⟨cb, 0, none⟩), .slice A m c, .int .i64 er, .int .i64 1] W (GotSays H l root h seg S (fun j => D j ∨ j = w.heap.size) w0.heap.size cb (fun j => j = cb ∨ (w0.heap.size ≤ j ∧ ¬ (D j ∨ j = w.heap.size))) W (findP seg key : Nat))) := Lib.hid (fun W A m c B7 er p hW h1 h2 h3 => settle_edge T W (lat_new H01.out hW) cb V (HC1.out.later hW) _ (fun j hj => Nat.lt_of_lt_of_le (HD1.out j hj) hW.size) (.inl hcD) hcw0 A m c B7 er p _ h1 h2 (fun j hj => Nat.lt_of_lt_of_le (HD1.out j hj) h3) (Nat.le_trans H01.out.size h3) 1 _ (.inl rfl) (by
    have h4 := HCA.out
    first | exact h4 | simpa [sideE] using h4))
  have KS : Hid (∀ W : World, Only (w1.heap.size ≤ ·) w1 W → (fun W : World => W.cell? ⟨cb, 0, none⟩ = some S ∧ W.cell? ⟨cb, 1, none⟩ = some (.int .i64 root)) W) := Lib.hid (fun W hW => ⟨(HC1.out.later hW).cell 0, (HC1.out.later hW).cell 1⟩)
  have HXD : Hid (Only (w1.heap.size ≤ ·) w1 w1.drew) := Lib.hid (Only.refl _ w1).drew
  have HSX := Lib.hid (KS.out _ HXD.out)
  clear hcase hc T h00 hD hcD hcw0 hkey
  go_enter Try.func20, Try.ntmps20
  go_upto_region 1 with (fail)
  rw [← HE1.out]
  clear HE1
  refine wp_region_list (B := [false, false, false, false, false, false, false, false, false, false, false, false, false, false, false]) (S := (fun W : World => W.cell? ⟨cb, 0, none⟩ = some S ∧ W.cell? ⟨cb, 1, none⟩ = some (.int .i64 root))) (by kernel_rfl) (by kernel_rfl) (by kernel_rfl) HSX.out (fun hsel hHeld => ?_)
  generalize hwz : World.drew _ = wd at HSX HXD hHeld ⊢
  clear hwz
  have H0D := Lib.hid (lat_new H01.out HXD.out)
  have HKD := Lib.hid ((HKY.out.later HO1.out).later HXD.out)
  refine oneA 0 10 hsel (h := ?_)
  simp only [Act.put, List.setIfInBounds_toArray, List.set_cons_zero, List.set_cons_succ]
  refine oneA 1 11 hsel (h := ?_)
  simp only [Act.put, List.setIfInBounds_toArray, List.set_cons_zero, List.set_cons_succ]
  refine oneA 2 12 hsel (h := ?_)
  simp only [Act.put, List.setIfInBounds_toArray, List.set_cons_zero, List.set_cons_succ]
  refine oneA 3 13 hsel (h := ?_)
  simp only [Act.put, List.setIfInBounds_toArray, List.set_cons_zero, List.set_cons_succ]
  refine oneA 4 14 hsel (h := ?_)
  simp only [Act.put, List.setIfInBounds_toArray, List.set_cons_zero, List.set_cons_succ]
  refine oneA 5 15 hsel (h := ?_)
  simp only [Act.put, List.setIfInBounds_toArray, List.set_cons_zero, List.set_cons_succ]
  refine oneA 6 16 hsel (h := ?_)
  simp only [Act.put, List.setIfInBounds_toArray, List.set_cons_zero, List.set_cons_succ]
  refine oneA 7 17 hsel (h := ?_)
  simp only [Act.put, List.setIfInBounds_toArray, List.set_cons_zero, List.set_cons_succ]
  refine oneA 8 18 hsel (h := ?_)
  simp only [Act.put, List.setIfInBounds_toArray, List.set_cons_zero, List.set_cons_succ]
  refine wpAnyL_ready (rs := [9]) (by kernel_rfl) (by kernel_rfl) (by simp) ?_
  refine AllReadyL.cons (o := ?_) ?_ (fun K hK => ?_) AllReadyL.nil
  case refine_2 => (simp only [List.getElem?_cons_succ, List.getElem?_cons_zero]; rfl)
  go_simp
  (go_at_call 33; (with_reducible refine (HED.out _ H0D.out HKD.out).mono ?_); rintro e w2 ⟨⟨A7, n7, c7, er7, p7, B7, C7, rfl, he7, hl7, hB7, hown7, hden7⟩, ho⟩; have HE7 := Lib.hid he7; have HL7 := Lib.hid (And.intro hl7 (And.intro (Nat.le_trans HXD.out.size hB7) (And.intro hown7 hden7))); have HX2 := Lib.hid (on_new HXD.out ho); clear he7 hl7 hB7 hown7 hden7 ho)
  go_wp2_with (fail)
  clear hHeld
  refine hK.out _ _ (KS.out _ HX2.out) (fun hHeld => ?_)
  clear hK K
  try simp only [List.set_cons_zero, List.set_cons_succ]
  refine oneA 10 9 hsel (h := ?_)
  simp only [Act.put, List.setIfInBounds_toArray, List.set_cons_zero, List.set_cons_succ]
  refine oneA 11 20 hsel (h := ?_)
  simp only [Act.put, List.setIfInBounds_toArray, List.set_cons_zero, List.set_cons_succ]
  refine oneA 12 21 hsel (h := ?_)
  simp only [Act.put, List.setIfInBounds_toArray, List.set_cons_zero, List.set_cons_succ]
  refine oneA 13 7 hsel (h := ?_)
  simp only [Act.put, List.setIfInBounds_toArray, List.set_cons_zero, List.set_cons_succ]
  refine oneA 14 8 hsel (h := ?_)
  simp only [Act.put, List.setIfInBounds_toArray, List.set_cons_zero, List.set_cons_succ]
  refine wpAnyL_done (by kernel_rfl) (by kernel_rfl) ?_ _
  clear hsel hHeld
  have HPK : Hid (PathK B7 w2 A7 n7 c7 p7) := Lib.hid ⟨C7, HL7.out.1, HL7.out.2.2.1, HL7.out.2.2.2⟩
  go_wp2_with (go_at_call 31; (with_reducible refine (HST.out w2 A7 n7 c7 B7 er7 p7 HX2.out HE7.out HPK.out HL7.out.2.1).mono ?_); rintro e w3 ⟨P, pn, pc, U, un, uc, i2, i3, t, er, rfl, ho3, hg3⟩; have HOC3 := Lib.hid ho3; have HG := Lib.hid hg3; clear ho3 hg3; (have HBX3 : Hid (Blk w3 w.heap.size 39 [.slice none 0 0, .slice none 0 0, .int .i64 0, .int .i64 0]) := Lib.hid ((HBX.out.later HX2.out).only HOC3.out (fun e => by rcases e with e | e; exact HCN.out e.symm; exact e.2 (.inr rfl)))); (obtain ⟨q0, q1, q2, q3⟩ := HBX3.out.four); have f0 := HBX3.out.frozen 0; have f1 := HBX3.out.frozen 1; have f2 := HBX3.out.frozen 2; have f3 := HBX3.out.frozen 3)
  have HOC : Hid (Only (fun j => j = cb ∨ (w0.heap.size ≤ j ∧ ¬ D j)) w w3) := Lib.hid (((HO1.out.mono fun j hj => .inr ⟨Nat.le_trans HHD.out.2.2.2 hj, fun e => Nat.not_le.2 (HHD.out.1 j e) hj⟩).trans (HX2.out.mono fun j hj => .inr ⟨Nat.le_trans HHD.out.2.2.2 (Nat.le_trans HO1.out.size hj), fun e => Nat.not_le.2 (HHD.out.1 j e) (Nat.le_trans HO1.out.size hj)⟩)).trans (HOC3.out.mono fun j hj => hj.imp id fun hj => ⟨hj.1, fun e => hj.2 (.inl e)⟩))
  have hk := it_set (a' := .slice P pn pc) (b' := .slice U un uc) (c' := .int .i64 i2) (d' := .int .i64 i3) HBX3.out
  refine bodyPost_ret (results_cell3 rfl rfl rfl rfl (load_item hk.1)) rfl ?_
  have hbw := HO1.out.size
  have hsz := HHD.out.2.2.2
  have hb3 := HX2.out.size
  refine ⟨P, pn, pc, U, un, uc, i2, i3, t, er, rfl, HOC.out.trans (hk.2.mono fun j hj => .inr ⟨by have h2 : j = w.heap.size := hj; omega, fun e => by have h1 := HHD.out.1 j e; have h2 : j = w.heap.size := hj; omega⟩), HG.out.step (hk.2.mono fun j hj => .inl ⟨.inr hj, fun e => HCN.out (by rw [← e]; exact hj)⟩) (fun j hj => .inl (.inl hj)) (fun j hj => Nat.lt_of_lt_of_le (HD1.out j hj) hb3) (Nat.le_trans hbw hb3)⟩
end
end Go.Proofs.Ytnjhpjpeeehagaa

/-
  step: to the next place of one side.
-/
set_option linter.unusedVariables false
namespace Go.Proofs.Ytnjhpjpeeehagaa
open Go.RowKit

theorem its_stab {F : Nat → Prop} {w : World} {A : Option Addr} {n c K : Nat} {l : List It} (h : SRw itE F w (.slice A n c) l) (hk : K < n) : ∃ (b off : Nat) (P : Option Addr) (p : Nat) (y : It), A = some ⟨b, off, none⟩ ∧ b < w.heap.size ∧ l[K]? = some y ∧ w.cell? ⟨b, off + K * 4, none⟩ = some (.slice P y.1.length p) ∧ Stab F w (fun W => Src W (.slice P y.1.length p) y.1) := by
  obtain ⟨C, hC⟩ := h
  have h0 := hC.now
  have hln := h0.rw_.len
  obtain ⟨y, hy⟩ : ∃ y, l[K]? = some y := ⟨_, List.getElem?_eq_getElem (by omega)⟩
  obtain ⟨A', c', e, hl, hr, _⟩ := h0.2
  simp only [Value.slice.injEq] at e
  obtain ⟨rfl, _, rfl⟩ := e
  obtain ⟨cs, a1, g1⟩ := h0.1.get (fun _ _ => itE.len) hy
  obtain ⟨P, p, Q, q, rfl, s1, s2⟩ := a1
  have hc0 := g1 0 _ rfl
  obtain ⟨b, off, rfl, hb, hcell⟩ := hr (by have := (List.getElem?_eq_some_iff.1 hc0).1; omega)
  refine ⟨b, off, P, p, y, rfl, hb, hy, hcell _ _ hc0, fun W hW => ?_⟩
  obtain ⟨cs', a2, g2⟩ := (hC W hW).1.get (fun _ _ => itE.len) hy
  obtain ⟨P', p', Q', q', rfl, t1, t2⟩ := a2
  have hc1 := g2 0 _ rfl
  rw [hc0] at hc1
  simp only [Option.some.injEq, Value.slice.injEq] at hc1
  obtain ⟨rfl, _, rfl⟩ := hc1
  exact t1
theorem path_node {D : Nat → Prop} {B n c g i : Nat} {w : World} {p : List Sp} {s : Sp} (h : PathO D B w (some ⟨g, 0, none⟩) n c p) (hs : p[i]? = some s) : ∃ (Q R : Option Addr) (q1 q2 t r : Nat), w.cell? ⟨g, i * 5 + 2, none⟩ = some (.slice Q q1 q2) ∧ w.cell? ⟨g, i * 5 + 4, none⟩ = some (.int .i64 s.2.2) ∧ SNod (fun j => D j ∨ some g = some j) w s.2.1 s.2.1.leaf (.slice Q q1 q2) (.slice R t r) ∧ w.frozen? ⟨g, i * 5 + 4, none⟩ = false := by
  obtain ⟨C, hn, ho, hne, hd⟩ := h
  obtain ⟨_, _, _, hsrc⟩ := own_srcz ho
  obtain ⟨cs, a1, g1⟩ := hd.get d_len hs
  obtain ⟨f, v, u, rfl, hN⟩ := a1
  have h0 := hN.nod.now
  obtain rfl := h0.1
  obtain ⟨Q, q, R, r, rfl, rfl⟩ := h0.out
  have h2 := hsrc _ rfl _ _ (g1 2 _ rfl)
  have h4 := hsrc _ rfl _ _ (g1 4 _ rfl)
  rw [Addr.add_lit, Nat.zero_add] at h2 h4
  exact ⟨_, _, _, _, _, _, h2, h4, hN, ho.frozenAt _⟩
section
variable {Ex : Nat → Prop} {w0 : World} {S : Value} {ed : Bool → Int → Int × List Sp} {sk : Bytes → Int × List Sp} {H : Prop} {l : List Nm} {root : Int} {h : Nat} {seg : List It}
set_option maxRecDepth 100000 in
set_option maxHeartbeats 6400000 in
theorem step_c (T : Tr Ex w0 S ed sk H l root h seg) (w : World) (h00 : Lat Ex w0 w) (cb : Nat) (D : Nat → Prop) (hD : ∀ j, D j → j < w.heap.size) (hcD : D cb) (hcw0 : w0.heap.size ≤ cb) (n : Nat) (hc : CurAt l root h seg S D w0.heap.size cb w (some n)) (side : Int) (hs : side = 1 ∨ side = -1) :
    Calls Try.prog 32 #[.pointer (some ⟨cb, 0, none⟩), .int .i64 side] w (GotSays H l root h seg S D w0.heap.size cb (fun j => j = cb ∨ (w0.heap.size ≤ j ∧ ¬ D j)) w ((n : Int) + side)) := by
  obtain ⟨g, m, c, p, hc1, hp, hP, hI⟩ := hc
  obtain ⟨hP2, hLd⟩ := step_case T hP hI side hs
  have hlen := hP.len
  have hh := T.hh
  have hpm : m = p.length := by obtain ⟨C, h1, _⟩ := hp; exact h1
  have hpos : 0 < p.length := List.length_pos_iff.2 hP.ne
  obtain ⟨i, hi⟩ : ∃ i, m = i + 1 := ⟨m - 1, by omega⟩
  obtain ⟨r, x, K, hl, hK⟩ := hI
  have hpi : p[i]? = some (r, x, (K : Int)) := by rw [List.getLast?_eq_getElem?, ← hpm, hi] at hl; exact hl
  have hsml := (hP.br T.few i _ hpi).1
  obtain ⟨y0, hy0⟩ : ∃ y0, x.its[K]? = some y0 := ⟨_, List.getElem?_eq_getElem hK⟩
  have hseg : seg[n]? = some y0 := by
    obtain ⟨r', x', K', e1, e2, e3⟩ := hP.item
    rw [hl] at e1
    cases e1
    obtain ⟨a1, a2, a3⟩ := e3 ⟨by omega, by omega⟩
    rw [Int.toNat_natCast, Int.toNat_natCast, hy0] at a3
    exact a3
  have hcmp : ∀ z : It, 0 ≤ (n : Int) + side → seg[((n : Int) + side).toNat]? = some z → cmp z.1 y0.1 = side := fun z h0 hz => cmp_side T hs hseg h0 hz
  obtain ⟨w1, hw1⟩ : ∃ W0, W0 = w.alloc (.cells #[.slice none 0 0, .slice none 0 0, .int .i64 0, .int .i64 0] 39) := ⟨_, rfl⟩
  have HO1 : Hid (Only (w.heap.size ≤ ·) w w1) := Lib.hid (by rw [hw1]; exact (Only.refl _ w).alloc (fun _ h => h) _)
  have HBX : Hid (Blk w1 w.heap.size 39 [.slice none 0 0, .slice none 0 0, .int .i64 0, .int .i64 0]) := Lib.hid (by rw [hw1]; exact Blk.new w _ _)
  have HD1 : Hid (∀ j, (D j ∨ j = w.heap.size) → j < w1.heap.size) := Lib.hid (fun j hj => by have h1 := HBX.out.lt; rcases hj with hj | hj; exact Nat.lt_of_lt_of_le (hD j hj) HO1.out.size; omega)
  have H01 := Lib.hid (lat_new h00 HO1.out)
  have HCN : Hid (cb ≠ w.heap.size) := Lib.hid (fun e => by have h1 := hD cb hcD; omega)
  have HHD := Lib.hid (And.intro hD (And.intro hcD (And.intro hcw0 h00.size)))
  have HE1 := Lib.hid hw1
  clear hw1
  have HP1 : Hid (PathO (fun j => D j ∨ j = w.heap.size) w0.heap.size w1 (some ⟨g, 0, none⟩) m c p) := Lib.hid (hp.step (HO1.out.mono fun j hj => .inr hj) fun j hj => hj.imp id fun h => Nat.le_of_eq h.symm)
  have HGB : Hid (w0.heap.size ≤ g ∧ g < w1.heap.size ∧ ¬ (D g ∨ g = w.heap.size)) := Lib.hid (by obtain ⟨g', e, h1, h2, h3⟩ := HP1.out.at_ (by omega); cases e; exact ⟨h1, h2, h3⟩)
  obtain ⟨Q, R, q1, q2, t9, r9, k2, k4, hN, f4⟩ := path_node HP1.out hpi
  have hq1 : K < q1 := by rw [hN.nod.now.2.1.len]; exact hK
  obtain ⟨ib, io, KP, kp, y1, rfl, hib, hy1, k0, hks⟩ := its_stab hN.2.1 hq1
  rw [hy0] at hy1
  cases hy1
  have HCB := Lib.hid (hc1.later HO1.out)
  obtain ⟨kn, hkn⟩ : ∃ z, z = y0.1.length := ⟨_, rfl⟩
  rw [← hkn] at k0 hks
  obtain ⟨K2, hK2⟩ : ∃ z : Int, z = (K : Int) + side := ⟨_, rfl⟩
  have hKb : K < 1000 := by
    have h1 : x.its.length ≤ 1000 := hsml.1
    omega
  have HKS := Lib.hid hks
  have HCMP := Lib.hid hcmp
  have hshift : shift side p = p.set i (r, x, K2) := by rw [shift_set hl, hK2, ← hpm, hi]; rfl
  have HPI := Lib.hid (And.intro hpi hshift)
  have HST : Hid (∀ W : World, Lat Ex w0 W → w1.heap.size ≤ W.heap.size → Blk W cb 75 [S, .int .i64 root, .slice (some ⟨g, 0, none⟩) m c] → PathO (fun j => D j ∨ j = w.heap.size) w0.heap.size W (some ⟨g, 0, none⟩) m c (shift side p) → Calls Try.prog 31 #[.pointer (some ⟨cb, 0, none⟩), .slice (some ⟨g, 0, none⟩) m c, .int .i64 0, .int .i64 side] W (GotSays H l root h seg S (fun j => D j ∨ j = w.heap.size) w0.heap.size cb (fun j => j = cb ∨ j = g ∨ W.heap.size ≤ j) W ((n : Int) + side))) := Lib.hid (fun W hW hz h1 h2 => settle_t T W hW cb _ h1 _ (fun j hj => Nat.lt_of_lt_of_le (HD1.out j hj) hz) (.inl hcD) hcw0 g m c _ _ h2 hP2 side hs hLd)
  have HK0 := Lib.hid (And.intro k2 (And.intro k4 k0))
  have HF4 : Hid (∀ W : World, Only (w1.heap.size ≤ ·) w1 W → W.frozen? ⟨g, i * 5 + 4, none⟩ = false) := Lib.hid (fun W hW => by obtain ⟨Q', R', q1', q2', t9', r9', _, _, _, f⟩ := path_node (HP1.out.later hW) HPI.out.1; exact f)
  have KS1 : Hid (∀ W : World, Only (w1.heap.size ≤ ·) w1 W → (fun W : World => W.cell? ⟨cb, 2, none⟩ = some (.slice (some ⟨g, 0, none⟩) m c)) W) := Lib.hid (fun W hW => (HCB.out.later hW).cell 2)
  have KS2 : Hid (∀ W : World, Only (w1.heap.size ≤ ·) w1 W → (fun W : World => W.cell? ⟨g, i * 5 + 2, none⟩ = some (.slice (some ⟨ib, io, none⟩) q1 q2) ∧ W.cell? ⟨g, i * 5 + 4, none⟩ = some (.int .i64 (K : Nat)) ∧ W.cell? ⟨ib, io + K * 4, none⟩ = some (.slice KP kn kp)) W) := Lib.hid (fun W hW => ⟨cu_cell HK0.out.1 hW, cu_cell HK0.out.2.1 hW, cu_cell HK0.out.2.2 hW⟩)
  have HXD : Hid (Only (w1.heap.size ≤ ·) w1 w1.drew) := Lib.hid (Only.refl _ w1).drew
  have HSX := Lib.hid (KS1.out _ HXD.out)
  have c1 : IntKind.i64.wrap ((m : Int) - 1) = ((i : Nat) : Int) := by rw [IntWalk.i64_in _ (by omega)]; omega
  have c2 : i < m := by omega
  have HC2 : Hid (wrap64 ((K : Int) + side) = K2) := Lib.hid (by rw [IntWalk.wrap64_in _ (by rcases hs with h | h <;> omega)]; omega)
  have HQ1 := Lib.hid hq1
  clear hc1 hp hP hl hK hpi hsml hy0 hseg hcmp hP2 hLd hlen hh hpm hpos hi k2 k4 hN f4 hq1 hib k0 hks hkn hK2 hKb hshift T h00 hD hcD hcw0 hs
  go_enter Try.func32, Try.ntmps32
  go_upto_region 1 with (fail)
  rw [← HE1.out]
  clear HE1
  refine wp_region_list (B := [false, false, false, false, false, false, false, false, false, false, false, false]) (S := (fun W : World => W.cell? ⟨cb, 2, none⟩ = some (.slice (some ⟨g, 0, none⟩) m c))) (by kernel_rfl) (by kernel_rfl) (by kernel_rfl) HSX.out (fun hsel hHeld => ?_)
  generalize hwz : World.drew _ = wd at HSX HXD hHeld ⊢
  clear hwz
  refine oneA 0 12 hsel (h := ?_)
  simp only [Act.put, List.setIfInBounds_toArray, List.set_cons_zero, List.set_cons_succ]
  refine oneA 1 13 hsel (h := ?_)
  simp only [Act.put, List.setIfInBounds_toArray, List.set_cons_zero, List.set_cons_succ]
  refine oneA 2 14 hsel (h := ?_)
  simp only [Act.put, List.setIfInBounds_toArray, List.set_cons_zero, List.set_cons_succ]
  refine oneA 3 15 hsel (h := ?_)
  simp only [Act.put, List.setIfInBounds_toArray, List.set_cons_zero, List.set_cons_succ]
  refine oneA 4 16 hsel (h := ?_)
  simp only [Act.put, List.setIfInBounds_toArray, List.set_cons_zero, List.set_cons_succ]
  refine oneA 5 17 hsel (h := ?_)
  simp only [Act.put, List.setIfInBounds_toArray, List.set_cons_zero, List.set_cons_succ]
  refine oneA 6 18 hsel (h := ?_)
  simp only [Act.put, List.setIfInBounds_toArray, List.set_cons_zero, List.set_cons_succ]
  refine oneA 7 19 hsel (h := ?_)
  simp only [Act.put, List.setIfInBounds_toArray, List.set_cons_zero, List.set_cons_succ]
  refine oneA 8 20 hsel (h := ?_)
  simp only [Act.put, List.setIfInBounds_toArray, List.set_cons_zero, List.set_cons_succ]
  refine oneA 9 21 hsel (h := ?_)
  simp only [Act.put, List.setIfInBounds_toArray, List.set_cons_zero, List.set_cons_succ]
  refine oneA 10 22 hsel (h := ?_)
  simp only [Act.put, List.setIfInBounds_toArray, List.set_cons_zero, List.set_cons_succ]
  refine oneA 11 7 hsel (h := ?_)
  simp only [Act.put, List.setIfInBounds_toArray, List.set_cons_zero, List.set_cons_succ]
  refine wpAnyL_done (by kernel_rfl) (by kernel_rfl) ?_ _
  clear hsel hHeld
  clear c1 c2
  have HXE : Hid (Only (w1.heap.size ≤ ·) w1 wd.drew) := Lib.hid HXD.out.drew
  have HSY := Lib.hid (KS2.out _ HXE.out)
  have hq1 : K < q1 := HQ1.out
  go_upto_region 2 with (fail)
  refine wp_region_list (B := [false, false, false, false, false, false, false, false, false, false, false, false, false]) (S := (fun W : World => W.cell? ⟨g, i * 5 + 2, none⟩ = some (.slice (some ⟨ib, io, none⟩) q1 q2) ∧ W.cell? ⟨g, i * 5 + 4, none⟩ = some (.int .i64 (K : Nat)) ∧ W.cell? ⟨ib, io + K * 4, none⟩ = some (.slice KP kn kp))) (by kernel_rfl) (by kernel_rfl) (by kernel_rfl) HSY.out (fun hsel hHeld => ?_)
  generalize hwz : World.drew _ = we at HSY HXE hHeld ⊢
  clear hwz
  refine oneA 0 23 hsel (h := ?_)
  simp only [Act.put, List.setIfInBounds_toArray, List.set_cons_zero, List.set_cons_succ]
  refine oneA 1 24 hsel (h := ?_)
  simp only [Act.put, List.setIfInBounds_toArray, List.set_cons_zero, List.set_cons_succ]
  refine oneA 2 25 hsel (h := ?_)
  simp only [Act.put, List.setIfInBounds_toArray, List.set_cons_zero, List.set_cons_succ]
  refine oneA 3 26 hsel (h := ?_)
  simp only [Act.put, List.setIfInBounds_toArray, List.set_cons_zero, List.set_cons_succ]
  refine oneA 4 27 hsel (h := ?_)
  simp only [Act.put, List.setIfInBounds_toArray, List.set_cons_zero, List.set_cons_succ]
  refine oneA 5 28 hsel (h := ?_)
  simp only [Act.put, List.setIfInBounds_toArray, List.set_cons_zero, List.set_cons_succ]
  refine oneA 6 29 hsel (h := ?_)
  simp only [Act.put, List.setIfInBounds_toArray, List.set_cons_zero, List.set_cons_succ]
  refine oneA 7 30 hsel (h := ?_)
  simp only [Act.put, List.setIfInBounds_toArray, List.set_cons_zero, List.set_cons_succ]
  refine oneA 8 31 hsel (h := ?_)
  simp only [Act.put, List.setIfInBounds_toArray, List.set_cons_zero, List.set_cons_succ]
  refine oneA 9 32 hsel (h := ?_)
  simp only [Act.put, List.setIfInBounds_toArray, List.set_cons_zero, List.set_cons_succ]
  refine oneA 10 33 hsel (h := ?_)
  simp only [Act.put, List.setIfInBounds_toArray, List.set_cons_zero, List.set_cons_succ]
  refine oneA 11 34 hsel (h := ?_)
  simp only [Act.put, List.setIfInBounds_toArray, List.set_cons_zero, List.set_cons_succ]
  refine oneA 12 8 hsel (h := ?_)
  simp only [Act.put, List.setIfInBounds_toArray, List.set_cons_zero, List.set_cons_succ]
  refine wpAnyL_done (by kernel_rfl) (by kernel_rfl) ?_ _
  clear hsel hHeld
  clear hq1
  have HP5 : Hid (PathO (fun j => D j ∨ j = w.heap.size) w0.heap.size we (some ⟨g, 0, none⟩) m c p) := Lib.hid (HP1.out.later HXE.out)
  obtain ⟨w5, hw5⟩ : ∃ W0, W0 = we.setCell ⟨g, i * 5 + 4, none⟩ (.int .i64 K2) := ⟨_, rfl⟩
  have hsk := HP5.out.setK HPI.out.1 K2
  rw [← HPI.out.2, ← hw5] at hsk
  have HP6 := Lib.hid hsk.1
  have HO6 := Lib.hid hsk.2
  have HE5 := Lib.hid hw5
  clear hsk hw5
  have k4 := HSY.out.2.1
  have f4 := HF4.out we HXE.out
  have c2 := HC2.out
  go_upto_region 4 with (fail)
  rw [← HE5.out]
  clear k4 f4 c2 HE5
  have HCG : Hid (cb ≠ g) := Lib.hid (fun e => HGB.out.2.2 (.inl (e ▸ HHD.out.2.1)))
  have HC5 : Hid (Blk w5 cb 75 [S, .int .i64 root, .slice (some ⟨g, 0, none⟩) m c]) := Lib.hid ((HCB.out.later HXE.out).only HO6.out HCG.out)
  have H05 : Hid (Lat Ex w0 w5) := Lib.hid ((lat_new H01.out HXE.out).trans (HO6.out.mono fun j hj => .inr (by have h1 := HGB.out.1; have h2 : j = g := hj; omega)))
  have HSZ5 : Hid (w1.heap.size ≤ w5.heap.size) := Lib.hid (Nat.le_trans HXE.out.size HO6.out.size)
  have q2c := HC5.out.cell 2
  go_upto_region 5 with (go_at_call 31; (with_reducible refine (HST.out w5 H05.out HSZ5.out HC5.out HP6.out).mono ?_); rintro e w6 ⟨P, pn, pc, U, un, uc, i2, i3, t, er, rfl, ho6, hg6⟩; have HO66 := Lib.hid ho6; have HG := Lib.hid hg6; clear ho6 hg6)
  clear q2c
  obtain ⟨w7, hw7⟩ : ∃ W0, W0 = w6.alloc (.cells #[.slice P pn pc, .slice U un uc, .int .i64 i2, .int .i64 i3] 39) := ⟨_, rfl⟩
  have HO7 : Hid (Only (w6.heap.size ≤ ·) w6 w7) := Lib.hid (by rw [hw7]; exact (Only.refl _ w6).alloc (fun _ h => h) _)
  have HB9 : Hid (Blk w7 w6.heap.size 39 [.slice P pn pc, .slice U un uc, .int .i64 i2, .int .i64 i3]) := Lib.hid (by rw [hw7]; exact Blk.new w6 _ _)
  rw [← hw7]
  clear hw7
  generalize hb9 : w6.heap.size = b9 at HB9 ⊢
  have HB9E : Hid (w6.heap.size = b9) := Lib.hid hb9
  clear hb9
  have HO17 : Hid (Only (fun j => ((D j ∨ j = w.heap.size) ∧ j ≠ w.heap.size) ∨ j = g ∨ w1.heap.size ≤ j) w1 w7) := Lib.hid ((((HXE.out.mono fun j hj => .inr (.inr hj)).trans (HO6.out.mono fun j hj => .inr (.inl hj))).trans (HO66.out.mono fun j hj => by
    rcases hj with hj | hj | hj
    · exact .inl ⟨.inl (hj ▸ HHD.out.2.1), fun e => HCN.out (by rw [← hj]; exact e)⟩
    · exact .inr (.inl hj)
    · exact .inr (.inr (Nat.le_trans HSZ5.out hj)))).trans (HO7.out.mono fun j hj => .inr (.inr (Nat.le_trans (Nat.le_trans HSZ5.out HO66.out.size) hj))))
  have HBX7 : Hid (Blk w7 w.heap.size 39 [.slice none 0 0, .slice none 0 0, .int .i64 0, .int .i64 0]) := Lib.hid (HBX.out.only HO17.out (fun e => by
    rcases e with e | e | e
    · exact e.2 rfl
    · exact HGB.out.2.2 (.inr e.symm)
    · have h1 := HBX.out.lt
      omega))
  have HKW : Hid (Src w7 (.slice KP kn kp) y0.1) := Lib.hid (HKS.out w7 (HO17.out.mono fun j hj => by
    rcases hj with hj | hj | hj
    · exact .inl (.inl hj.1)
    · exact .inl (.inr (by rw [hj]))
    · exact .inr hj))
  have HX5S : Hid (w1.heap.size ≤ w5.heap.size ∧ w5.heap.size ≤ w6.heap.size) := Lib.hid ⟨HSZ5.out, HO66.out.size⟩
  have HOC : Hid (Only (fun j => j = cb ∨ (w0.heap.size ≤ j ∧ ¬ D j)) w w6) := Lib.hid ((((HO1.out.mono fun j hj => .inr ⟨Nat.le_trans HHD.out.2.2.2 hj, fun e => Nat.not_le.2 (HHD.out.1 j e) hj⟩).trans (HXE.out.mono fun j hj => .inr ⟨Nat.le_trans HHD.out.2.2.2 (Nat.le_trans HO1.out.size hj), fun e => Nat.not_le.2 (HHD.out.1 j e) (Nat.le_trans HO1.out.size hj)⟩)).trans (HO6.out.mono fun j hj => .inr ⟨by have h1 := HGB.out.1; have h2 : j = g := hj; omega, fun e => HGB.out.2.2 (.inl (by have h2 : j = g := hj; rw [← h2]; exact e))⟩)).trans (HO66.out.mono fun j hj => by
    rcases hj with hj | hj | hj
    · exact .inl hj
    · exact .inr ⟨by have h1 := HGB.out.1; omega, fun e => HGB.out.2.2 (.inl (by rw [← hj]; exact e))⟩
    · exact .inr ⟨by have h1 := HHD.out.2.2.2; have h2 := HO1.out.size; have h3 := HSZ5.out; omega, fun e => by have h1 := HHD.out.1 j e; have h2 := HO1.out.size; have h3 := HSZ5.out; omega⟩))
  have htc : (t = true ∧ ∃ z : It, 0 ≤ (n : Int) + side ∧ seg[((n : Int) + side).toNat]? = some z ∧ Src w7 (.slice P pn pc) z.1) ∨ t = false := by
    rcases HG.out with ⟨z, a1, a2, a3, a4, a5, a6, a7, _⟩ | ⟨a1, a2, a3, a4, a5, a6, a7, a8, a9, a10, _⟩
    · exact .inl ⟨a7, z, a1, a2, (a3.later HO7.out).src⟩
    · exact .inr a10
  obtain ⟨r0, r1, r2, r3⟩ := HB9.out.four
  obtain ⟨q0, q1', q2', q3⟩ := HBX7.out.four
  have f0 := HBX7.out.frozen 0
  have f1 := HBX7.out.frozen 1
  have f2 := HBX7.out.frozen 2
  have f3 := HBX7.out.frozen 3
  rcases htc with ⟨rfl, z, z1, z2, z3⟩ | rfl
  · have HCC : Hid (Calls Try.prog 23 #[.slice P pn pc, .slice KP kn kp] w7 fun e w' => e = .returned (.int .i64 side) ∧ w7 = w') := Lib.hid (by have h1 := Compare_c w7 _ _ _ _ z3 HKW.out; rw [HCMP.out z z1 z2] at h1; exact h1)
    have hss : (side != side) = false := by simp
    clear z1 z2 z3
    go_wp2_with (go_at_call 23; (with_reducible refine HCC.out.mono ?_); rintro e w' ⟨rfl, rfl⟩)
    have hk := it_set (a' := .slice P pn pc) (b' := .slice U un uc) (c' := .int .i64 i2) (d' := .int .i64 i3) HBX7.out
    refine bodyPost_ret (results_cell3 rfl rfl rfl rfl (load_item hk.1)) rfl ?_
    have hbw := HO1.out.size
    have hsz := HHD.out.2.2.2
    have hb3 := HX5S.out.1
    have hb5 := HX5S.out.2
    refine ⟨P, pn, pc, U, un, uc, i2, i3, _, er, rfl, (HOC.out.trans (HO7.out.mono fun j hj => .inr ⟨by omega, fun e => by have h1 := HHD.out.1 j e; omega⟩)).trans (hk.2.mono fun j hj => .inr ⟨by have h2 : j = w.heap.size := hj; omega, fun e => by have h1 := HHD.out.1 j e; have h2 : j = w.heap.size := hj; omega⟩), (HG.out.step (D' := fun j => D j ∨ j = w.heap.size) (HO7.out.mono fun j hj => .inr hj) (fun j hj => .inl hj) (fun j hj => Nat.lt_of_lt_of_le (HD1.out j hj) hb3) (Nat.le_refl _)).step (hk.2.mono fun j hj => .inl ⟨.inr hj, fun e => HCN.out (by rw [← e]; exact hj)⟩) (fun j hj => .inl (.inl hj)) (fun j hj => Nat.lt_of_lt_of_le (HD1.out j hj) hb3) (Nat.le_trans hbw hb3)⟩
  · go_wp2
    have hk := it_set (a' := .slice P pn pc) (b' := .slice U un uc) (c' := .int .i64 i2) (d' := .int .i64 i3) HBX7.out
    refine bodyPost_ret (results_cell3 rfl rfl rfl rfl (load_item hk.1)) rfl ?_
    have hbw := HO1.out.size
    have hsz := HHD.out.2.2.2
    have hb3 := HX5S.out.1
    have hb5 := HX5S.out.2
    refine ⟨P, pn, pc, U, un, uc, i2, i3, _, er, rfl, (HOC.out.trans (HO7.out.mono fun j hj => .inr ⟨by omega, fun e => by have h1 := HHD.out.1 j e; omega⟩)).trans (hk.2.mono fun j hj => .inr ⟨by have h2 : j = w.heap.size := hj; omega, fun e => by have h1 := HHD.out.1 j e; have h2 : j = w.heap.size := hj; omega⟩), (HG.out.step (D' := fun j => D j ∨ j = w.heap.size) (HO7.out.mono fun j hj => .inr hj) (fun j hj => .inl hj) (fun j hj => Nat.lt_of_lt_of_le (HD1.out j hj) hb3) (Nat.le_refl _)).step (hk.2.mono fun j hj => .inl ⟨.inr hj, fun e => HCN.out (by rw [← e]; exact hj)⟩) (fun j hj => .inl (.inl hj)) (fun j hj => Nat.lt_of_lt_of_le (HD1.out j hj) hb3) (Nat.le_trans hbw hb3)⟩
end
end Go.Proofs.Ytnjhpjpeeehagaa

/-
  Next, Prev; a call of any kind.
-/
set_option linter.unusedVariables false
namespace Go.Proofs.Ytnjhpjpeeehagaa
open Go.RowKit

section
variable {Ex : Nat → Prop} {w0 : World} {S : Value} {ed : Bool → Int → Int × List Sp} {sk : Bytes → Int × List Sp} {H : Prop} {l : List Nm} {root : Int} {h : Nat} {seg : List It}
def nxtP : Option Nat → Int
  | none => 0
  | some n => (n : Int) + 1
def prvP (seg : List It) : Option Nat → Int
  | none => ((seg.length - 1 : Nat) : Int)
  | some n => (n : Int) + (-1)
theorem got_end {D : Nat → Prop} {w w1 w3 w4 : World} {cb bx : Nat} {n : Int} {P U : Option Addr} {pn pc un uc : Nat} {i2 i3 er : Int} {t : Bool} (hD : ∀ j, D j → j < w.heap.size) (h0 : w0.heap.size ≤ w.heap.size) (hbx : w.heap.size ≤ bx) (ho1 : Only (w.heap.size ≤ ·) w w1) (hcn : cb ≠ bx) (hD1 : ∀ j, (D j ∨ j = bx) → j < w1.heap.size) (ho3 : Only (fun j => j = cb ∨ (w0.heap.size ≤ j ∧ ¬ (D j ∨ j = bx))) w1 w3) (hg : Got H l root h seg S (fun j => D j ∨ j = bx) w0.heap.size cb w1.heap.size w3 n P pn pc U un uc i2 i3 t er) (ho4 : Only (fun j => j = bx) w3 w4) :
    Only (fun j => j = cb ∨ (w0.heap.size ≤ j ∧ ¬ D j)) w w4 ∧ Got H l root h seg S D w0.heap.size cb w.heap.size w4 n P pn pc U un uc i2 i3 t er := by
  refine ⟨((ho1.mono fun j hj => .inr ⟨by omega, fun e => by have := hD j e; omega⟩).trans (ho3.mono fun j hj => hj.imp id fun hj => ⟨hj.1, fun e => hj.2 (.inl e)⟩)).trans (ho4.mono fun j hj => .inr ⟨by have h2 : j = bx := hj; omega, fun e => by have h1 := hD j e; have h2 : j = bx := hj; omega⟩), ?_⟩
  exact hg.step (ho4.mono fun j hj => .inl ⟨.inr hj, fun e => hcn (by rw [← e]; exact hj)⟩) (fun j hj => .inl (.inl hj)) hD1 ho1.size
set_option maxRecDepth 100000 in
set_option maxHeartbeats 6400000 in
theorem Next_c (T : Tr Ex w0 S ed sk H l root h seg) (w : World) (h00 : Lat Ex w0 w) (cb : Nat) (D : Nat → Prop) (hD : ∀ j, D j → j < w.heap.size) (hcD : D cb) (hcw0 : w0.heap.size ≤ cb) (o : Option Nat) (hc : CurAt l root h seg S D w0.heap.size cb w o) :
    Calls Try.prog 17 #[.pointer (some ⟨cb, 0, none⟩)] w (GotSays H l root h seg S D w0.heap.size cb (fun j => j = cb ∨ (w0.heap.size ≤ j ∧ ¬ D j)) w (nxtP o)) := by
  obtain ⟨w1, hw1⟩ : ∃ W0, W0 = w.alloc (.cells #[.slice none 0 0, .slice none 0 0, .int .i64 0, .int .i64 0] 39) := ⟨_, rfl⟩
  obtain ⟨bx, hbx⟩ : ∃ z, z = w.heap.size := ⟨_, rfl⟩
  have HBW : Hid (w.heap.size ≤ bx) := Lib.hid (by omega)
  have HO1 : Hid (Only (w.heap.size ≤ ·) w w1) := Lib.hid (by rw [hw1]; exact (Only.refl _ w).alloc (fun _ h => h) _)
  have HBX : Hid (Blk w1 bx 39 [.slice none 0 0, .slice none 0 0, .int .i64 0, .int .i64 0]) := Lib.hid (by rw [hw1, hbx]; exact Blk.new w _ _)
  have HD1 : Hid (∀ j, (D j ∨ j = bx) → j < w1.heap.size) := Lib.hid (fun j hj => by have h1 := HBX.out.lt; rcases hj with hj | hj; exact Nat.lt_of_lt_of_le (hD j hj) HO1.out.size; omega)
  have H01 := Lib.hid (lat_new h00 HO1.out)
  have HCN : Hid (cb ≠ bx) := Lib.hid (fun e => by have h1 := hD cb hcD; have h2 := HBW.out; omega)
  have HHD := Lib.hid (And.intro hD (And.intro hcD (And.intro hcw0 h00.size)))
  have HE1 := Lib.hid (And.intro hw1 hbx)
  clear hw1 hbx
  have HC1 : Hid (CurAt l root h seg S (fun j => D j ∨ j = bx) w0.heap.size cb w1 o) := Lib.hid (hc.step (HO1.out.mono fun j hj => .inr hj) fun j hj => hj.imp id fun hj => by have h1 := HBW.out; omega)
  have hlt1 : ∀ j, (D j ∨ j = bx) → j < w1.heap.size := HD1.out
  cases o with
  | none =>
    have HCA := Lib.hid (First_c T w1 H01.out cb (fun j => D j ∨ j = bx) hlt1 (.inl hcD) hcw0 _ HC1.out)
    have k2 : w1.cell? ⟨cb, 2, none⟩ = some (.slice none 0 0) := HC1.out.cell 2
    clear hc T h00 hD hcD hcw0 hlt1
    go_enter Try.func17, Try.ntmps17
    go_upto_region 1 with (fail)
    rw [← HE1.out.1, ← HE1.out.2]
    clear HE1
    go_wp2_with (go_at_call 16; (with_reducible refine (HCA.out).mono ?_); rintro e w3 ⟨P, pn, pc, U, un, uc, i2, i3, t, er, rfl, ho3, hg3⟩; have HOC3 := Lib.hid ho3; have HG := Lib.hid hg3; clear ho3 hg3; (have HBX3 : Hid (Blk w3 bx 39 [.slice none 0 0, .slice none 0 0, .int .i64 0, .int .i64 0]) := Lib.hid (HBX.out.only HOC3.out (fun e => by rcases e with e | e; exact HCN.out e.symm; exact e.2 (.inr rfl)))); (obtain ⟨q0, q1, q2, q3⟩ := HBX3.out.four); have f0 := HBX3.out.frozen 0; have f1 := HBX3.out.frozen 1; have f2 := HBX3.out.frozen 2; have f3 := HBX3.out.frozen 3)
    have hk := it_set (a' := .slice P pn pc) (b' := .slice U un uc) (c' := .int .i64 i2) (d' := .int .i64 i3) HBX3.out
    refine bodyPost_ret (results_cell3 rfl rfl rfl rfl (load_item hk.1)) rfl ?_
    exact ⟨P, pn, pc, U, un, uc, i2, i3, t, er, rfl, (got_end HHD.out.1 HHD.out.2.2.2 HBW.out HO1.out HCN.out HD1.out HOC3.out HG.out hk.2).1, (got_end HHD.out.1 HHD.out.2.2.2 HBW.out HO1.out HCN.out HD1.out HOC3.out HG.out hk.2).2⟩
  | some n =>
    have HCA := Lib.hid (step_c T w1 H01.out cb (fun j => D j ∨ j = bx) hlt1 (.inl hcD) hcw0 n HC1.out 1 (.inl rfl))
    obtain ⟨g, m, c, p, hc1, hp, hP, hI⟩ := HC1.out
    have k2 : w1.cell? ⟨cb, 2, none⟩ = some (.slice (some ⟨g, 0, none⟩) m c) := hc1.cell 2
    have hm0 : 0 < m := by
      obtain ⟨C, e, _⟩ := hp
      rw [e]
      exact List.length_pos_iff.2 hP.ne
    have hm1 : ((m : Int) == 0) = false := by simp; omega
    have hm2 : ¬ (m : Int) = 0 := by omega
    have hm3 : ¬ m = 0 := by omega
    clear hc T h00 hD hcD hcw0 hc1 hp hP hI hlt1 hm0
    go_enter Try.func17, Try.ntmps17
    go_upto_region 1 with (fail)
    rw [← HE1.out.1, ← HE1.out.2]
    clear HE1
    go_wp2_with (go_at_call 32; (with_reducible refine (HCA.out).mono ?_); rintro e w3 ⟨P, pn, pc, U, un, uc, i2, i3, t, er, rfl, ho3, hg3⟩; have HOC3 := Lib.hid ho3; have HG := Lib.hid hg3; clear ho3 hg3; (have HBX3 : Hid (Blk w3 bx 39 [.slice none 0 0, .slice none 0 0, .int .i64 0, .int .i64 0]) := Lib.hid (HBX.out.only HOC3.out (fun e => by rcases e with e | e; exact HCN.out e.symm; exact e.2 (.inr rfl)))); (obtain ⟨q0, q1, q2, q3⟩ := HBX3.out.four); have f0 := HBX3.out.frozen 0; have f1 := HBX3.out.frozen 1; have f2 := HBX3.out.frozen 2; have f3 := HBX3.out.frozen 3)
    have hk := it_set (a' := .slice P pn pc) (b' := .slice U un uc) (c' := .int .i64 i2) (d' := .int .i64 i3) HBX3.out
    refine bodyPost_ret (results_cell3 rfl rfl rfl rfl (load_item hk.1)) rfl ?_
    exact ⟨P, pn, pc, U, un, uc, i2, i3, t, er, rfl, (got_end HHD.out.1 HHD.out.2.2.2 HBW.out HO1.out HCN.out HD1.out HOC3.out HG.out hk.2).1, (got_end HHD.out.1 HHD.out.2.2.2 HBW.out HO1.out HCN.out HD1.out HOC3.out HG.out hk.2).2⟩
set_option maxRecDepth 100000 in
set_option maxHeartbeats 6400000 in
theorem Prev_c (T : Tr Ex w0 S ed sk H l root h seg) (w : World) (h00 : Lat Ex w0 w) (cb : Nat) (D : Nat → Prop) (hD : ∀ j, D j → j < w.heap.size) (hcD : D cb) (hcw0 : w0.heap.size ≤ cb) (o : Option Nat) (hc : CurAt l root h seg S D w0.heap.size cb w o) :
    Calls Try.prog 19 #[.pointer (some ⟨cb, 0, none⟩)] w (GotSays H l root h seg S D w0.heap.size cb (fun j => j = cb ∨ (w0.heap.size ≤ j ∧ ¬ D j)) w (prvP seg o)) := by
  obtain ⟨w1, hw1⟩ : ∃ W0, W0 = w.alloc (.cells #[.slice none 0 0, .slice none 0 0, .int .i64 0, .int .i64 0] 39) := ⟨_, rfl⟩
  obtain ⟨bx, hbx⟩ : ∃ z, z = w.heap.size := ⟨_, rfl⟩
  have HBW : Hid (w.heap.size ≤ bx) := Lib.hid (by omega)
  have HO1 : Hid (Only (w.heap.size ≤ ·) w w1) := Lib.hid (by rw [hw1]; exact (Only.refl _ w).alloc (fun _ h => h) _)
  have HBX : Hid (Blk w1 bx 39 [.slice none 0 0, .slice none 0 0, .int .i64 0, .int .i64 0]) := Lib.hid (by rw [hw1, hbx]; exact Blk.new w _ _)
  have HD1 : Hid (∀ j, (D j ∨ j = bx) → j < w1.heap.size) := Lib.hid (fun j hj => by have h1 := HBX.out.lt; rcases hj with hj | hj; exact Nat.lt_of_lt_of_le (hD j hj) HO1.out.size; omega)
  have H01 := Lib.hid (lat_new h00 HO1.out)
  have HCN : Hid (cb ≠ bx) := Lib.hid (fun e => by have h1 := hD cb hcD; have h2 := HBW.out; omega)
  have HHD := Lib.hid (And.intro hD (And.intro hcD (And.intro hcw0 h00.size)))
  have HE1 := Lib.hid (And.intro hw1 hbx)
  clear hw1 hbx
  have HC1 : Hid (CurAt l root h seg S (fun j => D j ∨ j = bx) w0.heap.size cb w1 o) := Lib.hid (hc.step (HO1.out.mono fun j hj => .inr hj) fun j hj => hj.imp id fun hj => by have h1 := HBW.out; omega)
  have hlt1 : ∀ j, (D j ∨ j = bx) → j < w1.heap.size := HD1.out
  cases o with
  | none =>
    have HCA := Lib.hid (Last_c T w1 H01.out cb (fun j => D j ∨ j = bx) hlt1 (.inl hcD) hcw0 _ HC1.out)
    have k2 : w1.cell? ⟨cb, 2, none⟩ = some (.slice none 0 0) := HC1.out.cell 2
    clear hc T h00 hD hcD hcw0 hlt1
    go_enter Try.func19, Try.ntmps19
    go_upto_region 1 with (fail)
    rw [← HE1.out.1, ← HE1.out.2]
    clear HE1
    go_wp2_with (go_at_call 18; (with_reducible refine (HCA.out).mono ?_); rintro e w3 ⟨P, pn, pc, U, un, uc, i2, i3, t, er, rfl, ho3, hg3⟩; have HOC3 := Lib.hid ho3; have HG := Lib.hid hg3; clear ho3 hg3; (have HBX3 : Hid (Blk w3 bx 39 [.slice none 0 0, .slice none 0 0, .int .i64 0, .int .i64 0]) := Lib.hid (HBX.out.only HOC3.out (fun e => by rcases e with e | e; exact HCN.out e.symm; exact e.2 (.inr rfl)))); (obtain ⟨q0, q1, q2, q3⟩ := HBX3.out.four); have f0 := HBX3.out.frozen 0; have f1 := HBX3.out.frozen 1; have f2 := HBX3.out.frozen 2; have f3 := HBX3.out.frozen 3)
    have hk := it_set (a' := .slice P pn pc) (b' := .slice U un uc) (c' := .int .i64 i2) (d' := .int .i64 i3) HBX3.out
    refine bodyPost_ret (results_cell3 rfl rfl rfl rfl (load_item hk.1)) rfl ?_
    exact ⟨P, pn, pc, U, un, uc, i2, i3, t, er, rfl, (got_end HHD.out.1 HHD.out.2.2.2 HBW.out HO1.out HCN.out HD1.out HOC3.out HG.out hk.2).1, (got_end HHD.out.1 HHD.out.2.2.2 HBW.out HO1.out HCN.out HD1.out HOC3.out HG.out hk.2).2⟩
  | some n =>
    have HCA := Lib.hid (step_c T w1 H01.out cb (fun j => D j ∨ j = bx) hlt1 (.inl hcD) hcw0 n HC1.out (-1) (.inr rfl))
    obtain ⟨g, m, c, p, hc1, hp, hP, hI⟩ := HC1.out
    have k2 : w1.cell? ⟨cb, 2, none⟩ = some (.slice (some ⟨g, 0, none⟩) m c) := hc1.cell 2
    have hm0 : 0 < m := by
      obtain ⟨C, e, _⟩ := hp
      rw [e]
      exact List.length_pos_iff.2 hP.ne
    have hm1 : ((m : Int) == 0) = false := by simp; omega
    have hm2 : ¬ (m : Int) = 0 := by omega
    have hm3 : ¬ m = 0 := by omega
    clear hc T h00 hD hcD hcw0 hc1 hp hP hI hlt1 hm0
    go_enter Try.func19, Try.ntmps19
    go_upto_region 1 with (fail)
    rw [← HE1.out.1, ← HE1.out.2]
    clear HE1
    go_wp2_with (go_at_call 32; (with_reducible refine (HCA.out).mono ?_); rintro e w3 ⟨P, pn, pc, U, un, uc, i2, i3, t, er, rfl, ho3, hg3⟩; have HOC3 := Lib.hid ho3; have HG := Lib.hid hg3; clear ho3 hg3; (have HBX3 : Hid (Blk w3 bx 39 [.slice none 0 0, .slice none 0 0, .int .i64 0, .int .i64 0]) := Lib.hid (HBX.out.only HOC3.out (fun e => by rcases e with e | e; exact HCN.out e.symm; exact e.2 (.inr rfl)))); (obtain ⟨q0, q1, q2, q3⟩ := HBX3.out.four); have f0 := HBX3.out.frozen 0; have f1 := HBX3.out.frozen 1; have f2 := HBX3.out.frozen 2; have f3 := HBX3.out.frozen 3)
    have hk := it_set (a' := .slice P pn pc) (b' := .slice U un uc) (c' := .int .i64 i2) (d' := .int .i64 i3) HBX3.out
    refine bodyPost_ret (results_cell3 rfl rfl rfl rfl (load_item hk.1)) rfl ?_
    exact ⟨P, pn, pc, U, un, uc, i2, i3, t, er, rfl, (got_end HHD.out.1 HHD.out.2.2.2 HBW.out HO1.out HCN.out HD1.out HOC3.out HG.out hk.2).1, (got_end HHD.out.1 HHD.out.2.2.2 HBW.out HO1.out HCN.out HD1.out HOC3.out HG.out hk.2).2⟩
/-- To which place a call leads. -/
def goTo (seg : List It) (o : Option Nat) (k : Int) (key : Bytes) : Int := if k = 0 then (findP seg key : Nat) else if k = 1 then 0 else if k = 2 then ((seg.length - 1 : Nat) : Int) else if k = 3 then nxtP o else prvP seg o
set_option maxRecDepth 100000 in
set_option maxHeartbeats 6400000 in
theorem does_c (T : Tr Ex w0 S ed sk H l root h seg) (w : World) (h00 : Lat Ex w0 w) (cb : Nat) (D : Nat → Prop) (hD : ∀ j, D j → j < w.heap.size) (hcD : D cb) (hcw0 : w0.heap.size ≤ cb) (o : Option Nat) (hc : CurAt l root h seg S D w0.heap.size cb w o) (k : Int) (K : Option Addr) (kn kc : Nat) (key : Bytes) (hkey : Src w (.slice K kn kc) key) :
    Calls Try.prog 14 #[.pointer (some ⟨cb, 0, none⟩), .agg #[.int .i64 k, .slice K kn kc]] w (GotSays H l root h seg S D w0.heap.size cb (fun j => j = cb ∨ (w0.heap.size ≤ j ∧ ¬ D j)) w (goTo seg o k key)) := by
  obtain ⟨w1, hw1⟩ : ∃ W0, W0 = (w.alloc (.cells #[.int .i64 k, .slice K kn kc] 36)).alloc (.cells #[.slice none 0 0, .slice none 0 0, .int .i64 0, .int .i64 0] 39) := ⟨_, rfl⟩
  obtain ⟨bx, hbx⟩ : ∃ z, z = (w.alloc (.cells #[.int .i64 k, .slice K kn kc] 36)).heap.size := ⟨_, rfl⟩
  obtain ⟨bo, hbo⟩ : ∃ z, z = w.heap.size := ⟨_, rfl⟩
  have HBW : Hid (w.heap.size ≤ bx) := Lib.hid (by rw [hbx]; simp)
  have HO1 : Hid (Only (w.heap.size ≤ ·) w w1) := Lib.hid (by rw [hw1]; exact ((Only.refl _ w).alloc (fun _ h => h) _).alloc (fun _ h => h) _)
  have HBX : Hid (Blk w1 bx 39 [.slice none 0 0, .slice none 0 0, .int .i64 0, .int .i64 0]) := Lib.hid (by rw [hw1, hbx]; exact Blk.new _ _ _)
  have HBO : Hid (Blk w1 bo 36 [.int .i64 k, .slice K kn kc]) := Lib.hid (by rw [hw1, hbo]; exact (Blk.new w _ [.int .i64 k, .slice K kn kc]).alloc _)
  have HD1 : Hid (∀ j, (D j ∨ j = bx) → j < w1.heap.size) := Lib.hid (fun j hj => by have h1 := HBX.out.lt; rcases hj with hj | hj; exact Nat.lt_of_lt_of_le (hD j hj) HO1.out.size; omega)
  have H01 := Lib.hid (lat_new h00 HO1.out)
  have HCN : Hid (cb ≠ bx) := Lib.hid (fun e => by have h1 := hD cb hcD; have h2 := HBW.out; omega)
  have HHD := Lib.hid (And.intro hD (And.intro hcD (And.intro hcw0 h00.size)))
  have HE1 := Lib.hid (And.intro hw1 (And.intro hbx hbo))
  clear hw1 hbx hbo
  have HC1 : Hid (CurAt l root h seg S (fun j => D j ∨ j = bx) w0.heap.size cb w1 o) := Lib.hid (hc.step (HO1.out.mono fun j hj => .inr hj) fun j hj => hj.imp id fun hj => by have h1 := HBW.out; omega)
  have hlt1 : ∀ j, (D j ∨ j = bx) → j < w1.heap.size := HD1.out
  obtain ⟨V, hV⟩ : ∃ V, Blk w1 cb 75 [S, .int .i64 root, V] := by
    cases o with
    | none => exact ⟨_, HC1.out⟩
    | some n =>
      obtain ⟨g, m, c, p, h1, _⟩ := HC1.out
      exact ⟨_, h1⟩
  have HKY := Lib.hid (hkey.later HO1.out)
  have ko : w1.cell? ⟨bo, 0, none⟩ = some (.int .i64 k) := HBO.out.cell 0
  have kk : w1.cell? ⟨bo, 1, none⟩ = some (.slice K kn kc) := HBO.out.cell 1
  by_cases h0 : k = 0
  · subst h0
    have HCA := Lib.hid (Seek_c T w1 H01.out cb (fun j => D j ∨ j = bx) hlt1 (.inl hcD) hcw0 V hV K kn kc key HKY.out)
    clear hc T h00 hD hcD hcw0 hlt1 hV hkey
    go_enter Try.func14, Try.ntmps14
    go_upto_region 1 with (fail)
    have hs9 : w.heap.size + 1 = bx := by rw [HE1.out.2.1]; simp
    have hs8 := HE1.out.2.2
    first | rw [← HE1.out.1] | skip
    first | rw [hs9] | skip
    first | rw [← hs8] | skip
    clear HE1 hs9 hs8
    go_wp2_with (go_at_call 20; (with_reducible refine (HCA.out).mono ?_); rintro e w3 ⟨P, pn, pc, U, un, uc, i2, i3, t, er, rfl, ho3, hg3⟩; have HOC3 := Lib.hid ho3; have HG := Lib.hid hg3; clear ho3 hg3; (have HBX3 : Hid (Blk w3 bx 39 [.slice none 0 0, .slice none 0 0, .int .i64 0, .int .i64 0]) := Lib.hid (HBX.out.only HOC3.out (fun e => by rcases e with e | e; exact HCN.out e.symm; exact e.2 (.inr rfl)))); (obtain ⟨q0, q1, q2, q3⟩ := HBX3.out.four); have f0 := HBX3.out.frozen 0; have f1 := HBX3.out.frozen 1; have f2 := HBX3.out.frozen 2; have f3 := HBX3.out.frozen 3)
    have hk := it_set (a' := .slice P pn pc) (b' := .slice U un uc) (c' := .int .i64 i2) (d' := .int .i64 i3) HBX3.out
    refine bodyPost_ret (results_cell3 rfl rfl rfl rfl (load_item hk.1)) rfl ?_
    exact ⟨P, pn, pc, U, un, uc, i2, i3, t, er, rfl, (got_end HHD.out.1 HHD.out.2.2.2 HBW.out HO1.out HCN.out HD1.out HOC3.out HG.out hk.2).1, (got_end HHD.out.1 HHD.out.2.2.2 HBW.out HO1.out HCN.out HD1.out HOC3.out HG.out hk.2).2⟩
  by_cases h1 : k = 1
  · subst h1
    have HCA := Lib.hid (First_c T w1 H01.out cb (fun j => D j ∨ j = bx) hlt1 (.inl hcD) hcw0 V hV)
    clear hc T h00 hD hcD hcw0 hlt1 hV hkey
    go_enter Try.func14, Try.ntmps14
    go_upto_region 1 with (fail)
    have hs9 : w.heap.size + 1 = bx := by rw [HE1.out.2.1]; simp
    have hs8 := HE1.out.2.2
    first | rw [← HE1.out.1] | skip
    first | rw [hs9] | skip
    first | rw [← hs8] | skip
    clear HE1 hs9 hs8
    go_wp2_with (go_at_call 16; (with_reducible refine (HCA.out).mono ?_); rintro e w3 ⟨P, pn, pc, U, un, uc, i2, i3, t, er, rfl, ho3, hg3⟩; have HOC3 := Lib.hid ho3; have HG := Lib.hid hg3; clear ho3 hg3; (have HBX3 : Hid (Blk w3 bx 39 [.slice none 0 0, .slice none 0 0, .int .i64 0, .int .i64 0]) := Lib.hid (HBX.out.only HOC3.out (fun e => by rcases e with e | e; exact HCN.out e.symm; exact e.2 (.inr rfl)))); (obtain ⟨q0, q1, q2, q3⟩ := HBX3.out.four); have f0 := HBX3.out.frozen 0; have f1 := HBX3.out.frozen 1; have f2 := HBX3.out.frozen 2; have f3 := HBX3.out.frozen 3)
    have hk := it_set (a' := .slice P pn pc) (b' := .slice U un uc) (c' := .int .i64 i2) (d' := .int .i64 i3) HBX3.out
    refine bodyPost_ret (results_cell3 rfl rfl rfl rfl (load_item hk.1)) rfl ?_
    exact ⟨P, pn, pc, U, un, uc, i2, i3, t, er, rfl, (got_end HHD.out.1 HHD.out.2.2.2 HBW.out HO1.out HCN.out HD1.out HOC3.out HG.out hk.2).1, (got_end HHD.out.1 HHD.out.2.2.2 HBW.out HO1.out HCN.out HD1.out HOC3.out HG.out hk.2).2⟩
  by_cases h2 : k = 2
  · subst h2
    have HCA := Lib.hid (Last_c T w1 H01.out cb (fun j => D j ∨ j = bx) hlt1 (.inl hcD) hcw0 V hV)
    clear hc T h00 hD hcD hcw0 hlt1 hV hkey
    go_enter Try.func14, Try.ntmps14
    go_upto_region 1 with (fail)
    have hs9 : w.heap.size + 1 = bx := by rw [HE1.out.2.1]; simp
    have hs8 := HE1.out.2.2
    first | rw [← HE1.out.1] | skip
    first | rw [hs9] | skip
    first | rw [← hs8] | skip
    clear HE1 hs9 hs8
    go_wp2_with (go_at_call 18; (with_reducible refine (HCA.out).mono ?_); rintro e w3 ⟨P, pn, pc, U, un, uc, i2, i3, t, er, rfl, ho3, hg3⟩; have HOC3 := Lib.hid ho3; have HG := Lib.hid hg3; clear ho3 hg3; (have HBX3 : Hid (Blk w3 bx 39 [.slice none 0 0, .slice none 0 0, .int .i64 0, .int .i64 0]) := Lib.hid (HBX.out.only HOC3.out (fun e => by rcases e with e | e; exact HCN.out e.symm; exact e.2 (.inr rfl)))); (obtain ⟨q0, q1, q2, q3⟩ := HBX3.out.four); have f0 := HBX3.out.frozen 0; have f1 := HBX3.out.frozen 1; have f2 := HBX3.out.frozen 2; have f3 := HBX3.out.frozen 3)
    have hk := it_set (a' := .slice P pn pc) (b' := .slice U un uc) (c' := .int .i64 i2) (d' := .int .i64 i3) HBX3.out
    refine bodyPost_ret (results_cell3 rfl rfl rfl rfl (load_item hk.1)) rfl ?_
    exact ⟨P, pn, pc, U, un, uc, i2, i3, t, er, rfl, (got_end HHD.out.1 HHD.out.2.2.2 HBW.out HO1.out HCN.out HD1.out HOC3.out HG.out hk.2).1, (got_end HHD.out.1 HHD.out.2.2.2 HBW.out HO1.out HCN.out HD1.out HOC3.out HG.out hk.2).2⟩
  by_cases h3 : k = 3
  · subst h3
    have HCA := Lib.hid (Next_c T w1 H01.out cb (fun j => D j ∨ j = bx) hlt1 (.inl hcD) hcw0 o HC1.out)
    clear hc T h00 hD hcD hcw0 hlt1 hV hkey
    go_enter Try.func14, Try.ntmps14
    go_upto_region 1 with (fail)
    have hs9 : w.heap.size + 1 = bx := by rw [HE1.out.2.1]; simp
    have hs8 := HE1.out.2.2
    first | rw [← HE1.out.1] | skip
    first | rw [hs9] | skip
    first | rw [← hs8] | skip
    clear HE1 hs9 hs8
    go_wp2_with (go_at_call 17; (with_reducible refine (HCA.out).mono ?_); rintro e w3 ⟨P, pn, pc, U, un, uc, i2, i3, t, er, rfl, ho3, hg3⟩; have HOC3 := Lib.hid ho3; have HG := Lib.hid hg3; clear ho3 hg3; (have HBX3 : Hid (Blk w3 bx 39 [.slice none 0 0, .slice none 0 0, .int .i64 0, .int .i64 0]) := Lib.hid (HBX.out.only HOC3.out (fun e => by rcases e with e | e; exact HCN.out e.symm; exact e.2 (.inr rfl)))); (obtain ⟨q0, q1, q2, q3⟩ := HBX3.out.four); have f0 := HBX3.out.frozen 0; have f1 := HBX3.out.frozen 1; have f2 := HBX3.out.frozen 2; have f3 := HBX3.out.frozen 3)
    have hk := it_set (a' := .slice P pn pc) (b' := .slice U un uc) (c' := .int .i64 i2) (d' := .int .i64 i3) HBX3.out
    refine bodyPost_ret (results_cell3 rfl rfl rfl rfl (load_item hk.1)) rfl ?_
    exact ⟨P, pn, pc, U, un, uc, i2, i3, t, er, rfl, (got_end HHD.out.1 HHD.out.2.2.2 HBW.out HO1.out HCN.out HD1.out HOC3.out HG.out hk.2).1, (got_end HHD.out.1 HHD.out.2.2.2 HBW.out HO1.out HCN.out HD1.out HOC3.out HG.out hk.2).2⟩
  have e9 : goTo seg o k key = prvP seg o := by unfold goTo; rw [if_neg h0, if_neg h1, if_neg h2, if_neg h3]
  rw [e9]
  clear e9
  have HCA := Lib.hid (Prev_c T w1 H01.out cb (fun j => D j ∨ j = bx) hlt1 (.inl hcD) hcw0 o HC1.out)
  clear hc T h00 hD hcD hcw0 hlt1 hV hkey
  go_enter Try.func14, Try.ntmps14
  go_upto_region 1 with (fail)
  have hs9 : w.heap.size + 1 = bx := by rw [HE1.out.2.1]; simp
  have hs8 := HE1.out.2.2
  first | rw [← HE1.out.1] | skip
  first | rw [hs9] | skip
  first | rw [← hs8] | skip
  clear HE1 hs9 hs8
  go_wp2_with (go_at_call 19; (with_reducible refine (HCA.out).mono ?_); rintro e w3 ⟨P, pn, pc, U, un, uc, i2, i3, t, er, rfl, ho3, hg3⟩; have HOC3 := Lib.hid ho3; have HG := Lib.hid hg3; clear ho3 hg3; (have HBX3 : Hid (Blk w3 bx 39 [.slice none 0 0, .slice none 0 0, .int .i64 0, .int .i64 0]) := Lib.hid (HBX.out.only HOC3.out (fun e => by rcases e with e | e; exact HCN.out e.symm; exact e.2 (.inr rfl)))); (obtain ⟨q0, q1, q2, q3⟩ := HBX3.out.four); have f0 := HBX3.out.frozen 0; have f1 := HBX3.out.frozen 1; have f2 := HBX3.out.frozen 2; have f3 := HBX3.out.frozen 3)
  have hk := it_set (a' := .slice P pn pc) (b' := .slice U un uc) (c' := .int .i64 i2) (d' := .int .i64 i3) HBX3.out
  refine bodyPost_ret (results_cell3 rfl rfl rfl rfl (load_item hk.1)) rfl ?_
  exact ⟨P, pn, pc, U, un, uc, i2, i3, t, er, rfl, (got_end HHD.out.1 HHD.out.2.2.2 HBW.out HO1.out HCN.out HD1.out HOC3.out HG.out hk.2).1, (got_end HHD.out.1 HHD.out.2.2.2 HBW.out HO1.out HCN.out HD1.out HOC3.out HG.out hk.2).2⟩
end
end Go.Proofs.Ytnjhpjpeeehagaa

/-
  A range over a function that writes memory of its own: the statement's law, where the body never leaves.
-/
set_option linter.unusedVariables false
namespace Go.Proofs.Ytnjhpjpeeehagaa
open Go.RowKit

theorem only_put {F : Nat → Prop} {a W : World} {l : Nat} (h : Only F a W) (hl : F l) (o' : Obj) : Only F a (W.putObj l o') :=
  ⟨h.os, h.tape, h.output, Nat.le_trans h.size (grownBy_putObj' W l o').size, fun k hk => (World.putObj_heap_other (fun e => hk (by rw [e] at *; exact hl))).trans (h.block k hk)⟩
/-- Whatever is ranged over, so many rounds at most; what is said between two rounds stays, whatever is done to blocks newer than the loop's start; a round changes the body's blocks alone, and the loop's own. -/
def SeqO {α : Type} (F : Fence) (n : Nat) (P : Program) (gf : Nat) (lb : Array Value) (encs : α → Array Value) (Fb : Nat → Prop) (N : Nat) (S : Nat → Prop) (w : World) : Prop :=
  ∀ (J : Nat → World → Prop) (W : World), Only (w.heap.size ≤ ·) w W → w.heap.size + 1 < W.heap.size →
    (∀ k A B, J k A → Only (W.heap.size ≤ ·) A B → J k B) →
    (∀ k x W1, J k W1 → k < N → YieldAt F (n - 1) P (w.heap.size + 1) (encs x) W1 fun e W' => e = .returned (.bool true) ∧ J (k + 1) W' ∧ Only (fun j => Fb j ∨ j = w.heap.size + 1 ∨ W1.heap.size ≤ j) W1 W') →
    J 0 W → CallsIn F n P gf (#[.func (.yield (w.heap.size + 1)) #[] #[]] ++ lb) W fun e W' => (∃ v, e = .returned v) ∧ ∃ k, S k ∧ J k W'
/-- How a round's body is left: it goes on. -/
def bodyN (Fb : Nat → Prop) (I : World → Prop) (W : World) : Exit → Act → World → Prop
  | .normal, _, W' => I W' ∧ Only (fun j => Fb j ∨ W.heap.size ≤ j) W W'
  | _, _, _ => False
theorem range_own {α : Type} {F : Fence} {n : Nat} {P : Program} {g : Operand} {ps : Array Tmp} {assign body : Code} {Q : Exit → Act → World → Prop} {a : Act} {w : World}
    (hro : F.round = none) (h1 : 1 ≤ n) {gf : Nat} {lb : Array Value} (hg : a.eval g = .func (.func gf) #[] lb) (hFg : F.fn gf) (eg : ∀ args w, (callFunc gf args).run P w = .ok (.enter gf args) w)
    {encs : α → Array Value} {Fb : Nat → Prop} {N : Nat} {S : Nat → Prop} (hFb : ∀ j, Fb j → j < w.heap.size) (hseq : SeqO F (n - 1) P gf lb encs Fb N S w) (hps : ∀ x, (encs x).size = ps.size)
    (I : Nat → World → Prop) (hI : ∀ k A B, I k A → Only (w.heap.size ≤ ·) A B → w.heap.size ≤ A.heap.size → I k B) (h0 : I 0 w) (a₁ : α → Act)
    (hassign : ∀ (l : Nat) (x : α) (W : World) (K : Act → World → Prop), K (a₁ x) W →
      assign.wpIn (F.inRound l) (n - 1 - 1) P (Exit.then K (fun _ _ _ => False)) { tmps := (ps.zip (encs x)).foldl (fun t (p, v) => t.setIfInBounds p v) a.tmps, defers := [] } W)
    (hbody : ∀ (k : Nat) (x : α) (W : World), I k W → k < N → w.heap.size ≤ W.heap.size → body.wpIn (F.inRound (w.heap.size + 1)) (n - 1 - 1) P (bodyN Fb (I (k + 1)) W) (a₁ x) W)
    (hdone : ∀ (D k : Nat) (W : World), w.heap.size ≤ D → S k → I k W → W.heap[D]? = some (.deferred (some [])) → Q .normal { a with defers := { target := .collected D, args := #[] } :: a.defers } W) :
    (Code.rangeFunc g ps assign body).wpIn F n P Q a w := by
  refine wpIn_rangeFunc ?_
  intro fn hfn
  rw [hro]
  obtain ⟨rc, hrec⟩ : ∃ rc : LoopState → Option Code → Loop, rc = fun st pe => { state := st, pending := pe, fn, tmps := a.tmps, params := ps, assign, body, defers := w.heap.size } := ⟨_, rfl⟩
  obtain ⟨W1, hW1⟩ : ∃ W1, (w.alloc (.deferred (some []))).alloc (.loop (rc .ready none)) = W1 := ⟨_, rfl⟩
  have hO1 : Only (w.heap.size ≤ ·) w W1 := by rw [← hW1]; exact ((Only.refl _ w).alloc (fun _ h => h) _).alloc (fun _ h => h) _
  have hL1 : W1.heap[w.heap.size + 1]? = some (.loop (rc .ready none)) := by
    have h2 := World.alloc_heap_new (w.alloc (.deferred (some []))) (.loop (rc .ready none))
    rw [World.size_alloc] at h2
    rw [← hW1]
    exact h2
  have hs1 : w.heap.size + 1 < W1.heap.size := (Array.getElem?_eq_some_iff.1 hL1).1
  have hK1 : W1.heap[w.heap.size]? = some (.deferred (some [])) := by
    rw [← hW1]
    exact (Below.heap_alloc _ _ _ (by simp)).trans (World.alloc_heap_new w _)
  have hI1 : I 0 W1 := hI 0 w W1 h0 hO1 (Nat.le_refl _)
  refine ⟨w.heap.size + 1, [{ target := .collected w.heap.size, args := #[] }], W1, { target := .fn (.func gf) lb, args := #[.func (.yield (w.heap.size + 1)) #[] #[]] }, W1, gf,
    #[.func (.yield (w.heap.size + 1)) #[] #[]] ++ lb, W1, ?_, ?_, ?_, ?_, fun _ => h1, ?_⟩
  · rw [← hW1, hrec]
    exact run_enterLoop_outer _ _ _ _ _
  · simp only [resolve, hg]
    simp [go_sem]
  · intro f' hf'
    simp [Target.leads] at hf'
    subst hf'
    exact hFg
  · simp [invoke, go_sem, eg]
  · have hput : ∀ (A : World) (o : Obj), Only (w.heap.size ≤ ·) A (A.putObj (w.heap.size + 1) o) := fun A o => only_put (Only.refl _ A) (Nat.le_succ _) o
    have hbk : ∀ {A B : World} {i : Nat} {o : Obj}, A.heap[i]? = some o → Only (W1.heap.size ≤ ·) A B → i ≤ w.heap.size + 1 → B.heap[i]? = some o := fun ha ho hi => (ho.block _ (by omega)).trans ha
    refine (hseq (fun k W => I k W ∧ W.heap[w.heap.size + 1]? = some (.loop (rc .ready none)) ∧ W.heap[w.heap.size]? = some (.deferred (some []))) W1 hO1 hs1
      (fun k A B hs ho => ⟨hI k A B hs.1 (ho.mono fun j hj => Nat.le_trans hO1.size hj) (by have := (Array.getElem?_eq_some_iff.1 hs.2.1).1; omega), hbk hs.2.1 ho (Nat.le_refl _), hbk hs.2.2 ho (Nat.le_succ _)⟩) ?_ ⟨hI1, hL1, hK1⟩).mono ?_
    · rintro k x W ⟨hi, hl, hk⟩ hlen
      have hlt : w.heap.size + 1 < W.heap.size := (Array.getElem?_eq_some_iff.1 hl).1
      have hy := run_yield (P := P) (args := encs x) hl (by rw [hrec]; exact hps x)
      rw [hrec] at hy
      refine ⟨fn, _, assign, body, hy, roundIn_of_wpIn hfn (hassign _ x W _ ⟨_, run_beginRound hl (by rw [hrec]), ?_⟩)⟩
      obtain ⟨W2, hW2⟩ : ∃ W2, W2 = W.putObj (w.heap.size + 1) (.loop { rc .ready none with state := .busy }) := ⟨_, rfl⟩
      have hl2 : W2.heap[w.heap.size + 1]? = some (.loop { rc .ready none with state := .busy }) := by rw [hW2]; exact World.putObj_heap_same hlt
      have hk2 : W2.heap[w.heap.size]? = some (.deferred (some [])) := by rw [hW2]; exact (World.putObj_heap_other (by omega)).trans hk
      have hi2 : I k W2 := by rw [hW2]; exact hI k W _ hi (hput W _) (by omega)
      have hsz2 : W2.heap.size = W.heap.size := by rw [hW2]; simp [World.putObj]
      rw [← hW2]
      refine wpIn_mono (hbody k x W2 hi2 hlen (by omega)) ?_
      rintro e a3 W3 hp
      cases e with
      | normal =>
        obtain ⟨hi3, ho3⟩ := hp
        have hl3 : W3.heap[w.heap.size + 1]? = some (.loop { rc .ready none with state := .busy }) := (ho3.block _ (fun e => by
          rcases e with e | e
          · have := hFb _ e
            omega
          · omega)).trans hl2
        have hk3 : W3.heap[w.heap.size]? = some (.deferred (some [])) := (ho3.block _ (fun e => by
          rcases e with e | e
          · have := hFb _ e
            omega
          · omega)).trans hk2
        have hr := run_endRound (P := P) none hl3
        rw [hrec] at hr
        refine ⟨_, _, hr, rfl, ⟨hI _ W3 _ hi3 (hput W3 _) (by have := (Array.getElem?_eq_some_iff.1 hl3).1; omega), ?_, (World.putObj_heap_other (by omega)).trans hk3⟩, ?_⟩
        · have h5 := World.putObj_heap_same (o := .loop (rc .ready none)) (Array.getElem?_eq_some_iff.1 hl3).1
          rw [hrec] at h5 ⊢
          exact h5
        · have h6 : Only (fun j => Fb j ∨ j = w.heap.size + 1 ∨ W.heap.size ≤ j) W W2 := by rw [hW2]; exact only_put (Only.refl _ W) (.inr (.inl rfl)) _
          exact only_put (h6.trans (ho3.mono fun j hj => hj.imp id fun hj => .inr (by omega))) (.inr (.inl rfl)) _
      | ret => exact hp.elim
      | exit id => exact hp.elim
      | goto t => exact hp.elim
      | panic ch => exact hp.elim
      | outgrown => exact hp.elim
    · rintro e W2 ⟨⟨v, rfl⟩, k, hS, hi, hl, hk⟩
      have h7 := run_endLoop (P := P) hl (by rw [hrec]; simp)
      rw [hrec] at h7
      exact ⟨none, _, h7, hdone w.heap.size k _ (Nat.le_refl _) hS (hI k W2 _ hi (hput W2 _) (by have := (Array.getElem?_eq_some_iff.1 hl).1; omega)) ((World.putObj_heap_other (by omega)).trans hk)⟩
/-- The same, where nothing is assigned ahead of a round. -/
theorem range_skip {α : Type} {F : Fence} {n : Nat} {P : Program} {g : Operand} {ps : Array Tmp} {body : Code} {Q : Exit → Act → World → Prop} {a : Act} {w : World}
    (hro : F.round = none) (h1 : 1 ≤ n) {gf : Nat} {lb : Array Value} (hg : a.eval g = .func (.func gf) #[] lb) (hFg : F.fn gf) (eg : ∀ args w, (callFunc gf args).run P w = .ok (.enter gf args) w)
    {encs : α → Array Value} {Fb : Nat → Prop} {N : Nat} {S : Nat → Prop} (hFb : ∀ j, Fb j → j < w.heap.size) (hseq : SeqO F (n - 1) P gf lb encs Fb N S w) (hps : ∀ x, (encs x).size = ps.size)
    (I : Nat → World → Prop) (hI : ∀ k A B, I k A → Only (w.heap.size ≤ ·) A B → w.heap.size ≤ A.heap.size → I k B) (h0 : I 0 w)
    (hbody : ∀ (k : Nat) (x : α) (W : World), I k W → k < N → w.heap.size ≤ W.heap.size → body.wpIn (F.inRound (w.heap.size + 1)) (n - 1 - 1) P (bodyN Fb (I (k + 1)) W) { tmps := (ps.zip (encs x)).foldl (fun t (p, v) => t.setIfInBounds p v) a.tmps, defers := [] } W)
    (hdone : ∀ (D k : Nat) (W : World), w.heap.size ≤ D → S k → I k W → W.heap[D]? = some (.deferred (some [])) → Q .normal { a with defers := { target := .collected D, args := #[] } :: a.defers } W) :
    (Code.rangeFunc g ps Code.skip body).wpIn F n P Q a w :=
  range_own hro h1 hg hFg eg hFb hseq hps I hI h0 (fun x => { tmps := (ps.zip (encs x)).foldl (fun t (p, v) => t.setIfInBounds p v) a.tmps, defers := [] }) (fun l x W K hK => wpIn_skip hK) hbody hdone
end Go.Proofs.Ytnjhpjpeeehagaa

/-
  Each: a range over all items from a key on.
-/
set_option linter.unusedVariables false
namespace Go.Proofs.Ytnjhpjpeeehagaa
open Go.RowKit

attribute [local go_sem] Oper.semAt_some

def EachSays (w : World) (S : Value) (root : Int) (key : Bytes) (e : Ending) (w' : World) : Prop :=
  (∃ bs br bf K kn kc, e = .returned (.func (.func 35) #[] #[.pointer (some ⟨bs, 0, none⟩), .pointer (some ⟨br, 0, none⟩), .pointer (some ⟨bf, 0, none⟩)]) ∧ Blk w' bs 32 [S] ∧ Blk w' br 3 [.int .i64 root] ∧ Blk w' bf 34 [.slice K kn kc] ∧ Src w' (.slice K kn kc) key) ∧ Only (w.heap.size ≤ ·) w w'
set_option maxRecDepth 100000 in
set_option maxHeartbeats 3200000 in
theorem Each_c (w : World) (RF : Nat) (rcaps : Array Value) (root : Int) (K : Option Addr) (kn kc : Nat) (key : Bytes) (hkey : Src w (.slice K kn kc) key) (hk : key.length ≤ 1000) : Calls Try.prog 22 #[.func (.func RF) #[] rcaps, .int .i64 root, .slice K kn kc] w (EachSays w (.func (.func RF) #[] rcaps) root key) := by
  have hmf : ∀ (fn : Fn) (first cap : Array Value) (w : World), (Instr.makeFunc fn first cap).run Try.prog w = .ok (.func fn first cap) w := fun _ _ _ _ => rfl
  obtain ⟨w1, hw1⟩ : ∃ W0, W0 = ((w.alloc (.cells #[.func (.func RF) #[] rcaps] 32)).alloc (.cells #[.int .i64 root] 3)).alloc (.cells #[.slice K kn kc] 34) := ⟨_, rfl⟩
  obtain ⟨bs, hbs⟩ : ∃ z, z = w.heap.size := ⟨_, rfl⟩
  obtain ⟨br, hbr⟩ : ∃ z, z = w.heap.size + 1 := ⟨_, rfl⟩
  obtain ⟨bf, hbf⟩ : ∃ z, z = w.heap.size + 1 + 1 := ⟨_, rfl⟩
  have HO1 : Hid (Only (w.heap.size ≤ ·) w w1) := Lib.hid (by rw [hw1]; exact (((Only.refl _ w).alloc (fun _ h => h) _).alloc (fun _ h => h) _).alloc (fun _ h => h) _)
  have HS : Hid (Blk w1 bs 32 [.func (.func RF) #[] rcaps]) := Lib.hid (by rw [hw1, hbs]; exact ((Blk.new w 32 [.func (.func RF) #[] rcaps]).alloc _).alloc _)
  have HR : Hid (Blk w1 br 3 [.int .i64 root]) := Lib.hid (by
    have h1 := (Blk.new (w.alloc (.cells #[.func (.func RF) #[] rcaps] 32)) 3 [.int .i64 root]).alloc (.cells #[.slice K kn kc] 34)
    rw [World.size_alloc] at h1
    rw [hw1, hbr]
    exact h1)
  have HF : Hid (Blk w1 bf 34 [.slice K kn kc]) := Lib.hid (by
    have h1 := Blk.new ((w.alloc (.cells #[.func (.func RF) #[] rcaps] 32)).alloc (.cells #[.int .i64 root] 3)) 34 [.slice K kn kc]
    rw [World.size_alloc, World.size_alloc] at h1
    rw [hw1, hbf]
    exact h1)
  have HKC := Lib.hid (Clone_c w1 _ key (hkey.later HO1.out) (by omega))
  have HSZ : Hid (bs < bf ∧ br < bf ∧ w.heap.size ≤ bf) := Lib.hid ⟨by omega, by omega, by omega⟩
  have HE := Lib.hid (And.intro hw1 (And.intro hbs (And.intro hbr hbf)))
  have k5 : w1.cell? ⟨bf, 0, none⟩ = some (.slice K kn kc) := HF.out.cell 0
  clear hw1 hbs hbr hbf hkey
  go_enter Try.func22, Try.ntmps22
  go_upto_region 1 with (fail)
  rw [← HE.out.1, ← HE.out.2.2.2, ← HE.out.2.2.1, ← HE.out.2.1]
  clear HE
  go_wp2_with (go_at_call 34; (with_reducible refine HKC.out.mono ?_); rintro e w2 ⟨v, rfl, hv, ho⟩; (obtain ⟨G, gc, rfl, hn⟩ := New.form hv); have HN := Lib.hid hn; have HO2 := Lib.hid ho; have HF2 := Lib.hid (HF.out.later ho); have f5 := HF2.out.frozen 0; have k5' : w2.cell? ⟨bf, 0, none⟩ = some (.slice K kn kc) := (HF2.out.cell 0); clear hv hn ho)
  go_ret
  have hS3 : Only (fun j => j = bf) w2 (w2.setCell ⟨bf, 0, none⟩ (.slice G key.length gc)) := (Only.refl (fun j => j = bf) w2).setCell (p := ⟨bf, 0, none⟩) rfl _
  refine ⟨⟨bs, br, bf, G, _, gc, rfl, (HS.out.later HO2.out).only hS3 (Nat.ne_of_lt HSZ.out.1), (HR.out.later HO2.out).only hS3 (Nat.ne_of_lt HSZ.out.2.1), HF2.out.set_ 0 _, (HN.out.keep hS3 fun k h1 _ e => by have h2 := HF.out.lt; have h3 : k = bf := e; omega).src⟩, (on_new HO1.out HO2.out).trans (hS3.mono fun j hj => by have h1 := HSZ.out.2.2; have h2 : j = bf := hj; omega)⟩
theorem yield_nil_d (l d : Nat) (w : World) : (Op.equalIn (d + 1) 85 (.func (.yield l) #[] #[]) Value.nilFunc).run Try.prog w = .ok false w := by
  simp [Op.equalIn, run_underlying Try.underlying85]
theorem yield_nil (l : Nat) (w : World) : (binOp .eql 85 (.func (.yield l) #[] #[]) Value.nilFunc).run Try.prog w = .ok (.bool false) w := by
  simp only [binOp]
  simp [Op.equal, Op.maxDepth, yield_nil_d l 9999 w]
section
variable {Ex : Nat → Prop} {w0 : World} {ed : Bool → Int → Int × List Sp} {sk : Bytes → Int × List Sp} {H : Prop} {l : List Nm} {root : Int} {h : Nat} {seg : List It}
/-- Between two rounds: so many are over; what the last call has told. -/
def ERel (RF : Nat) (rcaps : Array Value) (H : Prop) (l : List Nm) (root : Int) (h : Nat) (seg : List It) (Ex : Nat → Prop) (w0 : World) (m0 cb n0 : Nat) (J : Nat → World → Prop) (gk : Nat) (bv isv : Value) (wr : World) : Prop :=
  ∃ (k bq : Nat) (P : Option Addr) (pn pc : Nat) (U : Option Addr) (un uc : Nat) (i2 i3 : Int) (t : Bool) (er : Int), gk = seg.length - (n0 + k) ∧ bv = .pointer (some ⟨bq, 0, none⟩) ∧ isv = .bool t ∧ Hid (Blk wr bq 39 [.slice P pn pc, .slice U un uc, .int .i64 i2, .int .i64 i3] ∧ m0 ≤ bq ∧ bq ≠ cb) ∧ Hid (Got H l root h seg (.func (.func RF) #[] rcaps) (fun j => j < m0 ∨ j = cb ∨ j = bq) w0.heap.size cb 0 wr (((n0 + k : Nat) : Int)) P pn pc U un uc i2 i3 t er) ∧ Hid (J k wr ∧ n0 + k ≤ seg.length) ∧ Hid (Lat Ex w0 wr ∧ cb < wr.heap.size ∧ m0 ≤ cb)
theorem Got.low {S : Value} {D : Nat → Prop} {B cb b : Nat} {w : World} {n : Int} {P U : Option Addr} {pn pc un uc : Nat} {i2 i3 er : Int} {t : Bool} (hg : Got H l root h seg S D B cb b w n P pn pc U un uc i2 i3 t er) : Got H l root h seg S D B cb 0 w n P pn pc U un uc i2 i3 t er := by
  rcases hg with ⟨y, a1, a2, a3, a4, a5⟩ | a
  · exact .inl ⟨y, a1, a2, a3.mono (Nat.zero_le _), a4.mono (Nat.zero_le _), a5⟩
  · exact .inr a
/-- The state alone goes on. -/
theorem Got.cur {S : Value} {D : Nat → Prop} {B cb : Nat} {w : World} {n : Int} {P U : Option Addr} {pn pc un uc : Nat} {i2 i3 er : Int} {t : Bool} (hg : Got H l root h seg S D B cb 0 w n P pn pc U un uc i2 i3 t er) : (t = true ∧ 0 ≤ n ∧ n < seg.length ∧ CurAt l root h seg S D B cb w (some n.toNat)) ∨ (t = false ∧ (((n < 0 ∨ (seg.length : Int) ≤ n) ∧ er = 0) ∨ (H ∧ er = 10)) ∧ CurAt l root h seg S D B cb w none) := by
  rcases hg with ⟨y, a1, a2, a3, a4, a5, a6, a7, a8, a9⟩ | ⟨a1, a2, a3, a4, a5, a6, a7, a8, a9, a10, a11⟩
  · exact .inl ⟨a7, a1, by have := (List.getElem?_eq_some_iff.1 a2).1; omega, a9.step (Only.refl _ w) fun j hj => .inl (.inl hj)⟩
  · exact .inr ⟨a10, a1, a11⟩
set_option maxRecDepth 100000 in
set_option maxHeartbeats 12800000 in
theorem each1_o (RF : Nat) (rcaps : Array Value) (T : Tr Ex w0 (.func (.func RF) #[] rcaps) ed sk H l root h seg) (w : World) (h00 : Lat Ex w0 w) (bs br bf : Nat) (K : Option Addr) (kn kc : Nat) (key : Bytes) (hbs : Blk w bs 32 [.func (.func RF) #[] rcaps]) (hbr : Blk w br 3 [.int .i64 root]) (hbf : Blk w bf 34 [.slice K kn kc]) (hkey : Src w (.slice K kn kc) key) (Fb : Nat → Prop) (hFb : ∀ j, Fb j → (Ex j ∨ w0.heap.size ≤ j) ∧ j < w.heap.size) :
    SeqO Fence.wide 2 Try.prog 35 #[.pointer (some ⟨bs, 0, none⟩), .pointer (some ⟨br, 0, none⟩), .pointer (some ⟨bf, 0, none⟩)] (fun x : Value => #[x]) Fb seg.length (fun k => k ≤ seg.length - findP seg key ∧ (¬ H → k = seg.length - findP seg key)) w := by
  intro J W hW hWl hJ hY hJ0
  have HBS := Lib.hid (hbs.later hW)
  have HBR := Lib.hid (hbr.later hW)
  have HBF := Lib.hid (hbf.later hW)
  have HKY := Lib.hid (hkey.later hW)
  have H0W := Lib.hid (lat_new h00 hW)
  have HFB := Lib.hid hFb
  have HT := Lib.hid T
  have HJ := Lib.hid hJ
  have HY := Lib.hid hY
  have HJ0 := Lib.hid hJ0
  have HWS := Lib.hid (And.intro hWl h00.size)
  obtain ⟨m0, hm0⟩ : ∃ z, z = W.heap.size := ⟨_, rfl⟩
  have HM0 := Lib.hid hm0
  have hyn := yield_nil (w.heap.size + 1)
  obtain ⟨n0, hn0⟩ : ∃ z, z = findP seg key := ⟨_, rfl⟩
  have HN0 := Lib.hid hn0
  obtain ⟨lr, hlr⟩ : ∃ z, z = w.heap.size + 1 := ⟨_, rfl⟩
  have HLR := Lib.hid hlr
  rw [← hn0]
  rw [← hlr] at HY HWS hyn ⊢
  have HN0L : Hid (n0 ≤ seg.length) := Lib.hid (by rw [hn0]; unfold findP; exact List.countP_le_length)
  have k1 : W.cell? ⟨bs, 0, none⟩ = some (.func (.func RF) #[] rcaps) := HBS.out.cell 0
  have k2 : W.cell? ⟨br, 0, none⟩ = some (.int .i64 root) := HBR.out.cell 0
  clear hm0 hn0 hlr T h00 hbs hbr hbf hkey hFb hW hWl hJ hY hJ0
  refine callsIn_of_wp Try.func35 rfl trivial ?_ rfl
  simp only [Try.ntmps35, List.size_toArray, List.length_cons, List.length_nil, Nat.reduceAdd, Nat.reduceSub, Array.replicate_succ, Array.replicate_zero, List.push_toArray, List.append_toArray, List.nil_append, List.cons_append]
  gi_wp2_with (first
    | (refine ⟨trivial, ?_⟩; gi_at_call 11; refine (callsIn_wide.2 (CrNew_c W RF rcaps root)).mono ?_; rintro e w2 ⟨rfl, hc2, ho2⟩; have HC2 := Lib.hid hc2; have HO2 := Lib.hid ho2; have k3 : w2.cell? ⟨bf, 0, none⟩ = some (.slice K kn kc) := (HBF.out.later ho2).cell 0; clear hc2 ho2 k1 k2)
    | (refine ⟨trivial, ?_⟩; gi_at_call 20; refine (callsIn_wide.2 (Seek_c HT.out w2 (lat_new H0W.out HO2.out) W.heap.size (fun j => j < m0 ∨ j = W.heap.size) (fun j hj => by have h1 := HC2.out.lt; have h2 := HM0.out; omega) (.inr rfl) H0W.out.size _ HC2.out K kn kc key (HKY.out.later HO2.out))).mono ?_; rintro e w3 ⟨P, pn, pc, U, un, uc, i2, i3, t, er, rfl, ho3, hg3⟩; have HO3 := Lib.hid ho3; have HG3 := Lib.hid hg3; clear ho3 hg3 k3))
  obtain ⟨cb, hcb⟩ : ∃ z, z = W.heap.size := ⟨_, rfl⟩
  rw [← hcb] at HC2 HO3 HG3 ⊢
  have HCB := Lib.hid hcb
  clear hcb
  obtain ⟨w4, hw4⟩ : ∃ W0, W0 = w3.alloc (.cells #[.slice P pn pc, .slice U un uc, .int .i64 i2, .int .i64 i3] 39) := ⟨_, rfl⟩
  have HO4 : Hid (Only (w3.heap.size ≤ ·) w3 w4) := Lib.hid (by rw [hw4]; exact (Only.refl _ w3).alloc (fun _ h => h) _)
  have HB4 : Hid (Blk w4 w3.heap.size 39 [.slice P pn pc, .slice U un uc, .int .i64 i2, .int .i64 i3]) := Lib.hid (by rw [hw4]; exact Blk.new w3 _ _)
  rw [← hw4]
  clear hw4
  have HC3 : Hid (cb < w3.heap.size ∧ m0 ≤ cb) := Lib.hid ⟨Nat.lt_of_lt_of_le HC2.out.lt HO3.out.size, by have h1 := HM0.out; have h2 := HCB.out; omega⟩
  have HLT : Hid (Lat Ex w0 w4) := Lib.hid (lat_new ((lat_new H0W.out HO2.out).trans (HO3.out.mono fun j hj => .inr (by have h1 := H0W.out.size; have h2 := HCB.out; rcases hj with hj | hj; omega; exact hj.1))) HO4.out)
  have HWO : Hid (Only (W.heap.size ≤ ·) W w4) := Lib.hid (on_new ((HO2.out).trans (HO3.out.mono fun j hj => by
    have h1 := HCB.out
    have h2 := HM0.out
    rcases hj with hj | hj
    · omega
    · have h3 := hj.2
      simp only [not_or] at h3
      omega)) HO4.out)
  have HREL : Hid (ERel RF rcaps H l root h seg Ex w0 m0 cb n0 J (seg.length - n0) (.pointer (some ⟨w3.heap.size, 0, none⟩)) (.bool t) w4) := Lib.hid (by
    refine ⟨0, w3.heap.size, P, pn, pc, U, un, uc, i2, i3, t, er, rfl, rfl, rfl, Lib.hid ⟨HB4.out, by have h1 := HC3.out; omega, by have h1 := HC3.out; omega⟩, Lib.hid ?_, Lib.hid ⟨HJ.out 0 W w4 HJ0.out HWO.out, by have := HN0L.out; omega⟩, Lib.hid ⟨HLT.out, Nat.lt_of_lt_of_le HC3.out.1 HO4.out.size, HC3.out.2⟩⟩
    have h1 := HG3.out
    rw [← HN0.out] at h1
    exact (h1.step (D' := fun j => j < m0 ∨ j = cb ∨ j = w3.heap.size) (HO4.out.mono fun j hj => .inr hj) (fun j hj => by omega) (fun j hj => by have h2 := HC2.out.lt; have h3 := HC3.out.2; have h5 := HM0.out; omega) (Nat.le_refl _)).low)
  have htl := HREL
  gi_loopw [6, 7] (fun bv isv wr => Hid (∃ gk, ERel RF rcaps H l root h seg Ex w0 m0 cb n0 J gk bv isv wr)) (fun bv isv wr => leastOf (fun gk => ERel RF rcaps H l root h seg Ex w0 m0 cb n0 J gk bv isv wr))
  case atStart => exact Lib.hid ⟨_, HREL.out⟩
  case round =>
    clear htl HREL HWO HLT HC3 HB4 HO4 HG3 HO3 HC2
    have hls := (leastOf_spec hrel.out).1
    obtain ⟨gl, hgl⟩ : ∃ z, z = leastOf (fun gk => ERel RF rcaps H l root h seg Ex w0 m0 cb n0 J gk u6 u7 wr) := ⟨_, rfl⟩
    rw [← hgl] at hls
    have HGL := Lib.hid hgl
    clear hgl hrel
    obtain ⟨k, bq, P1, pn1, pc1, U1, un1, uc1, j2, j3, t1, er1, hgk, rfl, rfl, HBQ, HG, HJK, HLA⟩ := hls
    have HGK := Lib.hid hgk
    clear hgk
    rcases HG.out.cur with ⟨rfl, a1, a2, a3⟩ | ⟨rfl, a1, a2⟩
    · have HCA := Lib.hid a3
      have hlt : n0 + k < seg.length := by omega
      clear a1 a2 a3
      obtain ⟨r0, r1, r2, r3⟩ := HBQ.out.1.four
      obtain ⟨fn, tmps, assign, body, hy, hR⟩ := HY.out k (.agg #[.slice P1 pn1 pc1, .slice U1 un1 uc1, .int .i64 j2, .int .i64 j3]) wr HJK.out.1 (by omega)
      have HLTN := Lib.hid hlt
      clear hlt
      gi_wp2
      refine hR.mono ?_
      rintro e w5 ⟨rfl, hj5, ho5⟩
      have HJ5 := Lib.hid hj5
      have HO5 := Lib.hid ho5
      clear hj5 ho5 hR hy r0 r1 r2 r3
      have hFm : ∀ j, Fb j ∨ j = lr → j < m0 := fun j hj => by
        have h1 := HWS.out.1
        have h2 := HM0.out
        have h3 := HLR.out
        rcases hj with hj | hj
        · have := (HFB.out j hj).2
          omega
        · omega
      have HFM := Lib.hid hFm
      have HB5 : Hid (Blk w5 bq 39 [.slice P1 pn1 pc1, .slice U1 un1 uc1, .int .i64 j2, .int .i64 j3]) := Lib.hid (HBQ.out.1.only HO5.out (fun e => by
        have h1 := HBQ.out.2.1
        have h2 := HBQ.out.1.lt
        rcases e with e | e | e
        · have := HFM.out bq (.inl e)
          omega
        · have := HFM.out bq (.inr e)
          omega
        · omega))
      have HCA5 : Hid (CurAt l root h seg (.func (.func RF) #[] rcaps) (fun j => j < m0 ∨ j = cb ∨ j = bq) w0.heap.size cb w5 (some (((n0 + k : Nat) : Int)).toNat)) := Lib.hid (HCA.out.step (HO5.out.mono fun j hj => by
        have h1 := HLA.out.2.2
        rcases hj with hj | hj | hj
        · have := HFM.out j (.inl hj)
          exact .inl ⟨.inl this, by omega⟩
        · have := HFM.out j (.inr hj)
          exact .inl ⟨.inl this, by omega⟩
        · exact .inr hj) fun j hj => .inl hj)
      have HLA5 : Hid (Lat Ex w0 w5) := Lib.hid (HLA.out.1.trans (HO5.out.mono fun j hj => by
        rcases hj with hj | hj | hj
        · exact (HFB.out j hj).1
        · exact .inr (by have h1 := HWS.out.2; have h2 := HLR.out; omega)
        · exact .inr (Nat.le_trans HLA.out.1.size hj)))
      clear HFM hFm
      obtain ⟨r0, r1, r2, r3⟩ := HB5.out.four
      obtain ⟨w6, hw6⟩ : ∃ W0, W0 = w5.alloc (.cells #[.slice P1 pn1 pc1, .slice U1 un1 uc1, .int .i64 j2, .int .i64 j3] 39) := ⟨_, rfl⟩
      obtain ⟨bz, hbz⟩ : ∃ z, z = w5.heap.size := ⟨_, rfl⟩
      have HO6 : Hid (Only (w5.heap.size ≤ ·) w5 w6) := Lib.hid (by rw [hw6]; exact (Only.refl _ w5).alloc (fun _ h => h) _)
      have HB6 : Hid (Blk w6 bz 39 [.slice P1 pn1 pc1, .slice U1 un1 uc1, .int .i64 j2, .int .i64 j3]) := Lib.hid (by rw [hw6, hbz]; exact Blk.new w5 _ _)
      have HE6 := Lib.hid (And.intro hw6 hbz)
      have HBZ : Hid (cb < bz ∧ m0 ≤ bz ∧ w5.heap.size = bz) := Lib.hid ⟨by have h1 := HLA.out.2.1; have h2 := HO5.out.size; omega, by have h1 := HBQ.out.2.1; have h2 := HB5.out.lt; omega, hbz.symm⟩
      have HCA6 : Hid (CurAt l root h seg (.func (.func RF) #[] rcaps) (fun j => j < m0 ∨ j = cb ∨ j = bz) w0.heap.size cb w6 (some (((n0 + k : Nat) : Int)).toNat)) := Lib.hid (HCA5.out.step (HO6.out.mono fun j hj => .inr hj) fun j hj => by have h1 := HBZ.out.2.2; omega)
      clear hw6 hbz
      have HNX := Lib.hid (Next_c HT.out w6 (lat_new HLA5.out HO6.out) cb (fun j => j < m0 ∨ j = cb ∨ j = bz) (fun j hj => by have h1 := HB6.out.lt; have h2 := HBZ.out; omega) (.inr (.inl rfl)) (Nat.le_trans H0W.out.size (by have h1 := HLA.out.2.2; have h2 := HM0.out; omega)) _ HCA6.out)
      gi_wp2_with (refine ⟨trivial, ?_⟩; gi_at_call 17; rw [← HE6.out.1, ← HE6.out.2]; refine (callsIn_wide.2 HNX.out).mono ?_; rintro e w7 ⟨P, pn, pc, U, un, uc, i2, i3, t, er, rfl, ho7, hg7⟩; have HO7 := Lib.hid ho7; have HG7 := Lib.hid hg7; (have HB7 : Hid (Blk w7 bz 39 [.slice P1 pn1 pc1, .slice U1 un1 uc1, .int .i64 j2, .int .i64 j3]) := Lib.hid (HB6.out.only HO7.out (fun e => by have h1 := HBZ.out.1; rcases e with e | e; omega; exact e.2 (.inr (.inr rfl))))); (obtain ⟨q0, q1, q2, q3⟩ := HB7.out.four); have f0 := HB7.out.frozen 0; have f1 := HB7.out.frozen 1; have f2 := HB7.out.frozen 2; have f3 := HB7.out.frozen 3; clear ho7 hg7 r0 r1 r2 r3)
      have hk := it_set (a' := .slice P pn pc) (b' := .slice U un uc) (c' := .int .i64 i2) (d' := .int .i64 i3) HB7.out
      have hk1 := hk.1
      have hk2 := hk.2
      generalize hw8 : (((w7.setCell ⟨bz, 0, none⟩ (.slice P pn pc)).setCell ⟨bz, 1, none⟩ (.slice U un uc)).setCell ⟨bz, 2, none⟩ (.int .i64 i2)).setCell ⟨bz, 3, none⟩ (.int .i64 i3) = w8 at hk1 hk2 ⊢
      clear hk hw8 q0 q1 q2 q3 f0 f1 f2 f3
      have hcz := HBZ.out
      have hm0 := HM0.out
      have h6s := HO6.out.size
      have hltn := HLTN.out
      have hgk := HGK.out
      have hnx : nxtP (some (((n0 + k : Nat) : Int)).toNat) = (((n0 + (k + 1) : Nat)) : Int) := by
        show (((((n0 + k : Nat) : Int)).toNat : Nat) : Int) + 1 = _
        rw [Int.toNat_natCast]
        omega
      have hREL : ERel RF rcaps H l root h seg Ex w0 m0 cb n0 J (seg.length - (n0 + (k + 1))) (.pointer (some ⟨bz, 0, none⟩)) (.bool t) w8 := by
        refine ⟨k + 1, bz, P, pn, pc, U, un, uc, i2, i3, t, er, rfl, rfl, rfl, Lib.hid ⟨hk1, hcz.2.1, by omega⟩, Lib.hid ?_, Lib.hid ⟨HJ.out (k + 1) w5 w8 HJ5.out ?_, by omega⟩, Lib.hid ⟨((lat_new HLA5.out HO6.out).trans (HO7.out.mono fun j hj => ?_)).trans (hk2.mono fun j hj => .inr ?_), ?_, HLA.out.2.2⟩⟩
        · have h1 := HG7.out
          rw [hnx] at h1
          exact (h1.step (D' := fun j => j < m0 ∨ j = cb ∨ j = bz) (hk2.mono fun j hj => .inl ⟨.inr (.inr hj), fun e => by have h2 : j = bz := hj; omega⟩) (fun j hj => .inl hj) (fun j hj => by have h2 := HB6.out.lt; omega) (Nat.le_refl _)).low
        · refine ((HO6.out.mono fun j hj => ?_).trans (HO7.out.mono fun j hj => ?_)).trans (hk2.mono fun j hj => ?_)
          · omega
          · have h1 := HLA.out.2.2
            rcases hj with hj | hj
            · omega
            · have h2 := hj.2
              simp only [not_or] at h2
              omega
          · have h2 : j = bz := hj
            omega
        · have h1 := HLA.out.2.2
          have h2 := H0W.out.size
          rcases hj with hj | hj
          · exact .inr (by omega)
          · exact .inr hj.1
        · have h2 : j = bz := hj
          have h1 := HLA5.out.size
          omega
        · have h1 := HO7.out.size
          have h2 := hk2.size
          omega
      go_roundw
      case rel => exact Lib.hid ⟨_, hREL⟩
      case measure =>
        refine Nat.lt_of_le_of_lt ((leastOf_spec ⟨_, hREL⟩).2 _ hREL) ?_
        rw [← HGL.out, hgk]
        omega
    · have HA1 := Lib.hid a1
      clear a1 a2
      gi_wp2
      refine ⟨fun _ h => (by cases h), ?_⟩
      gi_wp2
      go_end0
      refine ⟨⟨_, rfl⟩, k, ⟨?_, fun hH => ?_⟩, HJK.out.1⟩
      · have h1 := HJK.out.2
        omega
      · rcases HA1.out with h1 | h1
        · have h2 := HJK.out.2
          omega
        · exact absurd h1.1 hH
end
end Go.Proofs.Ytnjhpjpeeehagaa

/-
  A tree that All tells whole, and its reader; what a call has told, in a box of its own.
-/
set_option linter.unusedVariables false
namespace Go.Proofs.Ytnjhpjpeeehagaa
open Go.RowKit

theorem mk_tr {Ex : Nat → Prop} {w0 : World} {bl : Nat} {A : Option Addr} {n c : Nat} {l : List Nm} {root : Int} {S : Sv} (hb : ∀ W, Lat Ex w0 W → Blk W bl 22 [.slice A n c]) (h : ∀ W, Lat Ex w0 W → Nms W (.slice A n c) l) (hf : FewN l) (ha : allP l root = (0, S)) :
    Tr Ex w0 (.func (.func 26) #[] #[.pointer (some ⟨bl, 0, none⟩)]) (fun lb r => downX l (fun _ => 11) (chE lb) 12 r) (fun key => downX l (fun _ => 11) (chP key) 12 root) False l root S.dep S.its := by
  have rd := src_rdr hb h hf
  obtain ⟨hh, refs, h1, _, h2, _, h3⟩ := all_sub ha
  rw [h2]
  exact ⟨fun W hW lb ref => Edge_o W Ex w0 _ _ _ ref l rd hW lb, fun lb ref => downX_len 12 ref, fun W hW K kn kc key hk => Path_o W Ex w0 _ _ _ root l rd hW K kn kc key hk h1.ok,
    fun lb r _ => .inl (downX_11 12 r), fun key _ => .inl (downX_11 12 root), ⟨refs, h1⟩, h3, hf⟩
theorem lat_no {w0 w : World} (h : Lat (fun _ => False) w0 w) : Only (w0.heap.size ≤ ·) w0 w := h.mono fun _ h => h.resolve_left id
theorem src_n {w : World} {A : Option Addr} {n c : Nat} {xs : Bytes} (h : Src w (.slice A n c) xs) : n = xs.length := by
  obtain ⟨A', c', e, _⟩ := h
  cases e
  rfl
theorem src_at {F : Nat → Prop} {w w' : World} {v : Value} {xs : Bytes} (h : Src w v xs) (ho : Only F w w') (hF : ∀ j, AtV v j → ¬ F j) : Src w' v xs := by
  obtain ⟨A, c, rfl, ⟨h2, h3⟩, h4⟩ := h
  refine ⟨A, c, rfl, ⟨h2, fun hn => ?_⟩, h4⟩
  obtain ⟨ad, e, hc⟩ := h3 hn
  exact ⟨ad, e, fun j u hu => (ho.cell (p := ad.add j) (hF _ ⟨A, _, c, ad, rfl, e, by unfold Addr.add; split <;> rfl⟩)).trans (hc j u hu)⟩
section
variable {H : Prop} {l : List Nm} {root : Int} {h : Nat} {seg : List It} {S : Value} {D : Nat → Prop} {B cb b : Nat} {w W : World} {n : Int} {P U : Option Addr} {pn pc un uc : Nat} {i2 i3 : Int} {t : Bool} {er : Int}
/-- What a call has told, as it is laid in a box of its own. -/
theorem Got.box (hg : Got H l root h seg S D B cb b w n P pn pc U un uc i2 i3 t er) (ho : Only (w.heap.size ≤ ·) w W) (hs : w.heap.size < W.heap.size) (hD : ∀ j, D j → j < w.heap.size) :
    ∃ D' : Nat → Prop, (∀ j, D j → D' j) ∧ D' w.heap.size ∧ (∀ j, AtV (.slice P pn pc) j → D' j) ∧ (∀ j, AtV (.slice U un uc) j → D' j) ∧ (∀ j, D' j → j < W.heap.size) ∧ (∀ j, AtV (.slice P pn pc) j ∨ AtV (.slice U un uc) j → b ≤ j) ∧
      ((∃ y : It, t = true ∧ er = 0 ∧ 0 ≤ n ∧ seg[n.toNat]? = some y ∧ Src W (.slice P pn pc) y.1 ∧ Src W (.slice U un uc) y.2.1 ∧ i2 = y.2.2.1 ∧ i3 = y.2.2.2 ∧ CurAt l root h seg S D' B cb W (some n.toNat)) ∨
       (t = false ∧ pn = 0 ∧ (((n < 0 ∨ (seg.length : Int) ≤ n) ∧ er = 0) ∨ (H ∧ er = 10)) ∧ CurAt l root h seg S D' B cb W none)) := by
  refine ⟨fun j => D j ∨ AtV (.slice P pn pc) j ∨ AtV (.slice U un uc) j ∨ j = w.heap.size, fun j hj => .inl hj, .inr (.inr (.inr rfl)), fun j hj => .inr (.inl hj), fun j hj => .inr (.inr (.inl hj)), ?_, ?_, ?_⟩
  · intro j hj
    rcases hg with ⟨y, a1, a2, a3, a4, _⟩ | ⟨a1, rfl, rfl, rfl, rfl, rfl, rfl, _⟩
    · rcases hj with hj | hj | hj | hj
      · exact Nat.lt_of_lt_of_le (hD j hj) ho.size
      · exact Nat.lt_of_lt_of_le (a3.atV hj).2 ho.size
      · exact Nat.lt_of_lt_of_le (a4.atV hj).2 ho.size
      · omega
    · have hno : ∀ n c, ¬ AtV (.slice none n c) j := fun n c ⟨A, n', c', ad, e, e2, _⟩ => by
        cases e
        cases e2
      rcases hj with hj | hj | hj | hj
      · exact Nat.lt_of_lt_of_le (hD j hj) ho.size
      · exact (hno _ _ hj).elim
      · exact (hno _ _ hj).elim
      · omega
  · intro j hj
    rcases hg with ⟨y, a1, a2, a3, a4, _⟩ | ⟨a1, rfl, rfl, rfl, rfl, rfl, rfl, _⟩
    · exact hj.elim (fun h => (a3.atV h).1) fun h => (a4.atV h).1
    · rcases hj with ⟨A, n', c', ad, e, e2, _⟩ | ⟨A, n', c', ad, e, e2, _⟩
      · cases e
        cases e2
      · cases e
        cases e2
  · rcases hg with ⟨y, a1, a2, a3, a4, a5, a6, a7, a8, a9⟩ | ⟨a1, rfl, rfl, rfl, rfl, rfl, rfl, a5, a6, a7, a8⟩
    · exact .inl ⟨y, a7, a8, a1, a2, (a3.later ho).src, (a4.later ho).src, a5, a6, a9.step (ho.mono fun j hj => .inr hj) fun j hj => by
        rcases hj with hj | hj | hj | hj
        · exact .inl (.inl hj)
        · exact .inl (.inr (.inl hj))
        · exact .inl (.inr (.inr hj))
        · exact .inr (Nat.le_of_eq hj.symm)⟩
    · refine .inr ⟨a7, rfl, a1, a8.step (ho.mono fun j hj => .inr hj) fun j hj => ?_⟩
      have hno : ∀ n c, ¬ AtV (.slice none n c) j := fun n c ⟨A, n', c', ad, e, e2, _⟩ => by
        cases e
        cases e2
      rcases hj with hj | hj | hj | hj
      · exact .inl hj
      · exact (hno _ _ hj).elim
      · exact (hno _ _ hj).elim
      · exact .inr (Nat.le_of_eq hj.symm)
end
end Go.Proofs.Ytnjhpjpeeehagaa

/-
  Three items, as Made lays them: plain data; the row that is handed to it.
-/
set_option linter.unusedVariables false
namespace Go.Proofs.Ytnjhpjpeeehagaa
open Go.RowKit

def xa : It := ([97], [], 0, 0)
def xc : It := ([99], [], 0, 0)
def xd : It := ([100], [], 0, 0)
def L4 : List Nm := [(2, ⟨true, [xa], []⟩), (3, ⟨true, [xc], []⟩), (4, ⟨true, [xd], []⟩), (5, ⟨false, [], [([], 2), ([99], 3), ([100], 4)]⟩)]
theorem made_three {ls : List Nm} {root : Int} (h : IsMade [xa, xc, xd] 1 3 ls root) : ls = L4 ∧ root = 5 := by
  obtain ⟨j, k, h1, h2, h3, h4, rfl⟩ := h
  obtain rfl : j = 3 := by simp at h2 h3; omega
  cases h4 with
  | @step ls' ns ks' ab h5 h6 h7 =>
    rcases h5.half (show 2 ≤ 3 by decide) with ⟨rfl, rfl⟩ | h8
    · have hL : (leafKidsP 1 [xa, xc, xd] 3).length = 3 := rfl
      rcases h7.inv with ⟨h8, _⟩ | ⟨a, ns0, ab0, h8, h9, h10, h11, h12⟩
      · omega
      · obtain rfl : ab0 = [] := by
          cases ab0 with
          | nil => rfl
          | cons y r => simp at h12
        obtain ⟨rfl, rfl⟩ : a = 0 ∧ ns0 = [] := by
          rcases h8.inv with ⟨e1, e2, _⟩ | ⟨a', ns', ab', _, _, _, _, e⟩
          · exact ⟨e1, e2⟩
          · simp at e
        simp only [List.nil_append, List.cons.injEq, and_true] at h12
        subst h12
        subst h11
        exact ⟨rfl, rfl⟩
    · have : (leafKidsP 1 [xa, xc, xd] 3).length = 3 := rfl
      omega
theorem L4_few : FewN L4 := by
  refine ⟨by decide, fun x hx => ?_⟩
  simp [L4] at hx
  rcases hx with rfl | rfl | rfl | rfl
  · exact ⟨by simp, by simp, by simp [xa], by simp⟩
  · exact ⟨by simp, by simp, by simp [xc], by simp⟩
  · exact ⟨by simp, by simp, by simp [xd], by simp⟩
  · refine ⟨by decide, by decide, by simp, fun y hy => ?_⟩
    simp only [List.mem_cons, List.not_mem_nil, or_false] at hy
    rcases hy with rfl | rfl | rfl
    · exact ⟨Nat.zero_le _, by decide, by decide⟩
    · exact ⟨by show 1 ≤ 140737488355328; omega, by decide, by decide⟩
    · exact ⟨by show 1 ≤ 140737488355328; omega, by decide, by decide⟩
theorem L4_all : allP L4 5 = (0, ⟨[xa, xc, xd], [5, 2, 3, 4], 2⟩) := by kernel_rfl
theorem find_b : findP [xa, xc, xd] [98] = 1 := by kernel_rfl
theorem three_its (w w4 : World) (hw : w4 = (((w.alloc (.cells #[.int .u8 97] 5 (1, 2))).alloc (.cells #[.int .u8 99] 5 (1, 2))).alloc (.cells #[.int .u8 100] 5 (1, 2))).alloc (.cells #[.slice (some ⟨w.heap.size, 0, none⟩) 1 1, .slice none 0 0, .int .i64 0, .int .i64 0, .slice (some ⟨w.heap.size + 1, 0, none⟩) 1 1, .slice none 0 0, .int .i64 0, .int .i64 0, .slice (some ⟨w.heap.size + 1 + 1, 0, none⟩) 1 1, .slice none 0 0, .int .i64 0, .int .i64 0] 44)) : Its w4 (.slice (some ⟨w.heap.size + 1 + 1 + 1, 0, none⟩) 3 3) [xa, xc, xd] := by
  obtain ⟨w1, hw1⟩ : ∃ x, x = w.alloc (.cells #[.int .u8 97] 5 (1, 2)) := ⟨_, rfl⟩
  have s1 : w1.heap.size = w.heap.size + 1 := by rw [hw1]; simp
  obtain ⟨w2, hw2⟩ : ∃ x, x = w1.alloc (.cells #[.int .u8 99] 5 (1, 2)) := ⟨_, rfl⟩
  have s2 : w2.heap.size = w.heap.size + 1 + 1 := by rw [hw2]; simp [s1]
  obtain ⟨w3, hw3⟩ : ∃ x, x = w2.alloc (.cells #[.int .u8 100] 5 (1, 2)) := ⟨_, rfl⟩
  have s3 : w3.heap.size = w.heap.size + 1 + 1 + 1 := by rw [hw3]; simp [s2]
  have o2 : Only (w1.heap.size ≤ ·) w1 w2 := by rw [hw2]; exact (Only.refl _ _).alloc (fun _ h => h) _
  have o3 : Only (w2.heap.size ≤ ·) w2 w3 := by rw [hw3]; exact (Only.refl _ _).alloc (fun _ h => h) _
  have k1 : Src w3 (.slice (some ⟨w.heap.size, 0, none⟩) 1 1) [97] := by
    have := lit_src w #[.int .u8 97] (1, 2) 1 [97] rfl rfl (by decide)
    rw [← hw1] at this
    exact (this.later o2).later o3
  have k2 : Src w3 (.slice (some ⟨w.heap.size + 1, 0, none⟩) 1 1) [99] := by
    have := lit_src w1 #[.int .u8 99] (1, 2) 1 [99] rfl rfl (by decide)
    rw [← hw2, s1] at this
    exact this.later o3
  have k3 : Src w3 (.slice (some ⟨w.heap.size + 1 + 1, 0, none⟩) 1 1) [100] := by
    have := lit_src w2 #[.int .u8 100] (1, 2) 1 [100] rfl rfl (by decide)
    rw [← hw3, s2] at this
    exact this
  rw [← hw1, ← hw2, ← hw3] at hw
  have hb := Blk.new w3 44 [.slice (some ⟨w.heap.size, 0, none⟩) 1 1, .slice none 0 0, .int .i64 0, .int .i64 0, .slice (some ⟨w.heap.size + 1, 0, none⟩) 1 1, .slice none 0 0, .int .i64 0, .int .i64 0, .slice (some ⟨w.heap.size + 1 + 1, 0, none⟩) 1 1, .slice none 0 0, .int .i64 0, .int .i64 0]
  have o4 : Only (w3.heap.size ≤ ·) w3 w4 := by rw [hw]; exact (Only.refl _ _).alloc (fun _ h => h) _
  rw [s3, ← hw] at hb
  exact ⟨_, 3, _, rfl, ⟨[.slice (some ⟨w.heap.size, 0, none⟩) 1 1, .slice none 0 0, .int .i64 0, .int .i64 0], _, rfl, ⟨_, 1, none, 0, rfl, k1.later o4, Src.nil_ _⟩, [.slice (some ⟨w.heap.size + 1, 0, none⟩) 1 1, .slice none 0 0, .int .i64 0, .int .i64 0], _, rfl, ⟨_, 1, none, 0, rfl, k2.later o4, Src.nil_ _⟩, [.slice (some ⟨w.heap.size + 1 + 1, 0, none⟩) 1 1, .slice none 0 0, .int .i64 0, .int .i64 0], [], rfl, ⟨_, 1, none, 0, rfl, k3.later o4, Src.nil_ _⟩, rfl⟩, Raw.blk (rest := []) (by rw [List.append_nil]; exact hb), (fun e => nomatch e), Nat.le_refl _, by omega⟩
end Go.Proofs.Ytnjhpjpeeehagaa

/-
  alive.
-/
set_option linter.unusedVariables false
namespace Go.Proofs.Ytnjhpjpeeehagaa
open Go.RowKit

attribute [local go_sem] Oper.semAt_some
set_option maxRecDepth 100000 in
set_option maxHeartbeats 25600000 in
theorem calive_c (w : World) : Calls Try.prog 9 #[] w (Told w (.bool true)) := by
  have kc := fun (w : World) (C : Array Value) (n c : Nat) => Lib.run_convert_bytes_const (P := Try.prog) w 34 5 C n c Try.underlying34 Try.underlying5
  have kc2 := kc (w.alloc (.cells #[.int .u8 97] 5 (1, 2))) #[.int .u8 99] 1 1
  rw [show (w.alloc (.cells #[.int .u8 97] 5 (1, 2))).heap.size = w.heap.size + 1 by simp] at kc2
  have kc3 := kc ((w.alloc (.cells #[.int .u8 97] 5 (1, 2))).alloc (.cells #[.int .u8 99] 5 (1, 2))) #[.int .u8 100] 1 1
  rw [show ((w.alloc (.cells #[.int .u8 97] 5 (1, 2))).alloc (.cells #[.int .u8 99] 5 (1, 2))).heap.size = w.heap.size + 1 + 1 by simp] at kc3
  obtain ⟨w3, hw3⟩ : ∃ W, W = (((w.alloc (.cells #[.int .u8 97] 5 (1, 2))).alloc (.cells #[.int .u8 99] 5 (1, 2))).alloc (.cells #[.int .u8 100] 5 (1, 2))).alloc (.cells #[.slice (some ⟨w.heap.size, 0, none⟩) 1 1, .slice none 0 0, .int .i64 0, .int .i64 0, .slice (some ⟨w.heap.size + 1, 0, none⟩) 1 1, .slice none 0 0, .int .i64 0, .int .i64 0, .slice (some ⟨w.heap.size + 1 + 1, 0, none⟩) 1 1, .slice none 0 0, .int .i64 0, .int .i64 0] 44) := ⟨_, rfl⟩
  have HI := Lib.hid (three_its w w3 hw3)
  have HO3 : Hid (Only (w.heap.size ≤ ·) w w3) := Lib.hid (by rw [hw3]; exact ((((Only.refl _ w).alloc (fun _ h => h) _).alloc (fun _ h => h) _).alloc (fun _ h => h) _).alloc (fun _ h => h) _)
  have HE3 := Lib.hid hw3
  clear hw3
  refine (callsIn_wide (n := 3)).1 ?_
  refine callsIn_of_wp_marks Try.func9 rfl trivial ?_ rfl
  refine wpIn_wide.2 ?_
  simp only [Try.ntmps9, List.size_toArray, List.length_nil, Nat.reduceSub, Array.replicate_succ, Array.replicate_zero, List.push_toArray, List.append_toArray, List.nil_append, List.cons_append]
  go_upto_region 2 with (go_at_call 24; rw [← HE3.out]; (have hc := rMade_c w3 _ 3 3 1 3 _ HI.out (by decide) (by decide) (by decide)); rw [show ((1 : Nat) : Int) = 1 from rfl, show ((3 : Nat) : Int) = 3 from rfl] at hc; (with_reducible refine hc.mono ?_); rintro e w4 ⟨⟨A, n, c, root, ls, rfl, hm, _, hn⟩, ho⟩; (obtain ⟨rfl, rfl⟩ := made_three hm); have HN := Lib.hid hn; have HO4 := Lib.hid (on_new HO3.out ho); clear hc hm hn ho)
  clear kc2 kc3 HI HO3 HE3
  go_upto_region 3 with (first
      | (go_at_call 12; (with_reducible refine (Source_c w4 A n c).mono ?_); rintro e w5 ⟨⟨bl, rfl, _, hbl⟩, ho⟩; have HBL := Lib.hid hbl; have HO5 := Lib.hid ho; clear hbl ho)
      | (go_at_call 11; (with_reducible refine (CrNew_c w5 26 _ 5).mono ?_); rintro e w6 ⟨rfl, hc6, ho6⟩; have HC6 := Lib.hid hc6; have HO6 := Lib.hid ho6; clear hc6 ho6))
  obtain ⟨cb, hcb⟩ : ∃ z, z = w5.heap.size := ⟨_, rfl⟩
  rw [← hcb] at HC6 ⊢
  have HCW : Hid (w5.heap.size ≤ cb) := Lib.hid (by omega)
  clear hcb
  have HT : Hid (Tr (fun _ => False) w5 (.func (.func 26) #[] #[.pointer (some ⟨bl, 0, none⟩)]) (fun lb r => downX L4 (fun _ => 11) (chE lb) 12 r) (fun key => downX L4 (fun _ => 11) (chP key) 12 5) False L4 5 2 [xa, xc, xd]) := Lib.hid (mk_tr (fun W hW => HBL.out.later (lat_no hW)) (fun W hW => Rw.later (Rw.later HN.out HO5.out) (lat_no hW)) L4_few L4_all)
  go_upto_region 5 with (go_at_call 11; (with_reducible refine (CrNew_nil w6 5).mono ?_); rintro e w' ⟨rfl, rfl⟩)
  have HD0 : Hid ((∀ j, (fun j => j = cb) j → j < w6.heap.size) ∧ (fun j => j = cb) cb) := Lib.hid ⟨fun j hj => by rw [hj]; exact HC6.out.lt, rfl⟩
  have hs := lit_src w6 #[.int .u8 98] (1, 2) 1 [98] rfl rfl (by decide)
  have hx : Only (w6.heap.size ≤ ·) w6 (w6.alloc (.cells #[.int .u8 98] 5 (1, 2))) := (Only.refl _ _).alloc (fun _ h => h) _
  have HS := Lib.hid hs
  have HXA1 : Hid (Only (w5.heap.size ≤ ·) w5 (w6.alloc (.cells #[.int .u8 98] 5 (1, 2)))) := Lib.hid (on_new HO6.out hx)
  have HC6A := Lib.hid (HC6.out.later hx)
  have HXL1 : Hid (w6.heap.size ≤ (w6.alloc (.cells #[.int .u8 98] 5 (1, 2))).heap.size) := Lib.hid hx.size
  clear hs hx
  go_upto_region 6 with (go_at_call 20; skip; (with_reducible refine (Seek_c HT.out _ (lat_of HXA1.out _) cb (fun j => j = cb) (fun j hj => Nat.lt_of_lt_of_le (HD0.out.1 j hj) HXL1.out) rfl HCW.out _ HC6A.out _ 1 1 [98] HS.out).mono ?_); rintro e v1 ⟨P1, n1, c1, U1, m1, d1, i1, j1, t1, er1, rfl, ho, hg⟩; have HOC1 := Lib.hid ho; have HG1 := Lib.hid hg; clear ho hg)
  obtain ⟨y1, hw⟩ : ∃ W, W = v1.alloc (.cells #[.slice P1 n1 c1, .slice U1 m1 d1, .int .i64 i1, .int .i64 j1] 39) := ⟨_, rfl⟩
  obtain ⟨b1, hb⟩ : ∃ z, z = v1.heap.size := ⟨_, rfl⟩
  have HON1 : Hid (Only (v1.heap.size ≤ ·) v1 y1) := Lib.hid (by rw [hw]; exact (Only.refl _ v1).alloc (fun _ h => h) _)
  have HB1 : Hid (Blk y1 b1 39 [.slice P1 n1 c1, .slice U1 m1 d1, .int .i64 i1, .int .i64 j1]) := Lib.hid (by rw [hw, hb]; exact Blk.new v1 _ _)
  rw [← hw, ← hb]
  have HW1 := Lib.hid (And.intro hw hb)
  clear hw hb
  have HX1 : Hid (Only (w5.heap.size ≤ ·) w5 y1) := Lib.hid (on_new (HXA1.out.trans (HOC1.out.mono fun j hj => by have h1 := HCW.out; rcases hj with hj | hj; omega; exact hj.1)) HON1.out)
  obtain ⟨D1, d1, d2, d3, d4, d5, d6, d7⟩ := HG1.out.box HON1.out (by have h1 := HB1.out.lt; have h2 := HW1.out.2; omega) (fun j hj => Nat.lt_of_lt_of_le (HD0.out.1 j hj) (Nat.le_trans HXL1.out HOC1.out.size))
  rw [← HW1.out.2] at d2
  rcases d7 with ⟨y, e1, e2, e3, e4, e5, _, _, _, e6⟩ | ⟨_, _, h9, _⟩
  case inr => exact absurd h9 (by rw [find_b]; simp [xa, xc, xd])
  obtain rfl : y = xc := by rw [find_b] at e4; exact (Option.some.inj e4).symm
  subst e1 e2
  have HC1 : Hid (CurAt L4 5 2 [xa, xc, xd] (.func (.func 26) #[] #[.pointer (some ⟨bl, 0, none⟩)]) D1 w5.heap.size cb y1 (some 1)) := Lib.hid e6
  have hl1 : n1 = 1 := src_n e5
  subst hl1
  have HK1 := Lib.hid e5
  clear e3 e4 e5 e6
  have HD1 : Hid ((∀ j, D1 j → j < y1.heap.size) ∧ D1 cb ∧ D1 b1 ∧ (∀ j, AtV (.slice P1 1 c1) j → D1 j)) := Lib.hid ⟨d5, d1 _ rfl, d2, d3⟩
  have HBL1 : Hid (cb < b1 ∧ ∀ j, AtV (.slice P1 1 c1) j → cb < j) := Lib.hid ⟨by have h1 := HW1.out.2; have h2 := HOC1.out.size; have h3 := HD0.out.1 cb rfl; have h4 := HXL1.out; omega, fun j hj => by have h1 := d6 j (.inl hj); have h3 := HD0.out.1 cb rfl; have h4 := HXL1.out; omega⟩
  clear d1 d2 d3 d4 d5 d6
  go_upto_region 7 with (go_at_call 19; (with_reducible refine (Prev_c HT.out y1 (lat_of HX1.out _) cb D1 HD1.out.1 HD1.out.2.1 HCW.out (some 1) HC1.out).mono ?_); rintro e v2 ⟨P2, n2, c2, U2, m2, d2, i2, j2, t2, er2, rfl, ho, hg⟩; have HOC2 := Lib.hid ho; have HG2 := Lib.hid hg; clear ho hg)
  obtain ⟨y2, hw⟩ : ∃ W, W = v2.alloc (.cells #[.slice P2 n2 c2, .slice U2 m2 d2, .int .i64 i2, .int .i64 j2] 39) := ⟨_, rfl⟩
  obtain ⟨b2, hb⟩ : ∃ z, z = v2.heap.size := ⟨_, rfl⟩
  have HON2 : Hid (Only (v2.heap.size ≤ ·) v2 y2) := Lib.hid (by rw [hw]; exact (Only.refl _ v2).alloc (fun _ h => h) _)
  have HB2 : Hid (Blk y2 b2 39 [.slice P2 n2 c2, .slice U2 m2 d2, .int .i64 i2, .int .i64 j2]) := Lib.hid (by rw [hw, hb]; exact Blk.new v2 _ _)
  rw [← hw, ← hb]
  have HW2 := Lib.hid (And.intro hw hb)
  clear hw hb
  have HX2 : Hid (Only (w5.heap.size ≤ ·) w5 y2) := Lib.hid (on_new (HX1.out.trans (HOC2.out.mono fun j hj => by have h1 := HCW.out; rcases hj with hj | hj; omega; exact hj.1)) HON2.out)
  obtain ⟨D2, d1, d2, d3, d4, d5, d6, d7⟩ := HG2.out.box HON2.out (by have h1 := HB2.out.lt; have h2 := HW2.out.2; omega) (fun j hj => Nat.lt_of_lt_of_le (HD1.out.1 j hj) HOC2.out.size)
  rw [← HW2.out.2] at d2
  rcases d7 with ⟨y, e1, e2, e3, e4, e5, _, _, _, e6⟩ | ⟨_, _, h9, _⟩
  case inr => exact absurd h9 (by show ¬ _; simp [prvP])
  obtain rfl : y = xa := by exact (Option.some.inj e4).symm
  subst e1 e2
  have HC2 : Hid (CurAt L4 5 2 [xa, xc, xd] (.func (.func 26) #[] #[.pointer (some ⟨bl, 0, none⟩)]) D2 w5.heap.size cb y2 (some 0)) := Lib.hid e6
  have hl2 : n2 = 1 := src_n e5
  subst hl2
  have HK2 := Lib.hid e5
  clear e3 e4 e5 e6
  have HD2 : Hid ((∀ j, D2 j → j < y2.heap.size) ∧ D2 cb ∧ D2 b1 ∧ D2 b2 ∧ (∀ j, AtV (.slice P1 1 c1) j → D2 j) ∧ (∀ j, AtV (.slice P2 1 c2) j → D2 j)) := Lib.hid ⟨d5, d1 _ HD1.out.2.1, d1 _ HD1.out.2.2.1, d2, (fun j hj => d1 _ (HD1.out.2.2.2 j hj)), d3⟩
  have HBL2 : Hid (cb < b2 ∧ ∀ j, AtV (.slice P2 1 c2) j → cb < j) := Lib.hid ⟨by have h1 := HW2.out.2; have h2 := HOC2.out.size; have h3 := HD1.out.1 cb HD1.out.2.1; omega, fun j hj => by have h1 := d6 j (.inl hj); have h3 := HD1.out.1 cb HD1.out.2.1; omega⟩
  clear d1 d2 d3 d4 d5 d6
  replace HB1 := Lib.hid ((HB1.out.only HOC2.out (fun e => e.elim (fun e => by have h1 := HBL1.out.1; omega) fun e => e.2 HD1.out.2.2.1)).later HON2.out)
  replace HK1 := Lib.hid ((src_at HK1.out HOC2.out (fun j hj e => e.elim (fun e => by have h1 := HBL1.out.2 j hj; omega) fun e => e.2 (HD1.out.2.2.2 j hj))).later HON2.out)
  go_upto_region 8 with (go_at_call 19; (with_reducible refine (Prev_c HT.out y2 (lat_of HX2.out _) cb D2 HD2.out.1 HD2.out.2.1 HCW.out (some 0) HC2.out).mono ?_); rintro e v3 ⟨P3, n3, c3, U3, m3, d3, i3, j3, t3, er3, rfl, ho, hg⟩; have HOC3 := Lib.hid ho; have HG3 := Lib.hid hg; clear ho hg)
  obtain ⟨y3, hw⟩ : ∃ W, W = v3.alloc (.cells #[.slice P3 n3 c3, .slice U3 m3 d3, .int .i64 i3, .int .i64 j3] 39) := ⟨_, rfl⟩
  obtain ⟨b3, hb⟩ : ∃ z, z = v3.heap.size := ⟨_, rfl⟩
  have HON3 : Hid (Only (v3.heap.size ≤ ·) v3 y3) := Lib.hid (by rw [hw]; exact (Only.refl _ v3).alloc (fun _ h => h) _)
  have HB3 : Hid (Blk y3 b3 39 [.slice P3 n3 c3, .slice U3 m3 d3, .int .i64 i3, .int .i64 j3]) := Lib.hid (by rw [hw, hb]; exact Blk.new v3 _ _)
  rw [← hw, ← hb]
  have HW3 := Lib.hid (And.intro hw hb)
  clear hw hb
  have HX3 : Hid (Only (w5.heap.size ≤ ·) w5 y3) := Lib.hid (on_new (HX2.out.trans (HOC3.out.mono fun j hj => by have h1 := HCW.out; rcases hj with hj | hj; omega; exact hj.1)) HON3.out)
  obtain ⟨D3, d1, d2, d3, d4, d5, d6, d7⟩ := HG3.out.box HON3.out (by have h1 := HB3.out.lt; have h2 := HW3.out.2; omega) (fun j hj => Nat.lt_of_lt_of_le (HD2.out.1 j hj) HOC3.out.size)
  rw [← HW3.out.2] at d2
  rcases d7 with ⟨y, _, _, e3, e4, _⟩ | ⟨e1, _, h9, e6⟩
  case inl => exact absurd e4 (by exact absurd e3 (by simp [prvP]))
  obtain rfl : er3 = 0 := by rcases h9 with h9 | h9; exact h9.2; exact h9.1.elim
  subst e1
  have HC3 : Hid (CurAt L4 5 2 [xa, xc, xd] (.func (.func 26) #[] #[.pointer (some ⟨bl, 0, none⟩)]) D3 w5.heap.size cb y3 none) := Lib.hid e6
  clear h9 e6
  have HD3 : Hid ((∀ j, D3 j → j < y3.heap.size) ∧ D3 cb ∧ D3 b1 ∧ D3 b2 ∧ D3 b3 ∧ (∀ j, AtV (.slice P1 1 c1) j → D3 j) ∧ (∀ j, AtV (.slice P2 1 c2) j → D3 j)) := Lib.hid ⟨d5, d1 _ HD2.out.2.1, d1 _ HD2.out.2.2.1, d1 _ HD2.out.2.2.2.1, d2, (fun j hj => d1 _ (HD2.out.2.2.2.2.1 j hj)), (fun j hj => d1 _ (HD2.out.2.2.2.2.2 j hj))⟩
  have HBL3 : Hid (cb < b3) := Lib.hid (by have h1 := HW3.out.2; have h2 := HOC3.out.size; have h3 := HD2.out.1 cb HD2.out.2.1; omega)
  clear d1 d2 d3 d4 d5 d6
  replace HB1 := Lib.hid ((HB1.out.only HOC3.out (fun e => e.elim (fun e => by have h1 := HBL1.out.1; omega) fun e => e.2 HD2.out.2.2.1)).later HON3.out)
  replace HK1 := Lib.hid ((src_at HK1.out HOC3.out (fun j hj e => e.elim (fun e => by have h1 := HBL1.out.2 j hj; omega) fun e => e.2 (HD2.out.2.2.2.2.1 j hj))).later HON3.out)
  replace HB2 := Lib.hid ((HB2.out.only HOC3.out (fun e => e.elim (fun e => by have h1 := HBL2.out.1; omega) fun e => e.2 HD2.out.2.2.2.1)).later HON3.out)
  replace HK2 := Lib.hid ((src_at HK2.out HOC3.out (fun j hj e => e.elim (fun e => by have h1 := HBL2.out.2 j hj; omega) fun e => e.2 (HD2.out.2.2.2.2.2 j hj))).later HON3.out)
  obtain ⟨VV, HVV⟩ : ∃ V, Hid (Blk y3 cb 75 [(.func (.func 26) #[] #[.pointer (some ⟨bl, 0, none⟩)]), .int .i64 5, V]) := ⟨_, HC3⟩
  go_upto_region 9 with (go_at_call 18; (with_reducible refine (Last_c HT.out y3 (lat_of HX3.out _) cb D3 HD3.out.1 HD3.out.2.1 HCW.out VV HVV.out).mono ?_); rintro e v4 ⟨P4, n4, c4, U4, m4, d4, i4, j4, t4, er4, rfl, ho, hg⟩; have HOC4 := Lib.hid ho; have HG4 := Lib.hid hg; clear ho hg)
  obtain ⟨y4, hw⟩ : ∃ W, W = v4.alloc (.cells #[.slice P4 n4 c4, .slice U4 m4 d4, .int .i64 i4, .int .i64 j4] 39) := ⟨_, rfl⟩
  obtain ⟨b4, hb⟩ : ∃ z, z = v4.heap.size := ⟨_, rfl⟩
  have HON4 : Hid (Only (v4.heap.size ≤ ·) v4 y4) := Lib.hid (by rw [hw]; exact (Only.refl _ v4).alloc (fun _ h => h) _)
  have HB4 : Hid (Blk y4 b4 39 [.slice P4 n4 c4, .slice U4 m4 d4, .int .i64 i4, .int .i64 j4]) := Lib.hid (by rw [hw, hb]; exact Blk.new v4 _ _)
  rw [← hw, ← hb]
  have HW4 := Lib.hid (And.intro hw hb)
  clear hw hb
  have HX4 : Hid (Only (w5.heap.size ≤ ·) w5 y4) := Lib.hid (on_new (HX3.out.trans (HOC4.out.mono fun j hj => by have h1 := HCW.out; rcases hj with hj | hj; omega; exact hj.1)) HON4.out)
  obtain ⟨D4, d1, d2, d3, d4, d5, d6, d7⟩ := HG4.out.box HON4.out (by have h1 := HB4.out.lt; have h2 := HW4.out.2; omega) (fun j hj => Nat.lt_of_lt_of_le (HD3.out.1 j hj) HOC4.out.size)
  rw [← HW4.out.2] at d2
  rcases d7 with ⟨y, e1, e2, e3, e4, e5, _, _, _, e6⟩ | ⟨_, _, h9, _⟩
  case inr => exact absurd h9 (by simp)
  obtain rfl : y = xd := by exact (Option.some.inj e4).symm
  subst e1 e2
  have HC4 : Hid (CurAt L4 5 2 [xa, xc, xd] (.func (.func 26) #[] #[.pointer (some ⟨bl, 0, none⟩)]) D4 w5.heap.size cb y4 (some 2)) := Lib.hid e6
  have hl4 : n4 = 1 := src_n e5
  subst hl4
  have HK4 := Lib.hid e5
  clear e3 e4 e5 e6
  have HD4 : Hid ((∀ j, D4 j → j < y4.heap.size) ∧ D4 cb ∧ D4 b1 ∧ D4 b2 ∧ D4 b4 ∧ (∀ j, AtV (.slice P1 1 c1) j → D4 j) ∧ (∀ j, AtV (.slice P2 1 c2) j → D4 j) ∧ (∀ j, AtV (.slice P4 1 c4) j → D4 j)) := Lib.hid ⟨d5, d1 _ HD3.out.2.1, d1 _ HD3.out.2.2.1, d1 _ HD3.out.2.2.2.1, d2, (fun j hj => d1 _ (HD3.out.2.2.2.2.2.1 j hj)), (fun j hj => d1 _ (HD3.out.2.2.2.2.2.2 j hj)), d3⟩
  have HBL4 : Hid (cb < b4 ∧ ∀ j, AtV (.slice P4 1 c4) j → cb < j) := Lib.hid ⟨by have h1 := HW4.out.2; have h2 := HOC4.out.size; have h3 := HD3.out.1 cb HD3.out.2.1; omega, fun j hj => by have h1 := d6 j (.inl hj); have h3 := HD3.out.1 cb HD3.out.2.1; omega⟩
  clear d1 d2 d3 d4 d5 d6
  replace HB1 := Lib.hid ((HB1.out.only HOC4.out (fun e => e.elim (fun e => by have h1 := HBL1.out.1; omega) fun e => e.2 HD3.out.2.2.1)).later HON4.out)
  replace HK1 := Lib.hid ((src_at HK1.out HOC4.out (fun j hj e => e.elim (fun e => by have h1 := HBL1.out.2 j hj; omega) fun e => e.2 (HD3.out.2.2.2.2.2.1 j hj))).later HON4.out)
  replace HB2 := Lib.hid ((HB2.out.only HOC4.out (fun e => e.elim (fun e => by have h1 := HBL2.out.1; omega) fun e => e.2 HD3.out.2.2.2.1)).later HON4.out)
  replace HK2 := Lib.hid ((src_at HK2.out HOC4.out (fun j hj e => e.elim (fun e => by have h1 := HBL2.out.2 j hj; omega) fun e => e.2 (HD3.out.2.2.2.2.2.2 j hj))).later HON4.out)
  obtain ⟨z1, hz1⟩ : ∃ W, W = y4.alloc (.cells #[.int .i64 0] 3) := ⟨_, rfl⟩
  obtain ⟨nb, hnb⟩ : ∃ z, z = y4.heap.size := ⟨_, rfl⟩
  have HZ1 : Hid (Only (y4.heap.size ≤ ·) y4 z1) := Lib.hid (by rw [hz1]; exact (Only.refl _ y4).alloc (fun _ h => h) _)
  have HNB : Hid (Blk z1 nb 3 [.int .i64 0]) := Lib.hid (by rw [hz1, hnb]; exact Blk.new y4 _ _)
  have HNE := Lib.hid (And.intro hz1 hnb)
  clear hz1 hnb
  go_upto_region 10 with (fail)
  rw [← HNE.out.1, ← HNE.out.2]
  have HNL : Hid (w5.heap.size ≤ nb ∧ b1 < nb ∧ b2 < nb ∧ b4 < nb ∧ y4.heap.size = nb) := Lib.hid ⟨by have h1 := HX4.out.size; have h2 := HNE.out.2; omega, by have h1 := HB1.out.lt; have h2 := HNE.out.2; omega, by have h1 := HB2.out.lt; have h2 := HNE.out.2; omega, by have h1 := HB4.out.lt; have h2 := HNE.out.2; omega, HNE.out.2.symm⟩
  clear HNE
  have HXZ := Lib.hid (on_new HX4.out HZ1.out)
  go_wp2_with (first
      | (go_at_call 12; (with_reducible refine (Source_c z1 A n c).mono ?_); rintro e z2 ⟨⟨bm, rfl, hbm, hbl⟩, ho⟩; have HBM := Lib.hid hbl; have HBMQ : Hid (nb < bm) := Lib.hid (by have h1 := HNB.out.lt; omega); have HZ2 := Lib.hid ho; clear hbl hbm ho)
      | (go_at_call 22; have hs := lit_src z2 #[.int .u8 98] (1, 2) 1 [98] rfl rfl (by decide); have hx : Only (z2.heap.size ≤ ·) z2 (z2.alloc (.cells #[.int .u8 98] 5 (1, 2))) := (Only.refl _ _).alloc (fun _ h => h) _; (with_reducible refine (Each_c _ 26 _ 5 _ 1 1 [98] hs (by decide)).mono ?_); rintro e z4 ⟨⟨bs, br, bf, K, kn, kc', rfl, hbs, hbr, hbf, hk⟩, ho⟩; have HZ4 := Lib.hid (on_new hx ho); have HBS := Lib.hid hbs; have HBR := Lib.hid hbr; have HBF := Lib.hid hbf; have HKK := Lib.hid hk; have HBMN : Hid (nb < bm) := HBMQ; clear hs hx hbs hbr hbf hk ho))
  have HXE0 := Lib.hid (on_new HXZ.out HZ2.out)
  have HNB4 := Lib.hid ((HNB.out.later HZ2.out).later HZ4.out)
  have HBW : Hid (Only (fun j => j = nb ∨ z4.heap.size ≤ j) z4 z4) := Lib.hid (Only.refl _ _)
  have HT2 : Hid (Tr (fun j => j = nb) z2 (.func (.func 26) #[] #[.pointer (some ⟨bm, 0, none⟩)]) (fun lb r => downX L4 (fun _ => 11) (chE lb) 12 r) (fun key => downX L4 (fun _ => 11) (chP key) 12 5) False L4 5 2 [xa, xc, xd]) := Lib.hid (mk_tr (fun W hW => HBM.out.only hW (fun e => by
    have h1 := HBM.out.lt
    have h2 := HNB.out.lt
    rcases e with e | e
    · have h3 : nb < bm := HBMN.out
      omega
    · omega)) (fun W hW => Rw.later (Rw.later HN.out HO5.out) ((on_new HXZ.out HZ2.out).trans (hW.mono fun j hj => by
    have h1 := HNL.out.1
    have h2 := HXZ.out.size
    have h3 := HZ2.out.size
    rcases hj with hj | hj <;> omega))) L4_few L4_all)
  have HSQ := Lib.hid (each1_o 26 _ HT2.out z4 (lat_of HZ4.out _) bs br bf K kn kc' [98] HBS.out HBR.out HBF.out HKK.out (fun j => j = nb) (fun j hj => ⟨.inl hj, by have h1 := HNB4.out.lt; have h2 : j = nb := hj; omega⟩))
  refine (wpIn_wide (n := 3)).1 ?_
  refine range_skip rfl (by decide) (gf := 35) (lb := #[.pointer (some ⟨bs, 0, none⟩), .pointer (some ⟨br, 0, none⟩), .pointer (some ⟨bf, 0, none⟩)]) rfl trivial (enters_of Try.func35 (by kernel_rfl) rfl) (fun j hj => by have h1 := HNB4.out.lt; have h2 : j = nb := hj; omega) HSQ.out (fun _ => rfl) (fun k W => Blk W nb 3 [.int .i64 (k : Int)] ∧ Only (fun j => j = nb ∨ z4.heap.size ≤ j) z4 W) (fun k A B hA ho hs => ⟨hA.1.only ho (Nat.not_le.2 HNB4.out.lt), hA.2.trans (ho.mono fun j hj => .inr hj)⟩) ⟨HNB4.out, Only.refl _ _⟩ ?body ?done
  case body =>
    intro k x W hI hk hsz
    obtain ⟨hb, ho⟩ := hI
    have HB := Lib.hid hb
    have HO := Lib.hid ho
    have k0 : W.cell? ⟨nb, 0, none⟩ = some (.int .i64 (k : Int)) := hb.cell 0
    have f0 := hb.frozen 0
    have c0 : wrap64 ((k : Int) + 1) = ((k + 1 : Nat) : Int) := by
      have h1 : k < 3 := hk
      rw [IntWalk.wrap64_in _ (by omega)]
      omega
    clear hb ho
    simp only [List.zip_toArray, List.zip_cons_cons, List.zip_nil_right, List.foldl_toArray, List.foldl_cons, List.foldl_nil, List.setIfInBounds_toArray, List.set_cons_zero, List.set_cons_succ]
    gi_wp2
    exact ⟨⟨HB.out.set_ 0 _, HO.out.setCell (p := ⟨nb, 0, none⟩) (.inl rfl) _⟩, (Only.refl _ W).setCell (p := ⟨nb, 0, none⟩) (.inl rfl) _⟩
  case done =>
    intro D k W hD hS hI hK
    obtain rfl : k = 2 := by
      have h1 := hS.2 id
      rw [find_b] at h1
      exact h1
    have HO := Lib.hid hI.2
    have HDD := Lib.hid hD
    have HK := Lib.hid hK
    have kn0 : W.cell? ⟨nb, 0, none⟩ = some (.int .i64 2) := hI.1.cell 0
    have hz4 : Only (y4.heap.size ≤ ·) y4 z4 := on_new (on_new HZ1.out HZ2.out) HZ4.out
    have hbl : ∀ {g : Nat} {cs : List Value}, g < nb → Blk y4 g 39 cs → Blk W g 39 cs := fun hg h => (h.later hz4).only HO.out (fun e => by have h1 := (h.later hz4).lt; omega)
    have hsr : ∀ {v : Value} {xs : Bytes}, (∀ j, AtV v j → j < nb) → Src y4 v xs → Src W v xs := fun hg h => src_at (h.later hz4) HO.out (fun j hj e => by have h1 := hg j hj; have h2 := HNL.out.2.2.2.2; have h3 := hz4.size; omega)
    have hdn : ∀ j, D4 j → j < nb := fun j hj => by have h1 := HD4.out.1 j hj; have h2 := HNL.out.2.2.2.2; omega
    have kb1 := (hbl HNL.out.2.1 HB1.out).cell 0
    have kb2 := (hbl HNL.out.2.2.1 HB2.out).cell 0
    have kb4 := (hbl HNL.out.2.2.2.1 HB4.out).cell 0
    have a1 := convert_src _ _ _ _ _ (hsr (fun j hj => hdn j (HD4.out.2.2.2.2.2.1 j hj)) HK1.out)
    have a2 := convert_src _ _ _ _ _ (hsr (fun j hj => hdn j (HD4.out.2.2.2.2.2.2.1 j hj)) HK2.out)
    have a4 := convert_src _ _ _ _ _ (hsr (fun j hj => hdn j (HD4.out.2.2.2.2.2.2.2 j hj)) HK4.out)
    have HFIN : Hid (Only (w.heap.size ≤ ·) w W) := Lib.hid ((on_new (on_new (on_new HO4.out HO5.out) HXE0.out) HZ4.out).trans (HO.out.mono fun j hj => by have h1 := HO4.out.size; have h2 := HO5.out.size; have h3 := HNL.out.1; have h4 := HZ4.out.size; have h5 := HXE0.out.size; rcases hj with hj | hj <;> omega))
    clear hD hS hI hK hz4 hbl hsr hdn
    go_wp2
    refine ⟨by simp, .inl ⟨_, _, rfl, run_takeDeferred HK.out, ?_⟩⟩
    exact ⟨_, results_tmp rfl _ _ _, rfl, only_put HFIN.out (by have h1 := HFIN.out.size; have h2 := HDD.out; have h3 := HO4.out.size; have h4 := HO5.out.size; have h5 := HXE0.out.size; have h6 := HZ4.out.size; omega) _⟩
end Go.Proofs.Ytnjhpjpeeehagaa

/-
  few: so few nodes, and calls.
-/
set_option linter.unusedVariables false
namespace Go.Proofs.Ytnjhpjpeeehagaa
open Go.RowKit

/-- A call: its kind, its key. -/
abbrev Opp := Int × Bytes
def opE : El Opp where
  z := 2
  At w x cs := ∃ A c, cs = [.int .i64 x.1, .slice A x.2.length c] ∧ Src w (.slice A x.2.length c) x.2
  len := fun ⟨A, c, e, _⟩ => by rw [e]; rfl
  one := fun ⟨A, c, e, _⟩ u hu => by
    rw [e] at hu
    simp at hu
    rcases hu with rfl | rfl <;> rfl
  later := fun ⟨A, c, e, h1⟩ ho => ⟨A, c, e, h1.later ho⟩
abbrev Ops (w : World) (v : Value) (s : List Opp) : Prop := Rw opE w v s
theorem op_at {w : World} {A : Option Addr} {n c k : Nat} {s : List Opp} (h : Ops w (.slice A n c) s) (hk : k < n) : ∃ (b off : Nat) (x : Opp) (P : Option Addr) (p : Nat), A = some ⟨b, off, none⟩ ∧ s[k]? = some x ∧ w.cell? ⟨b, off + k * 2, none⟩ = some (.int .i64 x.1) ∧ w.cell? ⟨b, off + k * 2 + 1, none⟩ = some (.slice P x.2.length p) ∧ Src w (.slice P x.2.length p) x.2 := by
  obtain ⟨b, off, x, cs, e, _, hx, ⟨P, p, rfl, h1⟩, hc⟩ := Rw.at_ (E := opE) (by decide) h hk
  exact ⟨b, off, x, P, p, e, hx, hc 0 _ rfl, hc 1 _ rfl, h1⟩
def few2B (l : List Nm) (s : List Opp) : Bool := s.all (fun o => decide (o.2.length ≤ 100)) && decide (l.length ≤ 40) && decide (sumN l ≤ 200) && decide (s.length ≤ 100)
theorem few2_key {l : List Nm} {s : List Opp} {o : Opp} (ho : o ∈ s) (h : 100 < o.2.length) : few2B l s = false := by
  have h1 : s.all (fun o => decide (o.2.length ≤ 100)) = false := by
    rw [List.all_eq_false]
    exact ⟨o, ho, by simp; omega⟩
  unfold few2B
  rw [h1]
  rfl
theorem few2_all {s : List Opp} (h : ∀ o ∈ s, o.2.length ≤ 100) : s.all (fun o => decide (o.2.length ≤ 100)) = true := by
  rw [List.all_eq_true]
  exact fun o ho => decide_eq_true (h o ho)
set_option maxRecDepth 100000 in
set_option maxHeartbeats 6400000 in
theorem few2_near (w : World) (A : Option Addr) (n c : Nat) (l : List Nm) (h : Nms w (.slice A n c) l) (B : Option Addr) (m d : Nat) (s : List Opp) (hs : Ops w (.slice B m d) s) (hn : n ≤ 40) (hz : sumN l ≤ 4611686018427387904) :
    Calls Try.prog 8 #[.slice A n c, .slice B m d] w (Told w (.bool (few2B l s))) := by
  have HNL : Hid (n = l.length) := Lib.hid h.len
  have HSL : Hid (m = s.length) := Lib.hid hs.len
  have HN := Lib.hid h
  have HS := Lib.hid hs
  have HZ := Lib.hid hz
  have hmc := hs.cap
  clear h hs hz
  go_enter Try.func8, Try.ntmps8
  go_wp2
  go_loopg [5, 12] n (fun gk s i wr => ∃ k : Nat, gk = n - k ∧ k ≤ n ∧ s = .int .i64 ((sumN (l.take k) : Nat) : Int) ∧ i = .int .i64 (k : Int) ∧ Hid (Only (w.heap.size ≤ ·) w wr))
  case atStart => exact ⟨0, rfl, Nat.zero_le _, rfl, rfl, Lib.hid (Only.refl _ _)⟩
  case round =>
    obtain ⟨k, rfl, hk, rfl, rfl, HO⟩ := hrel
    by_cases hlt : k < n
    · obtain ⟨b, off, x, Q, R, s, q, t, u, rfl, hb, hx, q0, q1, q2, q3, hnd⟩ := nms_at (HN.out.later HO.out) hlt
      have hlt' : (k : Int) < (n : Int) := by omega
      have hsz : sumN (l.take (k + 1)) = sumN (l.take k) + (s + t) := by
        rw [sumN_take hx]
        obtain ⟨_, h2, h3⟩ := hnd
        rw [szN, ← h2.len, ← h3.len]
      have hle := sumN_le l (k + 1)
      have HSZ := Lib.hid hsz
      have hb1 : sumN (l.take k) + (s + t) ≤ 4611686018427387904 := by
        have := HZ.out
        omega
      obtain ⟨z, hz⟩ : ∃ z, z = sumN (l.take k) := ⟨_, rfl⟩
      rw [← hz] at hb1 HSZ ⊢
      clear hsz hle hnd hz
      go_wp2
      go_roundg (n - (k + 1))
      case measure => omega
      case rel => exact ⟨k + 1, rfl, by omega, by rw [HSZ.out]; congr 1, by go_num, Lib.hid (HO.out.alloc (fun _ h => h) _)⟩
    · obtain rfl : n = k := by omega
      have hkm : ¬ (n : Int) < (n : Int) := by omega
      have ht : l.take n = l := by rw [HNL.out, List.take_length]
      rw [ht]
      clear ht
      go_wp2
      go_loopg [30] m (fun gk i wr => ∃ k : Nat, gk = m - k ∧ k ≤ m ∧ i = .int .i64 (k : Int) ∧ Hid (∀ o ∈ s.take k, o.2.length ≤ 100) ∧ Hid (Only (w.heap.size ≤ ·) w wr))
      case atStart => exact ⟨0, rfl, Nat.zero_le _, rfl, Lib.hid (fun o ho => by simp at ho), HO⟩
      case round =>
        obtain ⟨k, rfl, hk, rfl, HK, HO2⟩ := hrel
        by_cases hlt : k < m
        · obtain ⟨b, off, x, P, p, rfl, hx, q0, q1, hsr⟩ := op_at (Rw.later HS.out HO2.out) hlt
          have hlt' : (k : Int) < (m : Int) := by omega
          have HX := Lib.hid hx
          obtain ⟨xl, hxl⟩ : ∃ z, z = x.2.length := ⟨_, rfl⟩
          rw [← hxl] at q1
          have HXL := Lib.hid hxl
          obtain ⟨xk, hxk⟩ : ∃ z, z = x.1 := ⟨_, rfl⟩
          rw [← hxk] at q0
          clear hx hsr hxl hxk
          by_cases h100 : (100 : Int) < (xl : Int)
          · have HF : Hid (few2B l s = false) := Lib.hid (few2_key (List.mem_of_getElem? HX.out) (by have h1 := HXL.out; omega))
            go_wp2
            go_ret
            exact ⟨by rw [HF.out]; rfl, HO2.out.alloc (fun _ h => h) _⟩
          · go_wp2
            go_roundg (m - (k + 1))
            case measure => omega
            case rel => exact ⟨k + 1, rfl, by omega, by go_num, Lib.hid (fun o ho => by
              rw [List.take_add_one, HX.out] at ho
              rcases List.mem_append.1 ho with h | h
              · exact HK.out o h
              · simp at h
                subst h
                have h1 := HXL.out
                omega), Lib.hid (HO2.out.alloc (fun _ h => h) _)⟩
        · obtain rfl : k = m := by omega
          have hkm2 : ¬ (k : Int) < (k : Int) := by omega
          have HKA : Hid (∀ o ∈ s, o.2.length ≤ 100) := Lib.hid (fun o ho => HK.out o (by rw [HSL.out, List.take_length]; exact ho))
          have HF : Hid (few2B l s = (decide ((n : Int) ≤ 40) && decide (((sumN l : Nat) : Int) ≤ 200) && decide ((k : Int) ≤ 100))) := Lib.hid (by
            unfold few2B
            rw [few2_all HKA.out, Bool.true_and, ← HNL.out, ← HSL.out]
            congr 1
            · congr 1 <;> exact decide_eq_decide.2 (by omega)
            · exact decide_eq_decide.2 (by omega))
          have hn40 : (n : Int) ≤ 40 := by omega
          by_cases h2 : ((sumN l : Nat) : Int) ≤ 200
          · have HS2 := Lib.hid h2
            by_cases h3 : (k : Int) ≤ 100
            · have HS3 := Lib.hid h3
              go_wp2
              go_ret
              exact ⟨by rw [HF.out, decide_eq_true (p := ((sumN l : Nat) : Int) ≤ 200) (by have h1 := HS2.out; omega), decide_eq_true (p := (k : Int) ≤ 100) (by have h1 := HS3.out; omega), decide_eq_true (p := (n : Int) ≤ 40) (by omega)]; rfl, HO2.out⟩
            · have HS3 := Lib.hid h3
              go_wp2
              go_ret
              exact ⟨by rw [HF.out, decide_eq_false (p := (k : Int) ≤ 100) (by have h1 := HS3.out; omega), Bool.and_false]; rfl, HO2.out⟩
          · have HS2 := Lib.hid h2
            go_wp2
            go_ret
            exact ⟨by rw [HF.out, decide_eq_false (p := ((sumN l : Nat) : Int) ≤ 200) (by have h1 := HS2.out; omega), Bool.and_false, Bool.false_and]; rfl, HO2.out⟩
set_option maxRecDepth 100000 in
set_option maxHeartbeats 6400000 in
theorem few2_far (w : World) (A : Option Addr) (n c : Nat) (l : List Nm) (h : Nms w (.slice A n c) l) (B : Option Addr) (m d : Nat) (s : List Opp) (hs : Ops w (.slice B m d) s) (hn : 40 < n) (hc : n ≤ 9223372036854775807) :
    Calls Try.prog 8 #[.slice A n c, .slice B m d] w (Told w (.bool (few2B l s))) := by
  have HNL : Hid (n = l.length) := Lib.hid h.len
  have HSL : Hid (m = s.length) := Lib.hid hs.len
  have HN := Lib.hid h
  have HS := Lib.hid hs
  have hmc := hs.cap
  clear h hs
  go_enter Try.func8, Try.ntmps8
  go_wp2
  go_loopg [5, 12] n (fun gk s i wr => ∃ (k : Nat) (z : Int), gk = n - k ∧ k ≤ n ∧ s = .int .i64 z ∧ i = .int .i64 (k : Int) ∧ Hid (Only (w.heap.size ≤ ·) w wr))
  case atStart => exact ⟨0, 0, rfl, Nat.zero_le _, rfl, rfl, Lib.hid (Only.refl _ _)⟩
  case round =>
    obtain ⟨k, z, rfl, hk, rfl, rfl, HO⟩ := hrel
    by_cases hlt : k < n
    · obtain ⟨b, off, x, Q, R, s, q, t, u, rfl, hb, hx, q0, q1, q2, q3, hnd⟩ := nms_at (HN.out.later HO.out) hlt
      have hlt' : (k : Int) < (n : Int) := by omega
      clear hnd hx
      go_wp2
      go_roundg (n - (k + 1))
      case measure => omega
      case rel => exact ⟨k + 1, _, rfl, by omega, rfl, by go_num, Lib.hid (HO.out.alloc (fun _ h => h) _)⟩
    · obtain rfl : n = k := by omega
      have hkm : ¬ (n : Int) < (n : Int) := by omega
      go_wp2
      go_loopg [30] m (fun gk i wr => ∃ k : Nat, gk = m - k ∧ k ≤ m ∧ i = .int .i64 (k : Int) ∧ Hid (∀ o ∈ s.take k, o.2.length ≤ 100) ∧ Hid (Only (w.heap.size ≤ ·) w wr))
      case atStart => exact ⟨0, rfl, Nat.zero_le _, rfl, Lib.hid (fun o ho => by simp at ho), HO⟩
      case round =>
        obtain ⟨k, rfl, hk, rfl, HK, HO2⟩ := hrel
        by_cases hlt : k < m
        · obtain ⟨b, off, x, P, p, rfl, hx, q0, q1, hsr⟩ := op_at (Rw.later HS.out HO2.out) hlt
          have hlt' : (k : Int) < (m : Int) := by omega
          have HX := Lib.hid hx
          obtain ⟨xl, hxl⟩ : ∃ z, z = x.2.length := ⟨_, rfl⟩
          rw [← hxl] at q1
          have HXL := Lib.hid hxl
          obtain ⟨xk, hxk⟩ : ∃ z, z = x.1 := ⟨_, rfl⟩
          rw [← hxk] at q0
          clear hx hsr hxl hxk
          by_cases h100 : (100 : Int) < (xl : Int)
          · have HF : Hid (few2B l s = false) := Lib.hid (few2_key (List.mem_of_getElem? HX.out) (by have h1 := HXL.out; omega))
            go_wp2
            go_ret
            exact ⟨by rw [HF.out]; rfl, HO2.out.alloc (fun _ h => h) _⟩
          · go_wp2
            go_roundg (m - (k + 1))
            case measure => omega
            case rel => exact ⟨k + 1, rfl, by omega, by go_num, Lib.hid (fun o ho => by
              rw [List.take_add_one, HX.out] at ho
              rcases List.mem_append.1 ho with h | h
              · exact HK.out o h
              · simp at h
                subst h
                have h1 := HXL.out
                omega), Lib.hid (HO2.out.alloc (fun _ h => h) _)⟩
        · obtain rfl : k = m := by omega
          have hkm2 : ¬ (k : Int) < (k : Int) := by omega
          have HKA : Hid (∀ o ∈ s, o.2.length ≤ 100) := Lib.hid (fun o ho => HK.out o (by rw [HSL.out, List.take_length]; exact ho))
          have HF : Hid (few2B l s = false) := Lib.hid (by
            unfold few2B
            rw [decide_eq_false (p := l.length ≤ 40) (by have h1 := HNL.out; omega), Bool.and_false, Bool.false_and, Bool.false_and])
          have hn40 : ¬ (n : Int) ≤ 40 := by omega
          go_wp2
          go_ret
          exact ⟨by rw [HF.out]; rfl, HO2.out⟩
theorem few2_w (w : World) (A : Option Addr) (n c : Nat) (l : List Nm) (h : Nms w (.slice A n c) l) (B : Option Addr) (m d : Nat) (s : List Opp) (hs : Ops w (.slice B m d) s) (hz : ∀ x ∈ l, x.2.its.length ≤ 70368744177664 ∧ x.2.kds.length ≤ 70368744177664) :
    Calls Try.prog 8 #[.slice A n c, .slice B m d] w (Told w (.bool (few2B l s))) := by
  have hcap := h.cap
  have hl := h.len
  by_cases hn : n ≤ 40
  · refine few2_near w A n c l h B m d s hs hn ?_
    have hs : ∀ m : List Nm, (∀ x ∈ m, x.2.its.length ≤ 70368744177664 ∧ x.2.kds.length ≤ 70368744177664) → sumN m ≤ m.length * 140737488355328 := by
      intro m
      induction m with
      | nil => intro _; exact Nat.zero_le _
      | cons x m ih =>
        intro hm
        have h1 := ih fun y hy => hm y (List.mem_cons_of_mem _ hy)
        have h2 := hm x List.mem_cons_self
        have h3 : sumN (x :: m) = szN x + sumN m := by simp [sumN]
        rw [h3, List.length_cons, Nat.succ_mul]
        unfold szN
        omega
    have h1 := hs l hz
    have h2 : l.length * 140737488355328 ≤ 40 * 140737488355328 := Nat.mul_le_mul_right _ (by omega)
    omega
  · exact few2_far w A n c l h B m d s hs (by omega) (by omega)
end Go.Proofs.Ytnjhpjpeeehagaa

/-
  items: those of a tree that All tells.
-/
set_option linter.unusedVariables false
namespace Go.Proofs.Ytnjhpjpeeehagaa
open Go.RowKit

def ItemsSays (w : World) (seg : List It) (ok : Bool) (e : Ending) (w' : World) : Prop := (∃ R c, e = .returned (.tuple #[.slice R seg.length c, .bool ok]) ∧ Its w' (.slice R seg.length c) seg) ∧ Only (w.heap.size ≤ ·) w w'
theorem its_den {w : World} {A : Option Addr} {n c k : Nat} {l : List It} (h : Its w (.slice A n c) l) (hk : k < n) : ∃ (b off : Nat) (x : It) (P Q : Option Addr) (pc qc : Nat), A = some ⟨b, off, none⟩ ∧ l[k]? = some x ∧ w.cell? ⟨b, off + k * 4, none⟩ = some (.slice P x.1.length pc) ∧ w.cell? ⟨b, off + k * 4 + 1, none⟩ = some (.slice Q x.2.1.length qc) ∧ w.cell? ⟨b, off + k * 4 + 2, none⟩ = some (.int .i64 x.2.2.1) ∧ w.cell? ⟨b, off + k * 4 + 3, none⟩ = some (.int .i64 x.2.2.2) ∧ itE.At w x [.slice P x.1.length pc, .slice Q x.2.1.length qc, .int .i64 x.2.2.1, .int .i64 x.2.2.2] := by
  obtain ⟨b, off, x, P, Q, p, q, e, _, hx, k0, k1, k2, k3, s1, s2⟩ := its_at h hk
  exact ⟨b, off, x, P, Q, p, q, e, hx, k0, k1, k2, k3, P, p, Q, q, rfl, s1, s2⟩
set_option maxRecDepth 100000 in
set_option maxHeartbeats 12800000 in
theorem items_c (HM : MeetC) (w : World) (A : Option Addr) (n c : Nat) (root : Int) (l : List Nm) (h : Nms w (.slice A n c) l) (hf : FewN l) (hr : (Lit.int .i64 root).wf = true) (seg : List It) (hseg : (okS (allP l root)).its = seg) (hsl : seg.length ≤ 1000000) (ok : Bool) (hok : ok = decide ((allP l root).1 = 0)) :
    Calls Try.prog 10 #[.slice A n c, .int .i64 root] w (ItemsSays w seg ok) := by
  obtain ⟨i1, hi0, hz0, hz1, hz2⟩ := info_parts info_RI
  have HI1 := Lib.hid (And.intro hi0 (And.intro hz0 (And.intro hz1 hz2)))
  clear hi0 hz0 hz1 hz2
  have HN := Lib.hid h
  have HF := Lib.hid hf
  have HR := Lib.hid hr
  have HSG := Lib.hid (And.intro hseg hok)
  have HSL := Lib.hid hsl
  clear h hf hr hseg hok hsl
  go_enter Try.func10, Try.ntmps10
  go_upto_region 2 with (first
    | (go_at_call 12; (with_reducible refine (Source_c w A n c).mono ?_); rintro e w1 ⟨⟨bl, rfl, _, hbl⟩, ho⟩; have HBL := Lib.hid hbl; have HO1 := Lib.hid ho; clear hbl ho)
    | (go_at_call 25; (with_reducible refine (All_c HM w1 bl A n c root l HBL.out (Rw.later HN.out HO1.out) HF.out HR.out).mono ?_); rintro e w2 ⟨⟨IA, ni, ic, RA, nr, rc, rfl, hi, hr⟩, ho⟩; have HI := Lib.hid hi; have HO2 := Lib.hid (on_new HO1.out ho); clear hi hr ho))
  obtain ⟨er, her⟩ : ∃ z, z = (allP l root).1 := ⟨_, rfl⟩
  obtain ⟨dz, hdz⟩ : ∃ z : Int, z = ((okS (allP l root)).dep : Int) := ⟨_, rfl⟩
  rw [← her, ← hdz]
  rw [HSG.out.1] at HI
  have HER := Lib.hid her
  have hni : ni = seg.length := HI.out.len
  subst hni
  clear her hdz
  obtain ⟨w3, hw3⟩ : ∃ W, W = w2.alloc (.cells #[.slice IA seg.length ic, .slice RA nr rc, .int .i64 dz] 70) := ⟨_, rfl⟩
  obtain ⟨b3, hb3⟩ : ∃ z, z = w2.heap.size := ⟨_, rfl⟩
  have HO3 : Hid (Only (w2.heap.size ≤ ·) w2 w3) := Lib.hid (by rw [hw3]; exact (Only.refl _ w2).alloc (fun _ h => h) _)
  have HB3 : Hid (Blk w3 b3 70 [.slice IA seg.length ic, .slice RA nr rc, .int .i64 dz]) := Lib.hid (by rw [hw3, hb3]; exact Blk.new w2 _ _)
  rw [← hw3, ← hb3]
  clear hw3 hb3
  have HIA := Lib.hid (Rw.later HI.out HO3.out)
  have HOW := Lib.hid (on_new HO2.out HO3.out)
  have k0 : w3.cell? ⟨b3, 0, none⟩ = some (.slice IA seg.length ic) := HB3.out.cell 0
  clear HI HO3 HBL HO1
  obtain ⟨m, hm⟩ : ∃ z, z = seg.length := ⟨_, rfl⟩
  have HM2 := Lib.hid hm
  rw [← hm] at k0 HIA HSL ⊢
  clear hm
  go_wp2
  clear k0
  go_loopg [8, 21] m (fun gk ov i wr => ∃ (k : Nat) (R : Option Addr) (rc' : Nat) (C : List Value), gk = m - k ∧ k ≤ m ∧ ov = .slice R k rc' ∧ i = .int .i64 (k : Int) ∧ Hid (wr.ownsRow w3.heap.size 44 4 (.slice R k rc') k C) ∧ Hid (Den (itE.At w3) (seg.take k) C) ∧ Hid (Only (w3.heap.size ≤ ·) w3 wr))
  case atStart => exact ⟨0, none, 0, [], rfl, Nat.zero_le _, rfl, rfl, Lib.hid (World.ownsRow_nil _ _ _ _), Lib.hid rfl, Lib.hid (Only.refl _ _)⟩
  case round =>
    obtain ⟨k, R, rc', C, rfl, hk, rfl, rfl, HROW, HDEN, HO⟩ := hrel
    by_cases hlt : k < m
    · obtain ⟨b, off, x, P, Q, pc, qc, rfl, hx, q0, q1, q2, q3, hat⟩ := its_den HIA.out hlt
      have hlt' : (k : Int) < (m : Int) := by omega
      have HX := Lib.hid hx
      have HAT := Lib.hid hat
      obtain ⟨kl, hkl⟩ : ∃ z, z = x.1.length := ⟨_, rfl⟩
      obtain ⟨vl, hvl⟩ : ∃ z, z = x.2.1.length := ⟨_, rfl⟩
      obtain ⟨x2, hx2⟩ : ∃ z, z = x.2.2.1 := ⟨_, rfl⟩
      obtain ⟨x3, hx3⟩ : ∃ z, z = x.2.2.2 := ⟨_, rfl⟩
      rw [← hkl] at q0 HAT
      rw [← hvl] at q1 HAT
      rw [← hx2] at q2 HAT
      rw [← hx3] at q3 HAT
      replace q0 := cu_cell q0 HO.out
      replace q1 := cu_cell q1 HO.out
      replace q2 := cu_cell q2 HO.out
      replace q3 := cu_cell q3 HO.out
      clear hx hat hkl hvl hx2 hx3
      obtain ⟨w5, hw5⟩ : ∃ W, W = wr.alloc (.cells #[.slice P kl pc, .slice Q vl qc, .int .i64 x2, .int .i64 x3] 39) := ⟨_, rfl⟩
      obtain ⟨b5, hb5⟩ : ∃ z, z = wr.heap.size := ⟨_, rfl⟩
      have HO5 : Hid (Only (wr.heap.size ≤ ·) wr w5) := Lib.hid (by rw [hw5]; exact (Only.refl _ wr).alloc (fun _ h => h) _)
      have HB5 : Hid (Blk w5 b5 39 [.slice P kl pc, .slice Q vl qc, .int .i64 x2, .int .i64 x3]) := Lib.hid (by rw [hw5, hb5]; exact Blk.new wr _ _)
      have HE5 := Lib.hid (And.intro hw5 hb5)
      clear hw5 hb5
      go_upto_region 6 with (fail)
      rw [← HE5.out.1, ← HE5.out.2]
      clear HE5 q0 q1 q2 q3
      obtain ⟨r0, r1, r2, r3⟩ := HB5.out.four
      have HRW5 := Lib.hid (own_later HROW.out HO5.out)
      have HBL4 : Hid (Blk (w5.alloc (.cells #[.slice P kl pc, .slice Q vl qc, .int .i64 x2, .int .i64 x3] 44)) w5.heap.size 44 [.slice P kl pc, .slice Q vl qc, .int .i64 x2, .int .i64 x3]) := Lib.hid (Blk.new w5 _ _)
      have HSZ : Hid (w3.heap.size ≤ w5.heap.size) := Lib.hid (Nat.le_trans HO.out.size HO5.out.size)
      have HLS := Lib.hid (And.intro hlt (HSL.out : m ≤ 1000000))
      go_wp2_with (at_builtin; (refine wpList_append_at rfl (.tmp 25) (.tmp 27) 26 rfl w3.heap.size 44 i1 zI 4 64 Try.underlying26 HI1.out.1 HI1.out.2.1 HI1.out.2.2.1 HI1.out.2.2.2 (by rfl) (by omega) (.slice R k rc') k C rfl (World.ownsRow.alloc HRW5.out _) ⟨w5.heap.size, 0, none⟩ 1 1 [.slice P kl pc, .slice Q vl qc, .int .i64 x2, .int .i64 x3] rfl rfl (fun j u hu => by rw [Addr.add_lit, HBL4.out.cell, Nat.zero_add]; exact hu) (by simp [Value.oneCell']) (by have h1 := HLS.out; simp only [maxLen]; omega) (by have h1 := HLS.out; omega) (by have := HSZ.out; simp; omega) ?_; intro v' w' ho' hg' hat'; (obtain ⟨R2, t2, rfl, _⟩ := raw_of_own ho'); have HROW2 := Lib.hid ho'; have HOF : Hid (Only (w3.heap.size ≤ ·) w3 w') := Lib.hid (((on_new HO.out HO5.out).alloc (fun _ h => h) _).grown hg' (fun _ h => h) (fun g e => (World.ownsRow.lt HRW5.out g e).1)); clear ho' hg' hat'))
      go_roundg (m - (k + 1))
      case measure => omega
      case rel =>
        refine ⟨k + 1, R2, t2, _, rfl, by omega, rfl, by go_num, HROW2, Lib.hid ?_, HOF⟩
        rw [List.take_add_one, HX.out]
        exact Den.append HDEN.out (Den.single HAT.out)
    · obtain rfl : m = k := by omega
      have hkm : ¬ (m : Int) < (m : Int) := by omega
      have he0 : (er == 0) = ok := by
        rw [HSG.out.2, ← HER.out]
        by_cases h0 : er = 0
        · simp [h0]
        · simp [h0]
      have HOF := Lib.hid (on_new HOW.out HO.out)
      have HFI : Hid (Its wr (.slice R m rc') seg) := Lib.hid (rw_of_own (E := itE) HROW.out HM2.out ((by have h1 := HDEN.out; rw [HM2.out, List.take_length] at h1; exact h1 : Den (itE.At w3) seg C).mono fun y ds hy => itE.later hy HO.out))
      go_wp2
      go_ret2
      have hmm := HM2.out
      subst hmm
      exact ⟨⟨R, rc', rfl, HFI.out⟩, HOF.out⟩
end Go.Proofs.Ytnjhpjpeeehagaa

/-
  A tree that All tells has no more items than its nodes: plain data.
-/
set_option linter.unusedVariables false
namespace Go.Proofs.Ytnjhpjpeeehagaa

def cntI (l : List Nm) (r : Int) : Nat := ((nodeP l r).map (fun x => x.its.length)).getD 0
def SzI (l : List Nm) (S : Sv) : Prop := S.refs.Nodup ∧ S.its.length = (S.refs.map (cntI l)).sum
theorem kids_sz {l : List Nm} {g : Int → Sn → Sv → Int × Sv} (ih : ∀ ref sp S S', g ref sp S = (0, S') → SzI l S → SzI l S') (ks : List Kd) (sp : Sn) : ∀ (m k : Nat) (S S' : Sv), kidsP g ks sp k m S = (0, S') → SzI l S → SzI l S'
  | 0, k, S, S', h, hs => by
    rw [kidsP] at h
    cases h
    exact hs
  | m + 1, k, S, S', h, hs => by
    rw [kidsP] at h
    by_cases c : (g (ks.getD k ([], 0)).2 (underP sp ks k) S).1 = 0
    · rw [if_pos c] at h
      exact kids_sz ih ks sp m (k + 1) _ S' h (ih _ _ S _ (Prod.ext c rfl) hs)
    · rw [if_neg c] at h
      rw [h] at c
      exact absurd rfl c
theorem visit_sz {l : List Nm} : ∀ (f : Nat) (ref : Int) (sp : Sn) (S S' : Sv), visitP l f ref sp S = (0, S') → SzI l S → SzI l S'
  | 0, ref, sp, S, S', h, _ => by
    rw [visitP] at h
    cases h
  | f + 1, ref, sp, S, S', h, hs => by
    rw [visitP] at h
    cases hm : (meetP l (12 - f) ref sp S).2 with
    | none =>
      rw [hm] at h
      simp only at h
      have := (meet_err (l := l) (dp := 12 - f) (ref := ref) (sp := sp) (S := S)).1 hm
      exact absurd (congrArg Prod.fst h) this
    | some q =>
      rw [hm] at h
      simp only at h
      obtain ⟨x, S1⟩ := q
      obtain ⟨h1, _, _, h4, h5, _⟩ := meet_form hm
      simp only at h
      refine kids_sz (fun ref sp S S' hv => visit_sz f ref sp S S' hv) _ _ _ _ _ _ h ?_
      rw [h5]
      refine ⟨?_, ?_⟩
      · rw [List.nodup_append]
        refine ⟨hs.1, by simp, fun a ha b hb e => ?_⟩
        simp at hb
        subst hb
        exact h4 (by rw [← e]; exact ha)
      · simp only [List.length_append, List.map_append, List.map_cons, List.map_nil, List.sum_append, List.sum_cons, List.sum_nil, hs.2]
        unfold cntI
        rw [h1]
        simp
theorem sum_zero : ∀ {L : List Nat}, (∀ x ∈ L, x = 0) → L.sum = 0
  | [], _ => rfl
  | x :: L, h => by
    rw [List.sum_cons, h x List.mem_cons_self, sum_zero fun y hy => h y (List.mem_cons_of_mem _ hy)]
theorem one_ref {a : Int} {n : Nat} : ∀ {refs : List Int}, refs.Nodup → (refs.map fun r => if a = r then n else 0).sum ≤ n
  | [], _ => Nat.zero_le _
  | r :: refs, h => by
    rw [List.nodup_cons] at h
    rw [List.map_cons, List.sum_cons]
    by_cases e : a = r
    · have h0 : (refs.map fun r => if a = r then n else 0).sum = 0 := by
        refine sum_zero fun x hx => ?_
        obtain ⟨y, hy, rfl⟩ := List.mem_map.1 hx
        exact if_neg (fun e2 => h.1 (by rw [← e, e2]; exact hy))
      rw [h0, if_pos e]
      omega
    · rw [if_neg e, Nat.zero_add]
      exact one_ref h.2
theorem sum_cnt {refs : List Int} (h : refs.Nodup) : ∀ l : List Nm, (refs.map (cntI l)).sum ≤ sumN l
  | [] => by
    have h0 : (refs.map (cntI [])).sum = 0 := by
      refine sum_zero fun x hx => ?_
      obtain ⟨y, _, rfl⟩ := List.mem_map.1 hx
      rfl
    rw [h0]
    exact Nat.zero_le _
  | p :: l => by
    have h1 := sum_cnt h l
    have h2 := one_ref (a := p.1) (n := p.2.its.length) h
    have h3 : ∀ rs : List Int, (rs.map (cntI (p :: l))).sum ≤ (rs.map fun r => if p.1 = r then p.2.its.length else 0).sum + (rs.map (cntI l)).sum := by
      intro rs
      induction rs with
      | nil => exact Nat.zero_le _
      | cons r rs ih =>
        simp only [List.map_cons, List.sum_cons]
        have h5 : cntI (p :: l) r ≤ (if p.1 = r then p.2.its.length else 0) + cntI l r := by
          unfold cntI
          rw [nodeP]
          by_cases e : p.1 = r
          · rw [if_pos e, if_pos e]
            simp
          · rw [if_neg e, if_neg e]
            simp
        omega
    have h4 : sumN (p :: l) = szN p + sumN l := by simp [sumN]
    have h6 := h3 refs
    rw [h4]
    unfold szN
    omega
theorem all_sz {l : List Nm} {root : Int} {S : Sv} (h : allP l root = (0, S)) : S.its.length ≤ sumN l := by
  obtain ⟨h1, h2⟩ := visit_sz 12 root ([], none) ⟨[], [], 0⟩ S h ⟨List.nodup_nil, rfl⟩
  rw [h2]
  exact sum_cnt h1 l
theorem okS_sz {l : List Nm} {root : Int} : (okS (allP l root)).its.length ≤ sumN l := by
  unfold okS
  by_cases h : (allP l root).1 = 0
  · rw [if_pos h]
    exact all_sz (Prod.ext h rfl)
  · rw [if_neg h]
    exact Nat.zero_le _
theorem few2_few {l : List Nm} {s : List Opp} (h : few2B l s = true) : fewB l = true ∧ sumN l ≤ 200 ∧ s.length ≤ 100 ∧ ∀ o ∈ s, o.2.length ≤ 100 := by
  unfold few2B at h
  simp only [Bool.and_eq_true, decide_eq_true_eq, List.all_eq_true] at h
  unfold fewB
  rw [Bool.and_eq_true, decide_eq_true_eq, decide_eq_true_eq]
  exact ⟨⟨h.1.1.2, h.1.2⟩, h.1.2, h.2, h.1.1.1⟩
end Go.Proofs.Ytnjhpjpeeehagaa

/-
  What a law's loop says of the cursor, and of the last answer, which lies in a box.
-/
set_option linter.unusedVariables false
namespace Go.Proofs.Ytnjhpjpeeehagaa
open Go.RowKit

/-- The last call has led to the place n; its answer lies in the box bx; the world is one behind w0. -/
def WRel (H : Prop) (l : List Nm) (root : Int) (h : Nat) (seg : List It) (S : Value) (w0 : World) (cb bx : Nat) (n : Int) (hv : Value) (wr : World) : Prop :=
  ∃ (P : Option Addr) (pn pc : Nat) (U : Option Addr) (un uc : Nat) (i2 i3 : Int) (t : Bool) (er : Int), hv = .bool t ∧ Blk wr bx 39 [.slice P pn pc, .slice U un uc, .int .i64 i2, .int .i64 i3] ∧ Got H l root h seg S (fun j => j = cb ∨ j = bx) w0.heap.size cb 0 wr n P pn pc U un uc i2 i3 t er ∧ Only (w0.heap.size ≤ ·) w0 wr ∧ w0.heap.size ≤ cb ∧ cb < bx
theorem got_news {H : Prop} {l : List Nm} {root : Int} {h : Nat} {seg : List It} {S : Value} {D D' : Nat → Prop} {B cb b : Nat} {w w' : World} {n : Int} {P U : Option Addr} {pn pc un uc : Nat} {i2 i3 er : Int} {t : Bool}
    (hg : Got H l root h seg S D B cb b w n P pn pc U un uc i2 i3 t er) (ho : Only (fun k => (D k ∧ k ≠ cb) ∨ w.heap.size ≤ k) w w') (hD : ∀ j, D' j → D j ∨ w.heap.size ≤ j) (hb : ∀ j, D j → j < b) : Got H l root h seg S D' B cb 0 w' n P pn pc U un uc i2 i3 t er := hg.step ho hD hb (Nat.zero_le _)
section
variable {H : Prop} {l : List Nm} {root : Int} {h : Nat} {seg : List It} {S : Value} {w0 : World} {cb bx : Nat} {n : Int}
/-- The first answer, in a box of its own. -/
theorem wrel_first {w w3 w4 : World} {P U : Option Addr} {pn pc un uc : Nat} {i2 i3 er : Int} {t : Bool} (hx : Only (w0.heap.size ≤ ·) w0 w) (hcw : w0.heap.size ≤ cb) (hcl : cb < w.heap.size) (ho : Only (fun j => j = cb ∨ (w0.heap.size ≤ j ∧ ¬ (j = cb))) w w3)
    (hg : Got H l root h seg S (fun j => j = cb) w0.heap.size cb w.heap.size w3 n P pn pc U un uc i2 i3 t er) (hw4 : w4 = w3.alloc (.cells #[.slice P pn pc, .slice U un uc, .int .i64 i2, .int .i64 i3] 39)) (hbx : bx = w3.heap.size) : WRel H l root h seg S w0 cb bx n (.bool t) w4 := by
  have ho4 : Only (w3.heap.size ≤ ·) w3 w4 := by rw [hw4]; exact (Only.refl _ w3).alloc (fun _ h => h) _
  have hs := ho.size
  refine ⟨P, pn, pc, U, un, uc, i2, i3, t, er, rfl, by rw [hw4, hbx]; exact Blk.new w3 _ _, hg.step (ho4.mono fun j hj => .inr hj) (fun j hj => ?_) (fun j hj => by have h2 : j = cb := hj; omega) (Nat.zero_le _), (hx.trans (ho.mono fun j hj => ?_)).trans (ho4.mono fun j hj => ?_), hcw, by omega⟩
  · rcases hj with hj | hj
    · exact .inl hj
    · exact .inr (by omega)
  · rcases hj with hj | hj
    · omega
    · exact hj.1
  · have := hx.size
    omega
/-- The next answer, laid in the same box. -/
theorem wrel_next {w w3 w4 : World} {P U : Option Addr} {pn pc un uc : Nat} {i2 i3 er : Int} {t : Bool} (hx : Only (w0.heap.size ≤ ·) w0 w) (hcw : w0.heap.size ≤ cb) (hcb : cb < bx) (hbx : bx < w.heap.size) (ho : Only (fun j => j = cb ∨ (w0.heap.size ≤ j ∧ ¬ (j = cb ∨ j = bx))) w w3)
    (hg : Got H l root h seg S (fun j => j = cb ∨ j = bx) w0.heap.size cb w.heap.size w3 n P pn pc U un uc i2 i3 t er) (hb4 : Blk w4 bx 39 [.slice P pn pc, .slice U un uc, .int .i64 i2, .int .i64 i3]) (ho4 : Only (fun j => j = bx) w3 w4) : WRel H l root h seg S w0 cb bx n (.bool t) w4 := by
  refine ⟨P, pn, pc, U, un, uc, i2, i3, t, er, rfl, hb4, hg.step (ho4.mono fun j hj => .inl ⟨.inr hj, fun e => by have h2 : j = bx := hj; omega⟩) (fun j hj => .inl hj) (fun j hj => by omega) (Nat.zero_le _), (hx.trans (ho.mono fun j hj => ?_)).trans (ho4.mono fun j hj => ?_), hcw, hcb⟩
  · rcases hj with hj | hj
    · omega
    · exact hj.1
  · have h2 : j = bx := hj
    omega
/-- An answer, beside the item of a row. -/
theorem box_pair {w : World} {IA : Option Addr} {ic m k : Nat} {y : It} {P U : Option Addr} {pn pc un uc : Nat} {i2 i3 : Int} (hb : Blk w bx 39 [.slice P pn pc, .slice U un uc, .int .i64 i2, .int .i64 i3]) (hi : Its w (.slice IA m ic) seg) (hk : k < m) (hy : seg[k]? = some y) (hp : Src w (.slice P pn pc) y.1) (hu : Src w (.slice U un uc) y.2.1) (h2 : i2 = y.2.2.1) (h3 : i3 = y.2.2.2) :
    ∃ (b off : Nat) (P2 : Option Addr) (t2 p2 : Nat) (Q2 : Option Addr) (e2 q2 : Nat) (x2 x3 : Int), IA = some ⟨b, off, none⟩ ∧ (∀ W, Only (w.heap.size ≤ ·) w W → (W.cell? ⟨bx, 0, none⟩ = some (.slice P pn pc) ∧ W.cell? ⟨bx, 1, none⟩ = some (.slice U un uc) ∧ W.cell? ⟨bx, 2, none⟩ = some (.int .i64 i2) ∧ W.cell? ⟨bx, 3, none⟩ = some (.int .i64 i3) ∧ W.cell? ⟨b, off + k * 4, none⟩ = some (.slice P2 t2 p2) ∧ W.cell? ⟨b, off + k * 4 + 1, none⟩ = some (.slice Q2 e2 q2) ∧ W.cell? ⟨b, off + k * 4 + 2, none⟩ = some (.int .i64 x2) ∧ W.cell? ⟨b, off + k * 4 + 3, none⟩ = some (.int .i64 x3))) ∧
      (∀ W, Only (w.heap.size ≤ ·) w W → Calls Try.prog 15 #[.agg #[.slice P pn pc, .slice U un uc, .int .i64 i2, .int .i64 i3], .agg #[.slice P2 t2 p2, .slice Q2 e2 q2, .int .i64 x2, .int .i64 x3]] W (Told W (.bool true))) := by
  obtain ⟨b, off, x, P2, Q2, p2, q2, e1, _, hx, q0, q1, q2', q3, s1, s2⟩ := its_at hi hk
  have hxy : x = y := (Option.some.inj (hy.symm.trans hx)).symm
  subst hxy
  refine ⟨b, off, P2, x.1.length, p2, Q2, x.2.1.length, q2, x.2.2.1, x.2.2.2, e1, fun W hW => ?_, fun W hW => ?_⟩
  · have hb' := (hb.later hW).four
    exact ⟨hb'.1, hb'.2.1, hb'.2.2.1, hb'.2.2.2, cu_cell q0 hW, cu_cell q1 hW, cu_cell q2' hW, cu_cell q3 hW⟩
  · have e2 := src_n hp
    have e3 := src_n hu
    subst e2 e3
    exact rSame_c W P U P2 Q2 _ pc _ uc _ p2 _ q2 i2 i3 _ _ x.1 x.2.1 x.1 x.2.1 true (hp.later hW) (hu.later hW) (s1.later hW) (s2.later hW) (decide_eq_true ⟨rfl, rfl, h2, h3⟩)
end
/-- Of rising items just those ahead of a key's place are below it. -/
theorem srt_find {key : Bytes} : ∀ {l : List It}, Srt l → ∀ {i : Nat} {y : It}, l[i]? = some y → (cmp y.1 key < 0 ↔ i < findP l key)
  | [], _, i, y, h => by simp at h
  | x :: l, hs, i, y, h => by
    have hs' := List.pairwise_cons.1 hs
    have e : findP (x :: l) key = findP l key + if cmp x.1 key < 0 then 1 else 0 := by
      unfold findP
      rw [List.countP_cons]
      simp only [decide_eq_true_eq]
    by_cases c : cmp x.1 key < 0
    · rw [e, if_pos c]
      cases i with
      | zero =>
        simp at h
        subst h
        exact ⟨fun _ => by omega, fun _ => c⟩
      | succ i =>
        have h1 := srt_find (key := key) hs'.2 (i := i) (y := y) (by simpa using h)
        rw [h1]
        omega
    · rw [e, if_neg c]
      have h0 : findP l key = 0 := by
        unfold findP
        rw [List.countP_eq_zero]
        intro z hz
        rw [decide_eq_true_eq]
        intro hz2
        exact c (cmp_lt (hs'.1 z hz) hz2)
      rw [h0]
      refine ⟨fun h9 => ?_, fun h9 => by omega⟩
      exfalso
      cases i with
      | zero =>
        simp at h
        subst h
        exact c h9
      | succ i =>
        have h1 : y ∈ l := List.mem_of_getElem? (by simpa using h)
        exact c (cmp_lt (hs'.1 y h1) h9)
/-- A place as a number: -1, if there is none. -/
def placeI : Option Nat → Int
  | none => -1
  | some n => (n : Int)
def normP (seg : List It) (n : Int) : Option Nat := if 0 ≤ n ∧ n < seg.length then some n.toNat else none
theorem norm_in {seg : List It} {n : Int} (h0 : 0 ≤ n) (h1 : n < seg.length) : placeI (normP seg n) = n := by
  unfold normP
  rw [if_pos ⟨h0, h1⟩]
  show ((n.toNat : Nat) : Int) = n
  omega
theorem norm_out {seg : List It} {n : Int} (h : n < 0 ∨ (seg.length : Int) ≤ n) : placeI (normP seg n) = -1 := by
  unfold normP
  rw [if_neg (by omega)]
  rfl
/-- The document's place behind a call. -/
theorem do_any (w : World) (A : Option Addr) (n c : Nat) (seg : List It) (h : Its w (.slice A n c) seg) (hn : n ≤ 1000) (hs : Srt seg) (o : Option Nat) (ho : ∀ k, o = some k → k < seg.length) (k : Int) (hk0 : 0 ≤ k) (hk4 : k ≤ 4) (K : Option Addr) (kn kc : Nat) (key : Bytes) (hkey : Src w (.slice K kn kc) key) :
    Calls Try.prog 13 #[.slice A n c, .int .i64 (placeI o), .agg #[.int .i64 k, .slice K kn kc]] w (Told w (.int .i64 (placeI (normP seg (goTo seg o k key))))) := by
  have hl := h.len
  have e0 : (if n = 0 then (-1 : Int) else 0) = placeI (normP seg 0) := by
    by_cases h0 : n = 0
    · rw [if_pos h0, norm_out (by omega)]
    · rw [if_neg h0, norm_in (by omega) (by omega)]
  have el : (n : Int) - 1 = placeI (normP seg ((seg.length - 1 : Nat) : Int)) := by
    by_cases h0 : n = 0
    · rw [norm_out (by omega)]
      omega
    · rw [norm_in (by omega) (by omega)]
      omega
  rcases (show k = 0 ∨ k = 1 ∨ k = 2 ∨ k = 3 ∨ k = 4 by omega) with rfl | rfl | rfl | rfl | rfl
  · refine (CrDo_seek w A n c seg h (placeI o) K kn kc key hkey hn).mono ?_
    rintro e w' ⟨hw, ⟨rfl, h1⟩ | ⟨j, y, rfl, h1, h2, h3⟩⟩
    · refine ⟨?_, hw⟩
      have h4 : seg.length ≤ findP seg key := Nat.le_of_not_lt fun h5 => by
        obtain ⟨y, hy⟩ : ∃ y, seg[findP seg key]? = some y := ⟨_, List.getElem?_eq_getElem h5⟩
        exact Nat.lt_irrefl _ ((srt_find hs hy).1 (h1 _ y hy))
      show Ending.returned (.int .i64 (-1)) = .returned (.int .i64 (placeI (normP seg (findP seg key : Nat))))
      rw [norm_out (by omega)]
    · refine ⟨?_, hw⟩
      have h4 : j = findP seg key := by
        rcases Nat.lt_trichotomy j (findP seg key) with h5 | h5 | h5
        · exact absurd ((srt_find hs h1).2 h5) h2
        · exact h5
        · have h6 := (List.getElem?_eq_some_iff.1 h1).1
          obtain ⟨z, hz⟩ : ∃ z, seg[findP seg key]? = some z := ⟨_, List.getElem?_eq_getElem (by omega)⟩
          exact absurd ((srt_find hs hz).1 (h3 _ z h5 hz)) (Nat.lt_irrefl _)
      have h6 := (List.getElem?_eq_some_iff.1 h1).1
      show Ending.returned (.int .i64 (j : Nat)) = .returned (.int .i64 (placeI (normP seg (findP seg key : Nat))))
      rw [← h4, norm_in (by omega) (by omega)]
  · exact CrDo_first w A n c (placeI o) K kn kc hn _ e0.symm
  · have h1 := CrDo_last w A n c (placeI o) K kn kc hn
    rw [el] at h1
    exact h1
  · cases o with
    | none => exact CrDo_on w A n c (-1) K kn kc hn (by decide) _ e0.symm
    | some q =>
      have hq := ho q rfl
      show Calls Try.prog 13 #[.slice A n c, .int .i64 (q : Nat), .agg #[.int .i64 3, .slice K kn kc]] w (Told w (.int .i64 (placeI (normP seg ((q : Int) + 1)))))
      by_cases h1 : q + 1 < n
      · rw [norm_in (by omega) (by omega)]
        exact CrDo_next w A n c (q : Nat) K kn kc hn (by omega) (by omega)
      · rw [norm_out (by omega)]
        exact CrDo_end w A n c (q : Nat) K kn kc hn (by omega) (by omega)
  · cases o with
    | none =>
      have h1 := CrDo_back w A n c (-1) K kn kc hn (by decide)
      rw [el] at h1
      exact h1
    | some q =>
      have hq := ho q rfl
      show Calls Try.prog 13 #[.slice A n c, .int .i64 (q : Nat), .agg #[.int .i64 4, .slice K kn kc]] w (Told w (.int .i64 (placeI (normP seg ((q : Int) + (-1))))))
      have h1 := CrDo_prev w A n c (q : Nat) K kn kc hn (by omega) (by omega)
      have e : placeI (normP seg ((q : Int) + (-1))) = (q : Int) - 1 := by
        by_cases h2 : q = 0
        · rw [norm_out (by omega)]
          omega
        · rw [norm_in (by omega) (by omega)]
          omega
      rw [e]
      exact h1
end Go.Proofs.Ytnjhpjpeeehagaa

/-
  Arguments opened: a row of calls; two numbers.
-/
set_option linter.unusedVariables false
namespace Go.Proofs.Ytnjhpjpeeehagaa
open Go.ChangeShapes Go.WideShapes Go.ChangeAt Go.RowKit Go.Deep

section
variable {H : Type} {enc : TypeId × Value → H} {w : World}
theorem op_open {fuel : Nat} {cs : List Value} {x : DataW H × List MemPlace} (hcl : cs.length = 2) (h : DataW.trod enc Try.prog w 0 (fun _ => true) true fuel 36 cs = some x) : ∃ y, opE.At w y cs ∧ ((∀ q ∈ x.1.weights Try.prog 36, q ≤ reachBytes) → True) := by
  obtain ⟨v0, v1, rfl⟩ : ∃ v0 v1, cs = [v0, v1] := by
    match cs, hcl with
    | [v0, v1], _ => exact ⟨v0, v1, rfl⟩
  obtain ⟨ys, n', _, hy, _, hyl, hf⟩ := DataW.trod_struct Try.underlying36 h
  have c3 : Try.prog.cellsOf 3 = 1 := by kernel_rfl
  have c25 : Try.prog.cellsOf 34 = 1 := by kernel_rfl
  have hyl' : ys.length = 2 := hyl
  obtain ⟨y0, y1, rfl⟩ : ∃ y0 y1, ys = [y0, y1] := by
    match ys, hyl' with
    | [y0, y1], _ => exact ⟨y0, y1, rfl⟩
  have t0 : DataW.trod enc Try.prog w 0 (fun _ => true) true n' 3 (([v0, v1].drop 0).take (Try.prog.cellsOf 3)) = some y0 := hf 0 _ rfl
  have t1 : DataW.trod enc Try.prog w 0 (fun _ => true) true n' 34 (([v0, v1].drop 1).take (Try.prog.cellsOf 34)) = some y1 := hf 1 _ rfl
  rw [c3] at t0
  rw [c25] at t1
  obtain ⟨s, e0, hs⟩ := int_open t0
  obtain ⟨A, n, c, xs, e1, hx, sx, wx⟩ := bytes_open t1
  simp only [List.drop_zero, List.drop_succ_cons, List.take_succ_cons, List.take_zero, List.cons.injEq, and_true] at e0 e1
  subst e0 e1 hx
  exact ⟨(s, xs), ⟨A, c, rfl, sx⟩, fun _ => trivial⟩
set_option maxRecDepth 100000 in
theorem ops_arg {base : Nat} {v : Value} {d : DataW H} {p : List MemPlace} (hv : Value.okWide Try.prog w .any base 23 v) (h : DataW.Trod enc Try.prog w 0 (fun _ => true) true 23 v d p) :
    ∃ (A : Option Addr) (n c : Nat) (l : List Opp), v = .slice A n c ∧ Ops w (.slice A n c) l := by
  obtain ⟨fuel, hf⟩ := h
  obtain ⟨A, n, c, l, e, hl, _, _⟩ := rw_open opE (fun _ => True) Try.underlying23 (by kernel_rfl) (by decide) (fun hc hh => op_open hc hh) hf
  obtain ⟨a', l', c', rfl⟩ := okWide_slice Try.underlying23 hv
  have e2 : Value.slice a' l' c' = .slice A n c := by simpa [Value.cells] using e
  exact ⟨A, n, c, l, e2, hl⟩
end
end Go.Proofs.Ytnjhpjpeeehagaa
