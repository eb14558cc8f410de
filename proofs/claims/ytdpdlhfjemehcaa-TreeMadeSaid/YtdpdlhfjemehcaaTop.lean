/-
  The arguments read: named nodes, items, bytes, a number; how great they can be; the rows' last step.
-/
import Derived.Test.YtdpdlhfjemehcaaTnm
import Derived.OpenShut
import Derived.SizedLaws
import Derived.ProofKit
import Derived.Deep.Slices
import Derived.Deep.Fields
import Derived.ChangeSame
set_option linter.unusedVariables false
namespace Go.Proofs.Ytdpdlhfjemehcaa
open Go.ChangeShapes Go.WideShapes Go.ChangeAt Go.RowKit Go.Deep

theorem Try.own : ownKnob Try.prog.godebug = none := by kernel_rfl
theorem Try.laidOut : laidOutB Try.prog = true := by kernel_rfl
theorem weightsAll_mem {H : Type} {P : Program} {e : TypeId} : ∀ {ds : List (DataW H)} {d : DataW H}, d ∈ ds → ∀ n ∈ d.weights P e, n ∈ DataW.weightsAll P e ds
  | x :: r, d, h, n, hn => by
    simp only [DataW.weightsAll, List.mem_append]
    rcases List.mem_cons.1 h with rfl | h
    · exact .inl hn
    · exact .inr (weightsAll_mem h n hn)
def OkB (xs : Bytes) : Prop := xs.length ≤ 140737488355328
def OkI (y : It) : Prop := OkB y.1 ∧ OkB y.2.1 ∧ (-9223372036854775808 ≤ y.2.2.1 ∧ y.2.2.1 ≤ 9223372036854775807) ∧ (-9223372036854775808 ≤ y.2.2.2 ∧ y.2.2.2 ≤ 9223372036854775807)
def OkK (y : Kd) : Prop := OkB y.1 ∧ -9223372036854775808 ≤ y.2 ∧ y.2 ≤ 9223372036854775807
def OkN (x : Nm) : Prop := (x.2.its.length ≤ 70368744177664 ∧ x.2.kds.length ≤ 70368744177664) ∧ (∀ y ∈ x.2.its, OkI y) ∧ ∀ y ∈ x.2.kds, OkK y
section
variable {H : Type} {enc : TypeId × Value → H} {w : World}
theorem int_open {fuel : Nat} {cs : List Value} {x : DataW H × List MemPlace} (h : DataW.trod enc Try.prog w 0 (fun _ => true) true fuel 3 cs = some x) :
    ∃ n : Int, cs = [.int .i64 n] ∧ -9223372036854775808 ≤ n ∧ n ≤ 9223372036854775807 := by
  obtain ⟨n, hcs, _, hw⟩ := DataW.trod_int Try.underlying3 h
  have hr : -9223372036854775808 ≤ n ∧ n ≤ 9223372036854775807 := by simpa [Lit.wf, IntKind.min, IntKind.max, IntKind.signed, IntKind.bits] using hw
  exact ⟨n, hcs, hr⟩
theorem bytes_open {fuel : Nat} {cs : List Value} {x : DataW H × List MemPlace} (h : DataW.trod enc Try.prog w 0 (fun _ => true) true fuel 23 cs = some x) :
    ∃ (A : Option Addr) (n c : Nat) (xs : Bytes), cs = [.slice A n c] ∧ xs.length = n ∧ Src w (.slice A n c) xs ∧ ((∀ q ∈ x.1.weights Try.prog 23, q ≤ reachBytes) → OkB xs) := by
  rcases open_ints Try.underlying23 Try.underlying5 (by kernel_rfl) h with ⟨hcs, _⟩ | ⟨a, len, cap, zs, hcs, _, hl, hm, hz, hx, hc, hw⟩
  · exact ⟨none, 0, 0, [], hcs, rfl, Src.nil_ w, fun _ => Nat.zero_le _⟩
  · have hz' : zs.length = cap := by simpa using hz
    have hxl : ((zs.take len).map (fun n => UInt8.ofNat n.toNat)).length = len := by simp; omega
    refine ⟨some a, len, cap, (zs.take len).map (fun n => UInt8.ofNat n.toNat), hcs, hxl, ⟨some a, cap, by rw [hxl], ⟨rfl, fun h0 => ⟨a, rfl, ?_⟩⟩, (fun e => by cases e), by rw [hxl]; exact hl, by simp only [maxLen] at hm; omega⟩, fun hq => ?_⟩
    case refine_2 =>
      have h1 := hq (((lits IntKind.u8 (zs.take len)).length + (lits IntKind.u8 (zs.drop len)).length) * Try.prog.bytesOf 5) (by rw [hx]; simp only [DataW.weights, Try.underlying23]; exact List.mem_cons_self)
      rw [show Try.prog.bytesOf 5 = 1 by kernel_rfl, Nat.mul_one] at h1
      have h2 := reachBytes_lt
      have h3 : (lits (H := H) IntKind.u8 (zs.take len)).length = len := by simp [lits]; omega
      unfold OkB
      rw [hxl]
      omega
    intro j u hu
    simp only [cb, List.getElem?_map, List.map_map] at hu
    have hj : j < len := by
      rcases Nat.lt_or_ge j len with h | h
      · exact h
      · rw [List.getElem?_eq_none (by simp; omega)] at hu; cases hu
    rw [List.getElem?_take, if_pos hj, List.getElem?_eq_getElem (by omega)] at hu
    simp only [Option.map_some, Option.some.injEq, Function.comp] at hu
    rw [hc j (by omega), ← hu]
    have hwf := hw zs[j] (List.getElem_mem (by omega))
    have hr : 0 ≤ zs[j] ∧ zs[j] ≤ 255 := by simpa [Lit.wf, IntKind.min, IntKind.max, IntKind.signed, IntKind.bits] using hwf
    rw [List.getD_eq_getElem?_getD, List.getElem?_eq_getElem (by omega)]
    simp
    omega
theorem item_open {fuel : Nat} {cs : List Value} {x : DataW H × List MemPlace} (hcl : cs.length = 4) (h : DataW.trod enc Try.prog w 0 (fun _ => true) true fuel 59 cs = some x) :
    ∃ y, itE.At w y cs ∧ ((∀ q ∈ x.1.weights Try.prog 59, q ≤ reachBytes) → OkI y) := by
  obtain ⟨v0, v1, v2, v3, rfl⟩ : ∃ v0 v1 v2 v3, cs = [v0, v1, v2, v3] := by
    match cs, hcl with
    | [v0, v1, v2, v3], _ => exact ⟨v0, v1, v2, v3, rfl⟩
  obtain ⟨ys, n', _, hy, _, hyl, hf⟩ := DataW.trod_struct Try.underlying59 h
  have c3 : Try.prog.cellsOf 3 = 1 := by kernel_rfl
  have c25 : Try.prog.cellsOf 23 = 1 := by kernel_rfl
  have hyl' : ys.length = 4 := hyl
  obtain ⟨y0, y1, y2, y3, rfl⟩ : ∃ y0 y1 y2 y3, ys = [y0, y1, y2, y3] := by
    match ys, hyl' with
    | [y0, y1, y2, y3], _ => exact ⟨y0, y1, y2, y3, rfl⟩
  have t0 : DataW.trod enc Try.prog w 0 (fun _ => true) true n' 23 (([v0, v1, v2, v3].drop 0).take (Try.prog.cellsOf 23)) = some y0 := hf 0 _ rfl
  have t1 : DataW.trod enc Try.prog w 0 (fun _ => true) true n' 23 (([v0, v1, v2, v3].drop 1).take (Try.prog.cellsOf 23)) = some y1 := hf 1 _ rfl
  have t2 : DataW.trod enc Try.prog w 0 (fun _ => true) true n' 3 (([v0, v1, v2, v3].drop 2).take (Try.prog.cellsOf 3)) = some y2 := hf 2 _ rfl
  have t3 : DataW.trod enc Try.prog w 0 (fun _ => true) true n' 3 (([v0, v1, v2, v3].drop 3).take (Try.prog.cellsOf 3)) = some y3 := hf 3 _ rfl
  rw [c25] at t0 t1
  rw [c3] at t2 t3
  obtain ⟨A, n, c, xs, e0, hx, sx, wx⟩ := bytes_open t0
  obtain ⟨B, m, d, zs, e1, hz, sz, wz⟩ := bytes_open t1
  obtain ⟨s, e2, hs⟩ := int_open t2
  obtain ⟨r, e3, hr⟩ := int_open t3
  simp only [List.drop_zero, List.drop_succ_cons, List.take_succ_cons, List.take_zero, List.cons.injEq, and_true] at e0 e1 e2 e3
  subst e0 e1 e2 e3
  subst hx hz
  refine ⟨(xs, zs, s, r), ⟨A, c, B, d, rfl, sx, sz⟩, fun hq => ⟨wx fun q h => hq q ?_, wz fun q h => hq q ?_, hs, hr⟩⟩
  · rw [hy]
    simp only [DataW.weights, Try.underlying59]
    exact DataW.weights_mem_each (j := 0) (t := 23) (d := y0.1) rfl rfl q h
  · rw [hy]
    simp only [DataW.weights, Try.underlying59]
    exact DataW.weights_mem_each (j := 1) (t := 23) (d := y1.1) rfl rfl q h

theorem list_of {α : Type} (P : Nat → α → Prop) : ∀ n : Nat, (∀ i, i < n → ∃ o, P i o) → ∃ l : List α, l.length = n ∧ ∀ i o, l[i]? = some o → P i o
  | 0, _ => ⟨[], rfl, fun i o h => by simp at h⟩
  | n + 1, h => by
    obtain ⟨l, hl, hp⟩ := list_of P n (fun i hi => h i (by omega))
    obtain ⟨o, ho⟩ := h n (by omega)
    refine ⟨l ++ [o], by simp [hl], fun i o' hi => ?_⟩
    rw [List.getElem?_append] at hi
    split at hi
    · exact hp i o' hi
    · rename_i hlt
      have : i - l.length = 0 := by
        rcases Nat.eq_zero_or_pos (i - l.length) with h | h
        · exact h
        · rw [List.getElem?_eq_none (by simp; omega)] at hi; cases hi
      have hin : i = n := by omega
      rw [this] at hi
      simp at hi
      subst hi hin
      exact ho
theorem spot_of {w : World} {a : Addr} {v : Value} (h : w.cell? (a.add 0) = some v) : a = ⟨a.block, a.off, none⟩ := by
  have e : a.add 0 = a := by cases a; simp [Addr.add]
  rw [e] at h
  unfold World.cell? at h
  split at h
  · split at h
    · cases h
    · rename_i hs
      cases a
      simp at hs ⊢
      exact hs
  · cases h
theorem flat_at {z : Nat} : ∀ {L : List (List Value)}, (∀ c ∈ L, c.length = z) → ∀ {j : Nat} {u : Value}, L.flatten[j]? = some u → ∃ (i r : Nat) (c : List Value), L[i]? = some c ∧ c[r]? = some u ∧ j = i * z + r
  | [], _, j, u, h => by simp at h
  | c :: L, hl, j, u, h => by
    have hc : c.length = z := hl c (by simp)
    rw [List.flatten_cons, List.getElem?_append] at h
    split at h
    · exact ⟨0, j, c, rfl, h, by simp⟩
    · obtain ⟨i, r, d, h1, h2, h3⟩ := flat_at (fun d hd => hl d (List.mem_cons_of_mem _ hd)) h
      refine ⟨i + 1, r, d, by simpa using h1, h2, ?_⟩
      rw [Nat.succ_mul]
      omega
theorem flat_len {z : Nat} : ∀ {L : List (List Value)}, (∀ c ∈ L, c.length = z) → L.flatten.length = L.length * z
  | [], _ => by simp
  | c :: L, hl => by
    have hc : c.length = z := hl c (by simp)
    have := flat_len (L := L) fun d hd => hl d (List.mem_cons_of_mem _ hd)
    rw [List.flatten_cons, List.length_append, List.length_cons, Nat.succ_mul]
    omega
theorem den_flat {α : Type} {At : α → List Value → Prop} : ∀ {L : List (α × List Value)}, (∀ p ∈ L, At p.1 p.2) → Den At (L.map (·.1)) ((L.map (·.2)).flatten)
  | [], _ => rfl
  | p :: L, h => ⟨p.2, _, by simp, h p (by simp), den_flat fun q hq => h q (List.mem_cons_of_mem _ hq)⟩
theorem rw_open {α : Type} (E : El α) (Q : α → Prop) {t e : TypeId} (ht : Try.prog.underlying t = some (.slice e)) (hz : Try.prog.cellsOf e = E.z) (hz0 : 0 < E.z)
    (open1 : ∀ {fuel : Nat} {cs : List Value} {x : DataW H × List MemPlace}, cs.length = E.z → DataW.trod enc Try.prog w 0 (fun _ => true) true fuel e cs = some x → ∃ y, E.At w y cs ∧ ((∀ q ∈ x.1.weights Try.prog e, q ≤ reachBytes) → Q y))
    {fuel : Nat} {cs : List Value} {x : DataW H × List MemPlace} (h : DataW.trod enc Try.prog w 0 (fun _ => true) true fuel t cs = some x) :
    ∃ (A : Option Addr) (n c : Nat) (l : List α), cs = [.slice A n c] ∧ Rw E w (.slice A n c) l ∧ n = l.length ∧ ((∀ q ∈ x.1.weights Try.prog t, q ≤ reachBytes) → n * Try.prog.bytesOf e ≤ reachBytes ∧ ∀ y ∈ l, Q y) := by
  rcases open_slice ht h with ⟨hcs, _⟩ | ⟨a, len, cap, m, n, D, Pl, hcs, _, hl, hm, hmm, hx, hi⟩
  · exact ⟨none, 0, 0, [], hcs, Rw.nil_ w, rfl, fun _ => ⟨by rw [Nat.zero_mul]; exact Nat.zero_le _, fun y hy => nomatch hy⟩⟩
  · have hm' : m = cap := by simpa using hmm
    rw [hz] at hi
    have hspot : 0 < len → a = ⟨a.block, a.off, none⟩ := by
      intro h0
      obtain ⟨cs', hc, _⟩ := hi 0 (by omega)
      obtain ⟨_, hcl, hat⟩ := World.cells?_some hc
      have e : a.add (0 * E.z) = a := by cases a; simp [Addr.add]
      rw [e] at hat
      have h1 := hat 0 (by omega)
      rw [List.getElem?_eq_getElem (by omega)] at h1
      exact spot_of h1
    have each : ∀ i, i < len → ∃ o : α × List Value, (E.At w o.1 o.2 ∧ ((∀ q ∈ (D i).weights Try.prog e, q ≤ reachBytes) → Q o.1)) ∧ a = ⟨a.block, a.off, none⟩ ∧ a.block < w.heap.size ∧ ∀ r u, o.2[r]? = some u → w.cell? ⟨a.block, a.off + i * E.z + r, none⟩ = some u := by
      intro i hil
      obtain ⟨cs', hc, ht'⟩ := hi i (by omega)
      obtain ⟨_, hcl, hat⟩ := World.cells?_some hc
      obtain ⟨y, hy, hqy⟩ := open1 hcl ht'
      have hasp := hspot (by omega)
      have h0 := hat 0 (by omega)
      rw [List.getElem?_eq_getElem (by omega)] at h0
      have hblt := World.block_lt_of_cell? w _ h0
      rw [hasp, Addr.add_lit, Addr.add_lit] at hblt
      refine ⟨(y, cs'), ⟨hy, hqy⟩, hasp, hblt, fun r u hr => ?_⟩
      have hrz : r < E.z := by have := (List.getElem?_eq_some_iff.1 hr).1; simp only at this; omega
      have h1 := hat r hrz
      rw [hasp, Addr.add_lit, Addr.add_lit] at h1
      rw [h1]
      exact hr
    obtain ⟨l, hll, hlp⟩ := list_of _ len each
    have hmem : ∀ p ∈ l, E.At w p.1 p.2 := fun p hp => by
      obtain ⟨i, hi'⟩ := List.getElem?_of_mem hp
      exact (hlp i p hi').1.1
    have hlen : ∀ c ∈ l.map (·.2), c.length = E.z := fun c hc => by
      obtain ⟨p, hp, rfl⟩ := List.mem_map.1 hc
      exact E.len (hmem p hp)
    refine ⟨some a, len, cap, l.map (·.1), hcs, ⟨some a, cap, (l.map (·.2)).flatten, by rw [List.length_map, hll], den_flat hmem, fun h0 => ?_, (fun e => by cases e), by rw [List.length_map]; omega, by simp only [maxLen] at hm; omega⟩, by rw [List.length_map, hll], fun hq => ⟨?_, fun y hy => ?_⟩⟩
    case refine_3 =>
      obtain ⟨p, hp, rfl⟩ := List.mem_map.1 hy
      obtain ⟨i, hi'⟩ := List.getElem?_of_mem hp
      have hil : i < len := by rw [← hll]; exact (List.getElem?_eq_some_iff.1 hi').1
      refine (hlp i p hi').1.2 fun q h => hq q ?_
      rw [hx]
      simp only [DataW.weights, ht]
      exact List.mem_cons_of_mem _ (List.mem_append_left _ (weightsAll_mem (d := D i) (List.mem_map_of_mem (List.mem_range.2 hil)) q h))
    case refine_2 =>
      have h1 : (((List.range len).map D).length + ((List.range (m - len)).map fun j => D (len + j)).length) * Try.prog.bytesOf e ∈ x.1.weights Try.prog t := by
        rw [hx]
        simp only [DataW.weights, ht]
        exact List.mem_cons_self
      have h2 := hq _ h1
      simp only [List.length_map, List.length_range] at h2
      exact Nat.le_trans (Nat.mul_le_mul_right _ (by omega)) h2
    have hl0 : 0 < l.length := by
      rw [flat_len hlen, List.length_map] at h0
      exact Nat.pos_of_mul_pos_right h0
    obtain ⟨o, ho⟩ : ∃ o, l[0]? = some o := ⟨_, List.getElem?_eq_getElem hl0⟩
    obtain ⟨_, e1, e2, _⟩ := hlp 0 o ho
    refine ⟨a.block, a.off, by rw [← e1], e2, fun j u hu => ?_⟩
    obtain ⟨i, r, c, h1, h2, rfl⟩ := flat_at hlen hu
    rw [List.getElem?_map, Option.map_eq_some_iff] at h1
    obtain ⟨p, hp, rfl⟩ := h1
    have := (hlp i p hp).2.2.2 r u h2
    rwa [Nat.add_assoc] at this
theorem kid_open {fuel : Nat} {cs : List Value} {x : DataW H × List MemPlace} (hcl : cs.length = 2) (h : DataW.trod enc Try.prog w 0 (fun _ => true) true fuel 74 cs = some x) : ∃ y, kdE.At w y cs ∧ ((∀ q ∈ x.1.weights Try.prog 74, q ≤ reachBytes) → OkK y) := by
  obtain ⟨v0, v1, rfl⟩ : ∃ v0 v1, cs = [v0, v1] := by
    match cs, hcl with
    | [v0, v1], _ => exact ⟨v0, v1, rfl⟩
  obtain ⟨ys, n', _, hy, _, hyl, hf⟩ := DataW.trod_struct Try.underlying74 h
  have c3 : Try.prog.cellsOf 3 = 1 := by kernel_rfl
  have c25 : Try.prog.cellsOf 23 = 1 := by kernel_rfl
  have hyl' : ys.length = 2 := hyl
  obtain ⟨y0, y1, rfl⟩ : ∃ y0 y1, ys = [y0, y1] := by
    match ys, hyl' with
    | [y0, y1], _ => exact ⟨y0, y1, rfl⟩
  have t0 : DataW.trod enc Try.prog w 0 (fun _ => true) true n' 23 (([v0, v1].drop 0).take (Try.prog.cellsOf 23)) = some y0 := hf 0 _ rfl
  have t1 : DataW.trod enc Try.prog w 0 (fun _ => true) true n' 3 (([v0, v1].drop 1).take (Try.prog.cellsOf 3)) = some y1 := hf 1 _ rfl
  rw [c25] at t0
  rw [c3] at t1
  obtain ⟨A, n, c, xs, e0, hx, sx, wx⟩ := bytes_open t0
  obtain ⟨s, e1, hs⟩ := int_open t1
  simp only [List.drop_zero, List.drop_succ_cons, List.take_succ_cons, List.take_zero, List.cons.injEq, and_true] at e0 e1
  subst e0 e1 hx
  refine ⟨(xs, s), ⟨A, c, rfl, sx⟩, fun hq => ⟨wx fun q h => hq q ?_, hs⟩⟩
  rw [hy]
  simp only [DataW.weights, Try.underlying74]
  exact DataW.weights_mem_each (j := 0) (t := 23) (d := y0.1) rfl rfl q h
theorem node_open {fuel : Nat} {cs : List Value} {x : DataW H × List MemPlace} (hcl : cs.length = 3) (h : DataW.trod enc Try.prog w 0 (fun _ => true) true fuel 29 cs = some x) :
    ∃ (f : Bool) (A B : Option Addr) (n c m d : Nat) (y : Nd), cs = [.bool f, .slice A n c, .slice B m d] ∧ Nod w y f (.slice A n c) (.slice B m d) ∧ ((∀ q ∈ x.1.weights Try.prog 29, q ≤ reachBytes) → (n ≤ 70368744177664 ∧ m ≤ 70368744177664) ∧ (∀ z ∈ y.its, OkI z) ∧ ∀ z ∈ y.kds, OkK z) := by
  obtain ⟨v0, v1, v2, rfl⟩ : ∃ v0 v1 v2, cs = [v0, v1, v2] := by
    match cs, hcl with
    | [v0, v1, v2], _ => exact ⟨v0, v1, v2, rfl⟩
  obtain ⟨ys, n', _, hy, _, hyl, hf⟩ := DataW.trod_struct Try.underlying29 h
  have c0 : Try.prog.cellsOf 4 = 1 := by kernel_rfl
  have c1 : Try.prog.cellsOf 26 = 1 := by kernel_rfl
  have c2 : Try.prog.cellsOf 27 = 1 := by kernel_rfl
  have hyl' : ys.length = 3 := hyl
  obtain ⟨y0, y1, y2, rfl⟩ : ∃ y0 y1 y2, ys = [y0, y1, y2] := by
    match ys, hyl' with
    | [y0, y1, y2], _ => exact ⟨y0, y1, y2, rfl⟩
  have t0 : DataW.trod enc Try.prog w 0 (fun _ => true) true n' 4 (([v0, v1, v2].drop 0).take (Try.prog.cellsOf 4)) = some y0 := hf 0 _ rfl
  have t1 : DataW.trod enc Try.prog w 0 (fun _ => true) true n' 26 (([v0, v1, v2].drop 1).take (Try.prog.cellsOf 26)) = some y1 := hf 1 _ rfl
  have t2 : DataW.trod enc Try.prog w 0 (fun _ => true) true n' 27 (([v0, v1, v2].drop 2).take (Try.prog.cellsOf 27)) = some y2 := hf 2 _ rfl
  rw [c0] at t0
  rw [c1] at t1
  rw [c2] at t2
  obtain ⟨f, e0, _⟩ := DataW.trod_bool Try.underlying4 t0
  obtain ⟨A, n, c, l, e1, hl, _, hz1⟩ := rw_open itE OkI Try.underlying26 (by kernel_rfl) (by decide) (fun hc hh => item_open hc hh) t1
  obtain ⟨B, m, d, k, e2, hk, _, hz2⟩ := rw_open kdE OkK Try.underlying27 (by kernel_rfl) (by decide) (fun hc hh => kid_open hc hh) t2
  simp only [List.drop_zero, List.drop_succ_cons, List.take_succ_cons, List.take_zero, List.cons.injEq, and_true] at e0 e1 e2
  subst e0 e1 e2
  refine ⟨f, A, B, n, c, m, d, ⟨f, l, k⟩, rfl, ⟨rfl, hl, hk⟩, fun hq => ?_⟩
  obtain ⟨g1, o1⟩ := hz1 fun q h => hq q (by
    rw [hy]
    simp only [DataW.weights, Try.underlying29]
    exact DataW.weights_mem_each (j := 1) (t := 26) (d := y1.1) rfl rfl q h)
  obtain ⟨g2, o2⟩ := hz2 fun q h => hq q (by
    rw [hy]
    simp only [DataW.weights, Try.underlying29]
    exact DataW.weights_mem_each (j := 2) (t := 27) (d := y2.1) rfl rfl q h)
  rw [show Try.prog.bytesOf 59 = 64 by kernel_rfl] at g1
  rw [show Try.prog.bytesOf 74 = 32 by kernel_rfl] at g2
  have hb := reachBytes_lt
  exact ⟨by omega, o1, o2⟩

theorem named_open {fuel : Nat} {cs : List Value} {x : DataW H × List MemPlace} (hcl : cs.length = 4) (h : DataW.trod enc Try.prog w 0 (fun _ => true) true fuel 31 cs = some x) :
    ∃ y, nmE.At w y cs ∧ ((∀ q ∈ x.1.weights Try.prog 31, q ≤ reachBytes) → OkN y) := by
  obtain ⟨v0, v1, v2, v3, rfl⟩ : ∃ v0 v1 v2 v3, cs = [v0, v1, v2, v3] := by
    match cs, hcl with
    | [v0, v1, v2, v3], _ => exact ⟨v0, v1, v2, v3, rfl⟩
  obtain ⟨ys, n', _, hy, _, hyl, hf⟩ := DataW.trod_struct Try.underlying31 h
  have c0 : Try.prog.cellsOf 3 = 1 := by kernel_rfl
  have c1 : Try.prog.cellsOf 29 = 3 := by kernel_rfl
  have hyl' : ys.length = 2 := hyl
  obtain ⟨y0, y1, rfl⟩ : ∃ y0 y1, ys = [y0, y1] := by
    match ys, hyl' with
    | [y0, y1], _ => exact ⟨y0, y1, rfl⟩
  have t0 : DataW.trod enc Try.prog w 0 (fun _ => true) true n' 3 (([v0, v1, v2, v3].drop 0).take (Try.prog.cellsOf 3)) = some y0 := hf 0 _ rfl
  have t1 : DataW.trod enc Try.prog w 0 (fun _ => true) true n' 29 (([v0, v1, v2, v3].drop 1).take (Try.prog.cellsOf 29)) = some y1 := hf 1 _ rfl
  rw [c0] at t0
  rw [c1] at t1
  obtain ⟨r, e0, _⟩ := int_open t0
  obtain ⟨f, A, B, n, c, m, d, y, e1, hN, hs⟩ := node_open (by simp) t1
  simp only [List.drop_zero, List.drop_succ_cons, List.take_succ_cons, List.take_zero, List.cons.injEq, and_true] at e0 e1
  obtain ⟨rfl, rfl, rfl⟩ := e1
  subst e0
  refine ⟨(r, y), ⟨f, _, _, rfl, hN⟩, fun hq => ?_⟩
  obtain ⟨⟨g1, g2⟩, g3⟩ := hs fun q h => hq q (by
    rw [hy]
    simp only [DataW.weights, Try.underlying31]
    exact DataW.weights_mem_each (j := 1) (t := 29) (d := y1.1) rfl rfl q h)
  exact ⟨⟨by have := hN.2.1.len; simp only; omega, by have := hN.2.2.len; simp only; omega⟩, g3⟩
set_option maxRecDepth 100000 in
theorem nms_arg {base : Nat} {v : Value} {d : DataW H} {p : List MemPlace} (hv : Value.okWide Try.prog w .any base 22 v) (h : DataW.Trod enc Try.prog w 0 (fun _ => true) true 22 v d p) (hq : ∀ q ∈ d.weights Try.prog 22, q ≤ reachBytes) :
    ∃ (A : Option Addr) (n c : Nat) (l : List Nm), v = .slice A n c ∧ Nms w (.slice A n c) l ∧ ∀ x ∈ l, OkN x := by
  obtain ⟨fuel, hf⟩ := h
  obtain ⟨A, n, c, l, e, hl, _, hz⟩ := rw_open nmE OkN Try.underlying22 (by kernel_rfl) (by decide) (fun hc hh => named_open hc hh) hf
  obtain ⟨a', l', c', rfl⟩ := okWide_slice Try.underlying22 hv
  have e2 : Value.slice a' l' c' = .slice A n c := by simpa [Value.cells] using e
  exact ⟨A, n, c, l, e2, hl, (hz hq).2⟩
set_option maxRecDepth 100000 in
theorem its_arg {base : Nat} {v : Value} {d : DataW H} {p : List MemPlace} (hv : Value.okWide Try.prog w .any base 26 v) (h : DataW.Trod enc Try.prog w 0 (fun _ => true) true 26 v d p) (hq : ∀ q ∈ d.weights Try.prog 26, q ≤ reachBytes) :
    ∃ (A : Option Addr) (n c : Nat) (l : List It), v = .slice A n c ∧ Its w (.slice A n c) l ∧ ∀ x ∈ l, OkI x := by
  obtain ⟨fuel, hf⟩ := h
  obtain ⟨A, n, c, l, e, hl, _, hz⟩ := rw_open itE OkI Try.underlying26 (by kernel_rfl) (by decide) (fun hc hh => item_open hc hh) hf
  obtain ⟨a', l', c', rfl⟩ := okWide_slice Try.underlying26 hv
  have e2 : Value.slice a' l' c' = .slice A n c := by simpa [Value.cells] using e
  exact ⟨A, n, c, l, e2, hl, (hz hq).2⟩
set_option maxRecDepth 100000 in
theorem bytes_arg {base : Nat} {v : Value} {d : DataW H} {p : List MemPlace} (hv : Value.okWide Try.prog w .any base 23 v) (h : DataW.Trod enc Try.prog w 0 (fun _ => true) true 23 v d p) :
    ∃ (A : Option Addr) (n c : Nat) (xs : Bytes), v = .slice A n c ∧ Src w (.slice A n c) xs ∧ xs.length = n := by
  obtain ⟨fuel, hf⟩ := h
  obtain ⟨A, n, c, xs, e, hx, hs, _⟩ := bytes_open hf
  obtain ⟨a', l', c', rfl⟩ := okWide_slice Try.underlying23 hv
  have e2 : Value.slice a' l' c' = .slice A n c := by simpa [Value.cells] using e
  exact ⟨A, n, c, xs, e2, hs, hx⟩
set_option maxRecDepth 100000 in
theorem int_arg {base : Nat} {v : Value} {d : DataW H} {p : List MemPlace} (hv : Value.okWide Try.prog w .any base 3 v) (h : DataW.Trod enc Try.prog w 0 (fun _ => true) true 3 v d p) : ∃ k : Int, v = .int .i64 k ∧ -9223372036854775808 ≤ k ∧ k ≤ 9223372036854775807 := by
  obtain ⟨a0, rfl, _, _, w0⟩ := open_int Try.underlying3 hv h
  have hr : -9223372036854775808 ≤ a0 ∧ a0 ≤ 9223372036854775807 := by simpa [Lit.wf, IntKind.min, IntKind.max, IntKind.signed, IntKind.bits] using w0
  exact ⟨a0, rfl, hr⟩

/-- An argument reads behind the call as it read before. -/
theorem later {t : TypeId} (hr : Try.prog.readableRec t = true) (hrow : t < Try.prog.types.size) {W W' : World} {v : Value} {d : DataW H} {ps : List MemPlace} {sp : Nat → Bool}
    (h : DataW.Trod enc Try.prog W 0 (fun _ => true) true t v d ps) (hb : Below W.heap.size W W') (hlt : ∀ x ∈ ps, x.block < W.heap.size) (hs : ∀ x ∈ ps, sp x.block = true) : DataW.Trod enc Try.prog W' 0 sp true t v d ps :=
  WideElems.Trod_stays Try.laidOut hr hrow h (fun x hx => hb.same (hlt x hx)) hs

/-- The row's last step, where of what is new only its being new is known. -/
theorem post_new {f : Func} {s : ChangeSpec} {W W' : World} {args : Array Value} {v : Value} {ds gs : List (DataW H)} {before pa pv : List MemPlace}
    (hW : DataW.Whole enc Try.prog f.params.toList s.vars false W args.toList ds gs before)
    (hres : ∀ (b : Nat) (sp : Nat → Bool) (hd : Bool), DataW.TrodAll enc Try.prog W' b sp hd f.resultTypes.toList (v.resultList f.resultTypes.size) (s.fn H (ds ++ gs)).results [])
    (hargs : ∀ sp : Nat → Bool, (∀ p ∈ before, sp p.block = true) → DataW.TrodAll enc Try.prog W' 0 sp true f.params.toList args.toList (s.fn H (ds ++ gs)).args pa)
    (hvars : ∀ sp : Nat → Bool, (∀ p ∈ before, sp p.block = true) → DataW.TrodVars enc Try.prog W' sp s.vars (s.fn H (ds ++ gs)).vars pv)
    (hps : before = pa ++ pv) (hb : Below W.heap.size W W') :
    s.post enc Try.prog f false true false false W args v W' := by
  have hlt : ∀ p ∈ before, p.block < W.heap.size := fun p hp => hW.lt p hp
  have hold : ∀ p ∈ before, (fun b => decide (b < W.heap.size)) p.block = true := fun p hp => by simpa using hlt p hp
  refine ⟨ds, gs, before, [], pa, pv, hW, hres _ _ _, hargs _ hold, hvars _ hold, World.keptBut_mono (fun p hp => ⟨hp, ?_⟩) (hb.frame (· ∈ before)), fun h => (nomatch h)⟩
  rw [hps, List.mem_append] at hp
  exact Or.inr hp
end
end Go.Proofs.Ytdpdlhfjemehcaa
