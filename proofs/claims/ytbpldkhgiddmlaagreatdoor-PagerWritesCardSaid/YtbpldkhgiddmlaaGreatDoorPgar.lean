/-
  The arguments read: writes, metas, bytes, numbers; how great they can be; the rows' last step.
-/
import Derived.Test.YtbpldkhgiddmlaaGreatDoorPgr
import Derived.Test.YtbpldkhgiddmlaaGreatDoorPgw
import Derived.Test.YtbpldkhgiddmlaaGreatDoorGv
import Derived.OpenShut
import Derived.LaidOnce
import Derived.SizedLaws
import Derived.ProofKit
import Derived.Deep.Slices
import Derived.Deep.Fields
import Derived.ChangeSame
set_option linter.unusedVariables false
namespace Go.Proofs.YtbpldkhgiddmlaaGreatDoor
open Go.ChangeShapes Go.WideShapes Go.ChangeAt Go.RowKit Go.Deep

theorem Tryz.own : ownKnob Tryz.prog.godebug = none := by kernel_rfl
theorem Tryz.laidOut : laidOutB Tryz.prog = true := by kernel_rfl

section
variable {H : Type} {enc : TypeId × Value → H} {w : World} {sp : Nat → Bool} {held : Bool}
theorem i64_cell {fuel : Nat} {cs : List Value} {x : DataW H × List MemPlace} {a : Int} (h : DataW.trod enc Tryz.prog w 0 sp held fuel 3 cs = some x) (hx : x.1 = .lit (.int .i64 a)) : cs = [.int .i64 a] := by
  obtain ⟨n, rfl, rfl, _⟩ := DataW.trod_int Tryz.underlying3 h
  simp only [DataW.lit.injEq, Lit.int.injEq, true_and] at hx
  rw [hx]
theorem gen_open {fuel : Nat} {cs : List Value} {x : DataW H × List MemPlace} {a b c d : Int} (hcl : cs.length = 4) (h : DataW.trod enc Tryz.prog w 0 sp held fuel 161 cs = some x)
    (hx : x.1 = .agg [.lit (.int .i64 a), .lit (.int .i64 b), .lit (.int .i64 c), .lit (.int .i64 d)]) : cs = [.int .i64 a, .int .i64 b, .int .i64 c, .int .i64 d] := by
  obtain ⟨v0, v1, v2, v3, rfl⟩ : ∃ v0 v1 v2 v3, cs = [v0, v1, v2, v3] := by
    match cs, hcl with
    | [v0, v1, v2, v3], _ => exact ⟨v0, v1, v2, v3, rfl⟩
  obtain ⟨ys, n', _, rfl, _, hyl, hf⟩ := DataW.trod_struct Tryz.underlying161 h
  have c3 : Tryz.prog.cellsOf 3 = 1 := by kernel_rfl
  have hyl' : ys.length = 4 := hyl
  obtain ⟨y0, y1, y2, y3, rfl⟩ : ∃ y0 y1 y2 y3, ys = [y0, y1, y2, y3] := by
    match ys, hyl' with
    | [y0, y1, y2, y3], _ => exact ⟨y0, y1, y2, y3, rfl⟩
  simp only [List.map_cons, List.map_nil, DataW.agg.injEq, List.cons.injEq, and_true] at hx
  obtain ⟨x0, x1, x2, x3⟩ := hx
  have t0 : DataW.trod enc Tryz.prog w 0 sp held n' 3 (([v0, v1, v2, v3].drop 0).take (Tryz.prog.cellsOf 3)) = some y0 := hf 0 _ rfl
  have t1 : DataW.trod enc Tryz.prog w 0 sp held n' 3 (([v0, v1, v2, v3].drop 1).take (Tryz.prog.cellsOf 3)) = some y1 := hf 1 _ rfl
  have t2 : DataW.trod enc Tryz.prog w 0 sp held n' 3 (([v0, v1, v2, v3].drop 2).take (Tryz.prog.cellsOf 3)) = some y2 := hf 2 _ rfl
  have t3 : DataW.trod enc Tryz.prog w 0 sp held n' 3 (([v0, v1, v2, v3].drop 3).take (Tryz.prog.cellsOf 3)) = some y3 := hf 3 _ rfl
  rw [c3] at t0 t1 t2 t3
  have e0 := i64_cell t0 x0
  have e1 := i64_cell t1 x1
  have e2 := i64_cell t2 x2
  have e3 := i64_cell t3 x3
  simp only [List.drop_zero, List.drop_succ_cons, List.take_succ_cons, List.take_zero, List.cons.injEq, and_true] at e0 e1 e2 e3
  rw [e0, e1, e2, e3]
theorem gens_open {fuel : Nat} {cs : List Value} {x : DataW H × List MemPlace} (h : DataW.trod enc Tryz.prog w 0 sp held fuel 169 cs = some x) (hx : x.1 = Rows.laid_regauge_item_gens) : cs = gcells := by
  obtain ⟨ys, n', _, rfl, hcl, hyl, hf⟩ := DataW.trod_array Tryz.underlying169 h
  have c0 : Tryz.prog.cellsOf 169 = 16 := by kernel_rfl
  have c1 : Tryz.prog.cellsOf 161 = 4 := by kernel_rfl
  rw [c0] at hcl
  rw [c1] at hf
  obtain ⟨y0, y1, y2, y3, rfl⟩ : ∃ y0 y1 y2 y3, ys = [y0, y1, y2, y3] := by
    match ys, hyl with
    | [y0, y1, y2, y3], _ => exact ⟨y0, y1, y2, y3, rfl⟩
  unfold Rows.laid_regauge_item_gens at hx
  simp only [List.map_cons, List.map_nil, DataW.agg.injEq, List.cons.injEq, and_true] at hx
  obtain ⟨x0, x1, x2, x3⟩ := hx
  have e0 := gen_open (by simp; omega) (hf 0 (by decide)) x0
  have e1 := gen_open (by simp; omega) (hf 1 (by decide)) x1
  have e2 := gen_open (by simp; omega) (hf 2 (by decide)) x2
  have e3 := gen_open (by simp; omega) (hf 3 (by decide)) x3
  have s : cs = (cs.drop (0 * 4)).take 4 ++ ((cs.drop (1 * 4)).take 4 ++ ((cs.drop (2 * 4)).take 4 ++ (cs.drop (3 * 4)).take 4)) := by
    match cs, hcl with
    | [_, _, _, _, _, _, _, _, _, _, _, _, _, _, _, _], _ => rfl
  rw [s, e0, e1, e2, e3]
  rfl
end
theorem gens_of_laid {W : World} (h : laidMetH Tryz.prog [("regauge/item.gens", Rows.laid_regauge_item_gens)] W) : Gens W := by
  rw [MakeChecks.laidMetH_plain _ _ _ (by kernel_rfl)] at h
  obtain ⟨ps, ⟨g', t', cs, fuel, p, q, hg', ht', hvar, hd, _, _⟩, _⟩ := h
  have hg : Tryz.prog.globalNamed "regauge/item.gens" = some 1 := by kernel_rfl
  have hty : (Tryz.prog.globals[1]?).map (·.type) = some 169 := by kernel_rfl
  obtain rfl := Option.some.inj (hg.symm.trans hg')
  obtain rfl := Option.some.inj (hty.symm.trans ht')
  have e := gens_open hd rfl
  have hc : ∀ (i : Nat) v, gcells[i]? = some v → W.cell? ⟨1, i, none⟩ = some v := fun i v hv => by
    rw [World.var?_cell hg' hvar i, ← Array.getElem?_toList, e]
    exact hv
  exact ⟨World.block_lt_of_cell? W _ (hc 0 _ rfl), hc⟩

section
variable {H : Type} {enc : TypeId × Value → H} {w : World}
theorem weightsAll_mem {H : Type} {P : Program} {e : TypeId} : ∀ {ds : List (DataW H)} {d : DataW H}, d ∈ ds → ∀ n ∈ d.weights P e, n ∈ DataW.weightsAll P e ds
  | x :: r, d, h, n, hn => by
    simp only [DataW.weightsAll, List.mem_append]
    rcases List.mem_cons.1 h with rfl | h
    · exact .inl hn
    · exact .inr (weightsAll_mem h n hn)
def OkB (xs : Bytes) : Prop := xs.length ≤ 140737488355328
def OkY (y : Wt) : Prop := I64v y.1 ∧ OkB y.2
theorem int_open {fuel : Nat} {cs : List Value} {x : DataW H × List MemPlace} (h : DataW.trod enc Tryz.prog w 0 (fun _ => true) true fuel 3 cs = some x) :
    ∃ n : Int, cs = [.int .i64 n] ∧ -9223372036854775808 ≤ n ∧ n ≤ 9223372036854775807 := by
  obtain ⟨n, hcs, _, hw⟩ := DataW.trod_int Tryz.underlying3 h
  have hr : -9223372036854775808 ≤ n ∧ n ≤ 9223372036854775807 := by simpa [Lit.wf, IntKind.min, IntKind.max, IntKind.signed, IntKind.bits] using hw
  exact ⟨n, hcs, hr⟩
theorem bytes_open {fuel : Nat} {cs : List Value} {x : DataW H × List MemPlace} (h : DataW.trod enc Tryz.prog w 0 (fun _ => true) true fuel 22 cs = some x) :
    ∃ (A : Option Addr) (n c : Nat) (xs : Bytes), cs = [.slice A n c] ∧ xs.length = n ∧ Src w (.slice A n c) xs ∧ ((∀ q ∈ x.1.weights Tryz.prog 22, q ≤ reachBytes) → OkB xs) := by
  rcases open_ints Tryz.underlying22 Tryz.underlying5 (by kernel_rfl) h with ⟨hcs, _⟩ | ⟨a, len, cap, zs, hcs, _, hl, hm, hz, hx, hc, hw⟩
  · exact ⟨none, 0, 0, [], hcs, rfl, Src.nil_ w, fun _ => Nat.zero_le _⟩
  · have hz' : zs.length = cap := by simpa using hz
    have hxl : ((zs.take len).map (fun n => UInt8.ofNat n.toNat)).length = len := by simp; omega
    refine ⟨some a, len, cap, (zs.take len).map (fun n => UInt8.ofNat n.toNat), hcs, hxl, ⟨some a, cap, by rw [hxl], ⟨rfl, fun h0 => ⟨a, rfl, ?_⟩⟩, (fun e => by cases e), by rw [hxl]; exact hl, by simp only [maxLen] at hm; omega⟩, fun hq => ?_⟩
    case refine_2 =>
      have h1 := hq (((lits IntKind.u8 (zs.take len)).length + (lits IntKind.u8 (zs.drop len)).length) * Tryz.prog.bytesOf 5) (by rw [hx]; simp only [DataW.weights, Tryz.underlying22]; exact List.mem_cons_self)
      rw [show Tryz.prog.bytesOf 5 = 1 by kernel_rfl, Nat.mul_one] at h1
      have h2 := reachBytes_lt
      have h3 : (lits (H := H) IntKind.u8 (zs.take len)).length = len := by simp [lits]; omega
      unfold OkB
      rw [hxl]
      omega
    intro j u hu
    simp only [cb, List.getElem?_map, List.map_map] at hu
    have hj : j < len := by
      rcases Nat.lt_or_ge j len with h | h
      · exact h
      · rw [List.getElem?_eq_none (by simp; omega)] at hu; cases hu
    rw [List.getElem?_take, if_pos hj, List.getElem?_eq_getElem (by omega)] at hu
    simp only [Option.map_some, Option.some.injEq, Function.comp] at hu
    rw [hc j (by omega), ← hu]
    have hwf := hw zs[j] (List.getElem_mem (by omega))
    have hr : 0 ≤ zs[j] ∧ zs[j] ≤ 255 := by simpa [Lit.wf, IntKind.min, IntKind.max, IntKind.signed, IntKind.bits] using hwf
    rw [List.getD_eq_getElem?_getD, List.getElem?_eq_getElem (by omega)]
    simp
    omega
theorem list_of {α : Type} (P : Nat → α → Prop) : ∀ n : Nat, (∀ i, i < n → ∃ o, P i o) → ∃ l : List α, l.length = n ∧ ∀ i o, l[i]? = some o → P i o
  | 0, _ => ⟨[], rfl, fun i o h => by simp at h⟩
  | n + 1, h => by
    obtain ⟨l, hl, hp⟩ := list_of P n (fun i hi => h i (by omega))
    obtain ⟨o, ho⟩ := h n (by omega)
    refine ⟨l ++ [o], by simp [hl], fun i o' hi => ?_⟩
    rw [List.getElem?_append] at hi
    split at hi
    · exact hp i o' hi
    · rename_i hlt
      have : i - l.length = 0 := by
        rcases Nat.eq_zero_or_pos (i - l.length) with h | h
        · exact h
        · rw [List.getElem?_eq_none (by simp; omega)] at hi; cases hi
      have hin : i = n := by omega
      rw [this] at hi
      simp at hi
      subst hi hin
      exact ho
theorem spot_of {w : World} {a : Addr} {v : Value} (h : w.cell? (a.add 0) = some v) : a = ⟨a.block, a.off, none⟩ := by
  have e : a.add 0 = a := by cases a; simp [Addr.add]
  rw [e] at h
  unfold World.cell? at h
  split at h
  · split at h
    · cases h
    · rename_i hs
      cases a
      simp at hs ⊢
      exact hs
  · cases h
theorem flat_at {z : Nat} : ∀ {L : List (List Value)}, (∀ c ∈ L, c.length = z) → ∀ {j : Nat} {u : Value}, L.flatten[j]? = some u → ∃ (i r : Nat) (c : List Value), L[i]? = some c ∧ c[r]? = some u ∧ j = i * z + r
  | [], _, j, u, h => by simp at h
  | c :: L, hl, j, u, h => by
    have hc : c.length = z := hl c (by simp)
    rw [List.flatten_cons, List.getElem?_append] at h
    split at h
    · exact ⟨0, j, c, rfl, h, by simp⟩
    · obtain ⟨i, r, d, h1, h2, h3⟩ := flat_at (fun d hd => hl d (List.mem_cons_of_mem _ hd)) h
      refine ⟨i + 1, r, d, by simpa using h1, h2, ?_⟩
      rw [Nat.succ_mul]
      omega
theorem flat_len {z : Nat} : ∀ {L : List (List Value)}, (∀ c ∈ L, c.length = z) → L.flatten.length = L.length * z
  | [], _ => by simp
  | c :: L, hl => by
    have hc : c.length = z := hl c (by simp)
    have := flat_len (L := L) fun d hd => hl d (List.mem_cons_of_mem _ hd)
    rw [List.flatten_cons, List.length_append, List.length_cons, Nat.succ_mul]
    omega
theorem den_flat {α : Type} {At : α → List Value → Prop} : ∀ {L : List (α × List Value)}, (∀ p ∈ L, At p.1 p.2) → Den At (L.map (·.1)) ((L.map (·.2)).flatten)
  | [], _ => rfl
  | p :: L, h => ⟨p.2, _, by simp, h p (by simp), den_flat fun q hq => h q (List.mem_cons_of_mem _ hq)⟩
theorem rw_open {α : Type} (E : El α) (Q : α → Prop) {t e : TypeId} (ht : Tryz.prog.underlying t = some (.slice e)) (hz : Tryz.prog.cellsOf e = E.z) (hz0 : 0 < E.z)
    (open1 : ∀ {fuel : Nat} {cs : List Value} {x : DataW H × List MemPlace}, cs.length = E.z → DataW.trod enc Tryz.prog w 0 (fun _ => true) true fuel e cs = some x → ∃ y, E.At w y cs ∧ ((∀ q ∈ x.1.weights Tryz.prog e, q ≤ reachBytes) → Q y))
    {fuel : Nat} {cs : List Value} {x : DataW H × List MemPlace} (h : DataW.trod enc Tryz.prog w 0 (fun _ => true) true fuel t cs = some x) :
    ∃ (A : Option Addr) (n c : Nat) (l : List α), cs = [.slice A n c] ∧ Rw E w (.slice A n c) l ∧ n = l.length ∧ ((∀ q ∈ x.1.weights Tryz.prog t, q ≤ reachBytes) → n * Tryz.prog.bytesOf e ≤ reachBytes ∧ ∀ y ∈ l, Q y) := by
  rcases open_slice ht h with ⟨hcs, _⟩ | ⟨a, len, cap, m, n, D, Pl, hcs, _, hl, hm, hmm, hx, hi⟩
  · exact ⟨none, 0, 0, [], hcs, Rw.nil_ w, rfl, fun _ => ⟨by rw [Nat.zero_mul]; exact Nat.zero_le _, fun y hy => nomatch hy⟩⟩
  · have hm' : m = cap := by simpa using hmm
    rw [hz] at hi
    have hspot : 0 < len → a = ⟨a.block, a.off, none⟩ := by
      intro h0
      obtain ⟨cs', hc, _⟩ := hi 0 (by omega)
      obtain ⟨_, hcl, hat⟩ := World.cells?_some hc
      have e : a.add (0 * E.z) = a := by cases a; simp [Addr.add]
      rw [e] at hat
      have h1 := hat 0 (by omega)
      rw [List.getElem?_eq_getElem (by omega)] at h1
      exact spot_of h1
    have each : ∀ i, i < len → ∃ o : α × List Value, (E.At w o.1 o.2 ∧ ((∀ q ∈ (D i).weights Tryz.prog e, q ≤ reachBytes) → Q o.1)) ∧ a = ⟨a.block, a.off, none⟩ ∧ a.block < w.heap.size ∧ ∀ r u, o.2[r]? = some u → w.cell? ⟨a.block, a.off + i * E.z + r, none⟩ = some u := by
      intro i hil
      obtain ⟨cs', hc, ht'⟩ := hi i (by omega)
      obtain ⟨_, hcl, hat⟩ := World.cells?_some hc
      obtain ⟨y, hy, hqy⟩ := open1 hcl ht'
      have hasp := hspot (by omega)
      have h0 := hat 0 (by omega)
      rw [List.getElem?_eq_getElem (by omega)] at h0
      have hblt := World.block_lt_of_cell? w _ h0
      rw [hasp, Addr.add_lit, Addr.add_lit] at hblt
      refine ⟨(y, cs'), ⟨hy, hqy⟩, hasp, hblt, fun r u hr => ?_⟩
      have hrz : r < E.z := by have := (List.getElem?_eq_some_iff.1 hr).1; simp only at this; omega
      have h1 := hat r hrz
      rw [hasp, Addr.add_lit, Addr.add_lit] at h1
      rw [h1]
      exact hr
    obtain ⟨l, hll, hlp⟩ := list_of _ len each
    have hmem : ∀ p ∈ l, E.At w p.1 p.2 := fun p hp => by
      obtain ⟨i, hi'⟩ := List.getElem?_of_mem hp
      exact (hlp i p hi').1.1
    have hlen : ∀ c ∈ l.map (·.2), c.length = E.z := fun c hc => by
      obtain ⟨p, hp, rfl⟩ := List.mem_map.1 hc
      exact E.len (hmem p hp)
    refine ⟨some a, len, cap, l.map (·.1), hcs, ⟨some a, cap, (l.map (·.2)).flatten, by rw [List.length_map, hll], den_flat hmem, fun h0 => ?_, (fun e => by cases e), by rw [List.length_map]; omega, by simp only [maxLen] at hm; omega⟩, by rw [List.length_map, hll], fun hq => ⟨?_, fun y hy => ?_⟩⟩
    case refine_3 =>
      obtain ⟨p, hp, rfl⟩ := List.mem_map.1 hy
      obtain ⟨i, hi'⟩ := List.getElem?_of_mem hp
      have hil : i < len := by rw [← hll]; exact (List.getElem?_eq_some_iff.1 hi').1
      refine (hlp i p hi').1.2 fun q h => hq q ?_
      rw [hx]
      simp only [DataW.weights, ht]
      exact List.mem_cons_of_mem _ (List.mem_append_left _ (weightsAll_mem (d := D i) (List.mem_map_of_mem (List.mem_range.2 hil)) q h))
    case refine_2 =>
      have h1 : (((List.range len).map D).length + ((List.range (m - len)).map fun j => D (len + j)).length) * Tryz.prog.bytesOf e ∈ x.1.weights Tryz.prog t := by
        rw [hx]
        simp only [DataW.weights, ht]
        exact List.mem_cons_self
      have h2 := hq _ h1
      simp only [List.length_map, List.length_range] at h2
      exact Nat.le_trans (Nat.mul_le_mul_right _ (by omega)) h2
    have hl0 : 0 < l.length := by
      rw [flat_len hlen, List.length_map] at h0
      exact Nat.pos_of_mul_pos_right h0
    obtain ⟨o, ho⟩ : ∃ o, l[0]? = some o := ⟨_, List.getElem?_eq_getElem hl0⟩
    obtain ⟨_, e1, e2, _⟩ := hlp 0 o ho
    refine ⟨a.block, a.off, by rw [← e1], e2, fun j u hu => ?_⟩
    obtain ⟨i, r, c, h1, h2, rfl⟩ := flat_at hlen hu
    rw [List.getElem?_map, Option.map_eq_some_iff] at h1
    obtain ⟨p, hp, rfl⟩ := h1
    have := (hlp i p hp).2.2.2 r u h2
    rwa [Nat.add_assoc] at this
theorem wt_open {fuel : Nat} {cs : List Value} {x : DataW H × List MemPlace} (hcl : cs.length = 2) (h : DataW.trod enc Tryz.prog w 0 (fun _ => true) true fuel 68 cs = some x) : ∃ y, wrE.At w y cs ∧ ((∀ q ∈ x.1.weights Tryz.prog 68, q ≤ reachBytes) → OkY y) := by
  obtain ⟨v0, v1, rfl⟩ : ∃ v0 v1, cs = [v0, v1] := by
    match cs, hcl with
    | [v0, v1], _ => exact ⟨v0, v1, rfl⟩
  obtain ⟨ys, n', _, hy, _, hyl, hf⟩ := DataW.trod_struct Tryz.underlying68 h
  have c3 : Tryz.prog.cellsOf 3 = 1 := by kernel_rfl
  have c25 : Tryz.prog.cellsOf 22 = 1 := by kernel_rfl
  have hyl' : ys.length = 2 := hyl
  obtain ⟨y0, y1, rfl⟩ : ∃ y0 y1, ys = [y0, y1] := by
    match ys, hyl' with
    | [y0, y1], _ => exact ⟨y0, y1, rfl⟩
  have t0 : DataW.trod enc Tryz.prog w 0 (fun _ => true) true n' 3 (([v0, v1].drop 0).take (Tryz.prog.cellsOf 3)) = some y0 := hf 0 _ rfl
  have t1 : DataW.trod enc Tryz.prog w 0 (fun _ => true) true n' 22 (([v0, v1].drop 1).take (Tryz.prog.cellsOf 22)) = some y1 := hf 1 _ rfl
  rw [c3] at t0
  rw [c25] at t1
  obtain ⟨s, e0, hs⟩ := int_open t0
  obtain ⟨A, n, c, xs, e1, hx, sx, wx⟩ := bytes_open t1
  simp only [List.drop_zero, List.drop_succ_cons, List.take_succ_cons, List.take_zero, List.cons.injEq, and_true] at e0 e1
  subst e0 e1 hx
  refine ⟨(s, xs), ⟨A, c, rfl, sx⟩, fun hq => ⟨hs, wx fun q h => hq q ?_⟩⟩
  rw [hy]
  simp only [DataW.weights, Tryz.underlying68]
  exact DataW.weights_mem_each (j := 1) (t := 22) (d := y1.1) rfl rfl q h
set_option maxRecDepth 100000 in
theorem wts_arg {base : Nat} {v : Value} {d : DataW H} {p : List MemPlace} (hv : Value.okWide Tryz.prog w .any base 23 v) (h : DataW.Trod enc Tryz.prog w 0 (fun _ => true) true 23 v d p) (hq : ∀ q ∈ d.weights Tryz.prog 23, q ≤ reachBytes) :
    ∃ (A : Option Addr) (n c : Nat) (l : List Wt), v = .slice A n c ∧ Wts w (.slice A n c) l ∧ ∀ x ∈ l, OkY x := by
  obtain ⟨fuel, hf⟩ := h
  obtain ⟨A, n, c, l, e, hl, _, hz⟩ := rw_open wrE OkY Tryz.underlying23 (by kernel_rfl) (by decide) (fun hc hh => wt_open hc hh) hf
  obtain ⟨a', l', c', rfl⟩ := okWide_slice Tryz.underlying23 hv
  have e2 : Value.slice a' l' c' = .slice A n c := by simpa [Value.cells] using e
  exact ⟨A, n, c, l, e2, hl, (hz hq).2⟩
theorem later {t : TypeId} (hr : Tryz.prog.readableRec t = true) (hrow : t < Tryz.prog.types.size) {W W' : World} {v : Value} {d : DataW H} {ps : List MemPlace} {sp : Nat → Bool}
    (h : DataW.Trod enc Tryz.prog W 0 (fun _ => true) true t v d ps) (hb : Below W.heap.size W W') (hlt : ∀ x ∈ ps, x.block < W.heap.size) (hs : ∀ x ∈ ps, sp x.block = true) : DataW.Trod enc Tryz.prog W' 0 sp true t v d ps :=
  WideElems.Trod_stays Tryz.laidOut hr hrow h (fun x hx => hb.same (hlt x hx)) hs

/-- The row's last step, where of what is new only its being new is known. -/
theorem post_new {f : Func} {s : ChangeSpec} {W W' : World} {args : Array Value} {v : Value} {ds gs : List (DataW H)} {before pa pv : List MemPlace}
    (hW : DataW.Whole enc Tryz.prog f.params.toList s.vars false W args.toList ds gs before)
    (hres : ∀ (b : Nat) (sp : Nat → Bool) (hd : Bool), DataW.TrodAll enc Tryz.prog W' b sp hd f.resultTypes.toList (v.resultList f.resultTypes.size) (s.fn H (ds ++ gs)).results [])
    (hargs : ∀ sp : Nat → Bool, (∀ p ∈ before, sp p.block = true) → DataW.TrodAll enc Tryz.prog W' 0 sp true f.params.toList args.toList (s.fn H (ds ++ gs)).args pa)
    (hvars : ∀ sp : Nat → Bool, (∀ p ∈ before, sp p.block = true) → DataW.TrodVars enc Tryz.prog W' sp s.vars (s.fn H (ds ++ gs)).vars pv)
    (hps : before = pa ++ pv) (hb : Below W.heap.size W W') :
    s.post enc Tryz.prog f false true false false W args v W' := by
  have hlt : ∀ p ∈ before, p.block < W.heap.size := fun p hp => hW.lt p hp
  have hold : ∀ p ∈ before, (fun b => decide (b < W.heap.size)) p.block = true := fun p hp => by simpa using hlt p hp
  refine ⟨ds, gs, before, [], pa, pv, hW, hres _ _ _, hargs _ hold, hvars _ hold, World.keptBut_mono (fun p hp => ⟨hp, ?_⟩) (hb.frame (· ∈ before)), fun h => (nomatch h)⟩
  rw [hps, List.mem_append] at hp
  exact Or.inr hp
end
end Go.Proofs.YtbpldkhgiddmlaaGreatDoor
