/-
  What the row's condition on the table of the generations says of its cells; the arguments read: an item, a node, bytes, a number; the rows' last step.
-/
import Derived.Test.YtoghojgajpfkkaaGreatDoorGa
import Derived.OpenShut
import Derived.LaidOnce
import Derived.SizedLaws
import Derived.ProofKit
import Derived.Deep.Slices
import Derived.Deep.Fields
import Derived.ChangeSame
set_option linter.unusedVariables false
namespace Go.Proofs.YtoghojgajpfkkaaGreatDoor
open Go.ChangeShapes Go.WideShapes Go.ChangeAt Go.RowKit Go.Deep

theorem Tryz.own : ownKnob Tryz.prog.godebug = none := by kernel_rfl
theorem Tryz.laidOut : laidOutB Tryz.prog = true := by kernel_rfl

section
variable {H : Type} {enc : TypeId × Value → H} {w : World} {sp : Nat → Bool} {held : Bool}
theorem i64_cell {fuel : Nat} {cs : List Value} {x : DataW H × List MemPlace} {a : Int} (h : DataW.trod enc Tryz.prog w 0 sp held fuel 3 cs = some x) (hx : x.1 = .lit (.int .i64 a)) : cs = [.int .i64 a] := by
  obtain ⟨n, rfl, rfl, _⟩ := DataW.trod_int Tryz.underlying3 h
  simp only [DataW.lit.injEq, Lit.int.injEq, true_and] at hx
  rw [hx]
theorem gen_open {fuel : Nat} {cs : List Value} {x : DataW H × List MemPlace} {a b c d : Int} (hcl : cs.length = 4) (h : DataW.trod enc Tryz.prog w 0 sp held fuel 119 cs = some x)
    (hx : x.1 = .agg [.lit (.int .i64 a), .lit (.int .i64 b), .lit (.int .i64 c), .lit (.int .i64 d)]) : cs = [.int .i64 a, .int .i64 b, .int .i64 c, .int .i64 d] := by
  obtain ⟨v0, v1, v2, v3, rfl⟩ : ∃ v0 v1 v2 v3, cs = [v0, v1, v2, v3] := by
    match cs, hcl with
    | [v0, v1, v2, v3], _ => exact ⟨v0, v1, v2, v3, rfl⟩
  obtain ⟨ys, n', _, rfl, _, hyl, hf⟩ := DataW.trod_struct Tryz.underlying119 h
  have c3 : Tryz.prog.cellsOf 3 = 1 := by kernel_rfl
  have hyl' : ys.length = 4 := hyl
  obtain ⟨y0, y1, y2, y3, rfl⟩ : ∃ y0 y1 y2 y3, ys = [y0, y1, y2, y3] := by
    match ys, hyl' with
    | [y0, y1, y2, y3], _ => exact ⟨y0, y1, y2, y3, rfl⟩
  simp only [List.map_cons, List.map_nil, DataW.agg.injEq, List.cons.injEq, and_true] at hx
  obtain ⟨x0, x1, x2, x3⟩ := hx
  have t0 : DataW.trod enc Tryz.prog w 0 sp held n' 3 (([v0, v1, v2, v3].drop 0).take (Tryz.prog.cellsOf 3)) = some y0 := hf 0 _ rfl
  have t1 : DataW.trod enc Tryz.prog w 0 sp held n' 3 (([v0, v1, v2, v3].drop 1).take (Tryz.prog.cellsOf 3)) = some y1 := hf 1 _ rfl
  have t2 : DataW.trod enc Tryz.prog w 0 sp held n' 3 (([v0, v1, v2, v3].drop 2).take (Tryz.prog.cellsOf 3)) = some y2 := hf 2 _ rfl
  have t3 : DataW.trod enc Tryz.prog w 0 sp held n' 3 (([v0, v1, v2, v3].drop 3).take (Tryz.prog.cellsOf 3)) = some y3 := hf 3 _ rfl
  rw [c3] at t0 t1 t2 t3
  have e0 := i64_cell t0 x0
  have e1 := i64_cell t1 x1
  have e2 := i64_cell t2 x2
  have e3 := i64_cell t3 x3
  simp only [List.drop_zero, List.drop_succ_cons, List.take_succ_cons, List.take_zero, List.cons.injEq, and_true] at e0 e1 e2 e3
  rw [e0, e1, e2, e3]
theorem gens_open {fuel : Nat} {cs : List Value} {x : DataW H × List MemPlace} (h : DataW.trod enc Tryz.prog w 0 sp held fuel 130 cs = some x) (hx : x.1 = Rows.laid_regauge_item_gens) : cs = gcells := by
  obtain ⟨ys, n', _, rfl, hcl, hyl, hf⟩ := DataW.trod_array Tryz.underlying130 h
  have c0 : Tryz.prog.cellsOf 130 = 16 := by kernel_rfl
  have c1 : Tryz.prog.cellsOf 119 = 4 := by kernel_rfl
  rw [c0] at hcl
  rw [c1] at hf
  obtain ⟨y0, y1, y2, y3, rfl⟩ : ∃ y0 y1 y2 y3, ys = [y0, y1, y2, y3] := by
    match ys, hyl with
    | [y0, y1, y2, y3], _ => exact ⟨y0, y1, y2, y3, rfl⟩
  unfold Rows.laid_regauge_item_gens at hx
  simp only [List.map_cons, List.map_nil, DataW.agg.injEq, List.cons.injEq, and_true] at hx
  obtain ⟨x0, x1, x2, x3⟩ := hx
  have e0 := gen_open (by simp; omega) (hf 0 (by decide)) x0
  have e1 := gen_open (by simp; omega) (hf 1 (by decide)) x1
  have e2 := gen_open (by simp; omega) (hf 2 (by decide)) x2
  have e3 := gen_open (by simp; omega) (hf 3 (by decide)) x3
  have s : cs = (cs.drop (0 * 4)).take 4 ++ ((cs.drop (1 * 4)).take 4 ++ ((cs.drop (2 * 4)).take 4 ++ (cs.drop (3 * 4)).take 4)) := by
    match cs, hcl with
    | [_, _, _, _, _, _, _, _, _, _, _, _, _, _, _, _], _ => rfl
  rw [s, e0, e1, e2, e3]
  rfl
end
theorem gens_of_laid {W : World} (h : laidMetH Tryz.prog [("regauge/item.gens", Rows.laid_regauge_item_gens)] W) : Gens W := by
  rw [MakeChecks.laidMetH_plain _ _ _ (by kernel_rfl)] at h
  obtain ⟨ps, ⟨g', t', cs, fuel, p, q, hg', ht', hvar, hd, _, _⟩, _⟩ := h
  have hg : Tryz.prog.globalNamed "regauge/item.gens" = some 0 := by kernel_rfl
  have hty : (Tryz.prog.globals[0]?).map (·.type) = some 130 := by kernel_rfl
  obtain rfl := Option.some.inj (hg.symm.trans hg')
  obtain rfl := Option.some.inj (hty.symm.trans ht')
  have e := gens_open hd rfl
  have hc : ∀ (i : Nat) v, gcells[i]? = some v → W.cell? ⟨0, i, none⟩ = some v := fun i v hv => by
    rw [World.var?_cell hg' hvar i, ← Array.getElem?_toList, e]
    exact hv
  exact ⟨World.block_lt_of_cell? W _ (hc 0 _ rfl), hc⟩

section
variable {H : Type} {enc : TypeId × Value → H} {w : World}
theorem bytes_open {fuel : Nat} {cs : List Value} {x : DataW H × List MemPlace} (h : DataW.trod enc Tryz.prog w 0 (fun _ => true) true fuel 22 cs = some x) :
    ∃ (A : Option Addr) (n c : Nat) (xs : Bytes), cs = [.slice A n c] ∧ xs.length = n ∧ Src w (.slice A n c) xs := by
  rcases open_ints Tryz.underlying22 Tryz.underlying5 (by kernel_rfl) h with ⟨hcs, _⟩ | ⟨a, len, cap, zs, hcs, _, hl, hm, hz, _, hc, hw⟩
  · exact ⟨none, 0, 0, [], hcs, rfl, Src.nil_ w⟩
  · have hz' : zs.length = cap := by simpa using hz
    have hxl : ((zs.take len).map (fun n => UInt8.ofNat n.toNat)).length = len := by simp; omega
    refine ⟨some a, len, cap, (zs.take len).map (fun n => UInt8.ofNat n.toNat), hcs, hxl, some a, cap, by rw [hxl], ⟨rfl, fun h0 => ⟨a, rfl, ?_⟩⟩, (fun e => by cases e), by rw [hxl]; exact hl, by simp only [maxLen] at hm; omega⟩
    intro j u hu
    simp only [cb, List.getElem?_map, List.map_map] at hu
    have hj : j < len := by
      rcases Nat.lt_or_ge j len with h | h
      · exact h
      · rw [List.getElem?_eq_none (by simp; omega)] at hu; cases hu
    rw [List.getElem?_take, if_pos hj, List.getElem?_eq_getElem (by omega)] at hu
    simp only [Option.map_some, Option.some.injEq, Function.comp] at hu
    rw [hc j (by omega), ← hu]
    have hwf := hw zs[j] (List.getElem_mem (by omega))
    have hr : 0 ≤ zs[j] ∧ zs[j] ≤ 255 := by simpa [Lit.wf, IntKind.min, IntKind.max, IntKind.signed, IntKind.bits] using hwf
    rw [List.getD_eq_getElem?_getD, List.getElem?_eq_getElem (by omega)]
    simp
    omega
/-- An argument reads behind the call as it read before. -/
theorem later {t : TypeId} (hr : Tryz.prog.readableRec t = true) (hrow : t < Tryz.prog.types.size) {W W' : World} {v : Value} {d : DataW H} {ps : List MemPlace} {sp : Nat → Bool}
    (h : DataW.Trod enc Tryz.prog W 0 (fun _ => true) true t v d ps) (hb : Below W.heap.size W W') (hlt : ∀ x ∈ ps, x.block < W.heap.size) (hs : ∀ x ∈ ps, sp x.block = true) : DataW.Trod enc Tryz.prog W' 0 sp true t v d ps :=
  WideElems.Trod_stays Tryz.laidOut hr hrow h (fun x hx => hb.same (hlt x hx)) hs

/-- The row's last step, where of what is new only its being new is known. -/
theorem post_new {f : Func} {s : ChangeSpec} {W W' : World} {args : Array Value} {v : Value} {ds gs : List (DataW H)} {before pa pv : List MemPlace}
    (hW : DataW.Whole enc Tryz.prog f.params.toList s.vars false W args.toList ds gs before)
    (hres : ∀ (b : Nat) (sp : Nat → Bool) (hd : Bool), DataW.TrodAll enc Tryz.prog W' b sp hd f.resultTypes.toList (v.resultList f.resultTypes.size) (s.fn H (ds ++ gs)).results [])
    (hargs : ∀ sp : Nat → Bool, (∀ p ∈ before, sp p.block = true) → DataW.TrodAll enc Tryz.prog W' 0 sp true f.params.toList args.toList (s.fn H (ds ++ gs)).args pa)
    (hvars : ∀ sp : Nat → Bool, (∀ p ∈ before, sp p.block = true) → DataW.TrodVars enc Tryz.prog W' sp s.vars (s.fn H (ds ++ gs)).vars pv)
    (hps : before = pa ++ pv) (hb : Below W.heap.size W W') :
    s.post enc Tryz.prog f false true false false W args v W' := by
  have hlt : ∀ p ∈ before, p.block < W.heap.size := fun p hp => hW.lt p hp
  have hold : ∀ p ∈ before, (fun b => decide (b < W.heap.size)) p.block = true := fun p hp => by simpa using hlt p hp
  refine ⟨ds, gs, before, [], pa, pv, hW, hres _ _ _, hargs _ hold, hvars _ hold, World.keptBut_mono (fun p hp => ⟨hp, ?_⟩) (hb.frame (· ∈ before)), fun h => (nomatch h)⟩
  rw [hps, List.mem_append] at hp
  exact Or.inr hp
end
end Go.Proofs.YtoghojgajpfkkaaGreatDoor
